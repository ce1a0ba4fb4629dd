/- at: the value at a path. down: what holds between the steps of the way down. -/
import Derived.Test.YtpdmkhnonbbhnaaMrx
import Derived.Deep.AppendLies
namespace Go.Proofs.Ytpdmkhnonbbhnaa
open Go.RowKit Go.Maps

theorem valAt_none {vs : List Pt} {a : List Nat} (ha : a ≠ []) (h : valAt vs a = none) : ∀ b : List Nat, valAt vs (a ++ b) = none
  | [] => by rw [List.append_nil]; exact h
  | i :: b => by
    have : valAt vs (a ++ [i]) = none := by rw [valAt_snoc _ _ _ ha, h]; rfl
    have := valAt_none (by simp) this b
    rw [List.append_assoc] at this
    exact this
theorem take_ne {path : List Nat} {i : Nat} (h0 : 0 < i) (h : i ≤ path.length) : path.take i ≠ [] := fun e => by
  have := congrArg List.length e
  rw [List.length_take, List.length_nil] at this
  omega
structure AtW (w : World) (k : Int) (s : Str) (n : Int) (a : Option Addr) (l c : Nat) (wr : World) : Prop where
  below : Below w.heap.size w wr
  size : w.heap.size + 2 ≤ wr.heap.size
  res : wr.heap[w.heap.size]? = some (.cells #[.int .i64 0, .string ⟨#[]⟩, .int .i64 0, .slice none 0 0] 39 (0, 0))
  xb : wr.heap[w.heap.size + 1]? = some (.cells #[.int .i64 k, .string ⟨s.toArray⟩, .int .i64 n, .slice a l c] 39 (0, 0))
/-- Where the way stands. -/
def AtC (vs : List Pt) (path : List Nat) (i : Nat) (cur : List Pt) (k : Int) (s : Str) (n : Int) : Prop := (i = 0 → cur = vs) ∧ (0 < i → ∃ y, valAt vs (path.take i) = some y ∧ cur = y.kids ∧ k = y.kind ∧ s = y.name ∧ n = y.num)
theorem AtC.next {vs : List Pt} {path : List Nat} {i : Nat} {cur : List Pt} {k : Int} {s : Str} {n : Int} (h : AtC vs path i cur k s n) (hi : i < path.length) : valAt vs (path.take (i + 1)) = cur[path[i]]? := by
  rw [List.take_add_one, List.getElem?_eq_getElem hi]
  show valAt vs (path.take i ++ [path[i]]) = _
  by_cases h0 : i = 0
  · rw [h.1 h0]
    subst h0
    rw [List.take_zero]
    show (vs[path[0]]?).bind (fun y => some y) = _
    cases vs[path[0]]? <;> rfl
  · obtain ⟨y, h1, h2, _⟩ := h.2 (by omega)
    rw [valAt_snoc _ _ _ (take_ne (by omega) (by omega)), h1, h2]
    rfl
def AtPost (vs : List Pt) (path : List Nat) (w : World) (r : Ending) (w' : World) : Prop := Below w.heap.size w w' ∧ ∃ (k : Int) (s : Str) (n : Int) (a : Option Addr) (l c : Nat), r = .returned (.tuple #[.agg #[.int .i64 k, .string ⟨s.toArray⟩, .int .i64 n, .slice a l c], .bool (valAt vs path).isSome]) ∧ ∀ x, valAt vs path = some x → k = x.kind ∧ s = x.name ∧ n = x.num
set_option maxHeartbeats 8000000 in
set_option maxRecDepth 10000 in
theorem at_any {w : World} {S : Nat → Prop} (vs : List Pt) (path : List Nat) (v u : Value) (hS : ∀ b, S b → b < w.heap.size) (hV : Pats w S v vs) (hP : Nats w S u path) (hpl : path.length < 140737488355328) :
    Calls Try.prog 27 #[v, u] w (AtPost vs path w) := by
  obtain ⟨va, vc, rfl, hvow⟩ := RowP.open hV
  obtain ⟨pa, pc, rfl, hrow⟩ := RowP.open hP
  have HS : Hid (∀ b, S b → b < w.heap.size) := hS
  have HV : Hid (Pats w S (.slice va vs.length vc) vs) := hV
  have HR : Hid (path ≠ [] → ∃ g o, pa = some ⟨g, o, none⟩ ∧ path.length ≤ pc ∧ ∀ j (h : j < path.length), S g ∧ w.cell? ⟨g, o + j * 1, none⟩ = some (.int .i64 (path[j] : Nat))) := hrow
  clear hS hV hP hrow hvow
  go_enter Try.func27, Try.ntmps27
  go_wp2
  have HST : Hid (AtW w 0 [] 0 none 0 0 ((w.alloc (Obj.cells #[.int .i64 0, .string ⟨#[]⟩, .int .i64 0, .slice none 0 0] 39)).alloc (Obj.cells #[.int .i64 0, .string ⟨#[]⟩, .int .i64 0, .slice none 0 0] 39))) := by
    refine ⟨((Below.refl _ _).alloc (Nat.le_refl _) _).alloc (by simp) _, by simp, ?_, ?_⟩
    · rw [Below.heap_alloc _ _ _ (by simp)]
      exact new_block _ _
    · have e : (w.alloc (Obj.cells #[.int .i64 0, .string ⟨#[]⟩, .int .i64 0, .slice none 0 0] 39)).heap.size = w.heap.size + 1 := by simp
      rw [← e]
      exact new_block _ _
  go_loopw [0, 7] (fun vv iv wr => ∃ (i : Nat) (cur : List Pt) (a : Option Addr) (c : Nat) (k : Int) (s : Str) (n : Int) (xa : Option Addr) (xl xc : Nat), i ≤ path.length ∧ iv = .int .i64 i ∧ vv = .slice a cur.length c ∧ Hid (AtW w k s n xa xl xc wr ∧ Pats w S (.slice a cur.length c) cur ∧ AtC vs path i cur k s n)) (fun _ iv _ => path.length - (intOf iv).toNat)
  case atStart => exact ⟨0, vs, va, vc, 0, [], 0, none, 0, 0, by omega, by go_num, rfl, HST.out, HV.out, fun _ => rfl, fun h => absurd h (by omega)⟩
  case round =>
    obtain ⟨i, cur, a, c, k, s, n, xa, xl, xc, hi, rfl, rfl, HW⟩ := hrel
    clear HST
    by_cases hlt : i < path.length
    · obtain ⟨g, o, rfl, hc, hr⟩ := HR.out (fun e => by rw [e] at hlt; simp at hlt)
      obtain ⟨s0, q0⟩ := hr i hlt
      have hk := Keeps.of HW.out.1.below HS.out
      have q0 := (hk.cell (p := ⟨g, o + i * 1, none⟩) s0).trans q0
      rw [Nat.mul_one] at q0
      have HNX : Hid (valAt vs (path.take (i + 1)) = cur[path[i]]?) := HW.out.2.2.next hlt
      have i1 : (0 : Int) ≤ (i : Int) := by omega
      have i2 : (i : Int) < (path.length : Int) := by omega
      clear hr
      generalize path[i] = p at *
      have HI : Hid (i < path.length) := hlt
      have r0 : wr.cell? ⟨w.heap.size, 0, none⟩ = some (.int .i64 0) := heap_cell HW.out.1.res rfl
      have r1 : wr.cell? ⟨w.heap.size, 1, none⟩ = some (.string ⟨#[]⟩) := heap_cell HW.out.1.res rfl
      have r2 : wr.cell? ⟨w.heap.size, 2, none⟩ = some (.int .i64 0) := heap_cell HW.out.1.res rfl
      have r3 : wr.cell? ⟨w.heap.size, 3, none⟩ = some (.slice none 0 0) := heap_cell HW.out.1.res rfl
      by_cases hp : p < cur.length
      · obtain ⟨_, _, he, hcr⟩ := RowP.open HW.out.2.1
        injection he with he hx hcc
        subst he hcc
        clear hx
        obtain ⟨g', o', rfl, hc', h2⟩ := hcr (fun e => by rw [e] at hp; simp at hp)
        obtain ⟨b0, y0, y1, y2, m1, m2, ad2, cp2, y3, P2⟩ := ((h2 p hp).on hk).open
        have hky : AtC vs path (i + 1) cur[p].kids cur[p].kind cur[p].name cur[p].num := ⟨fun e => absurd e (by omega), fun _ => ⟨cur[p], by rw [HNX.out, List.getElem?_eq_getElem hp], rfl, rfl, rfl, rfl⟩⟩
        have hpk : Pats w S (.slice ad2 cur[p].kids.length cp2) cur[p].kids := by
          obtain ⟨_, _, _, _, _, _, ad3, cp3, y4, P3⟩ := (h2 p hp).open
          have y5 := (hk.cell (p := ⟨g', o' + p * 4 + 3, none⟩) b0).trans y4
          have := Option.some.inj (y5.symm.trans y3)
          rw [← this]
          exact P3
        have HK : Hid (AtC vs path (i + 1) cur[p].kids cur[p].kind cur[p].name cur[p].num ∧ Pats w S (.slice ad2 cur[p].kids.length cp2) cur[p].kids) := ⟨hky, hpk⟩
        have j1 : (0 : Int) ≤ (p : Int) := by omega
        have j2 : (p : Int) < (cur.length : Int) := by omega
        have j3 : decide ((p : Int) < 0) = false := by simp
        have j4 : decide ((cur.length : Int) ≤ (p : Int)) = false := by simp; omega
        have x0 : wr.cell? ⟨w.heap.size + 1, 0, none⟩ = some (.int .i64 k) := heap_cell HW.out.1.xb rfl
        have x1 : wr.cell? ⟨w.heap.size + 1, 1, none⟩ = some (.string ⟨s.toArray⟩) := heap_cell HW.out.1.xb rfl
        have x2 : wr.cell? ⟨w.heap.size + 1, 2, none⟩ = some (.int .i64 n) := heap_cell HW.out.1.xb rfl
        have x3 : wr.cell? ⟨w.heap.size + 1, 3, none⟩ = some (.slice xa xl xc) := heap_cell HW.out.1.xb rfl
        have z0 := heap_frozen (o := 0) HW.out.1.xb
        have z1 := heap_frozen (o := 1) HW.out.1.xb
        have z2 := heap_frozen (o := 2) HW.out.1.xb
        have z3 := heap_frozen (o := 3) HW.out.1.xb
        clear h2 hky hpk hk P2 m1 m2
        generalize cur[p].kids = ck at *
        generalize cur[p].kind = k' at *
        generalize cur[p].name = s' at *
        generalize cur[p].num = n' at *
        obtain ⟨U, hU, hUR, hUs, hUk, hUo⟩ := store4 HW.out.1.xb (.int .i64 k') (.string ⟨s'.toArray⟩) (.int .i64 n') (.slice ad2 ck.length cp2)
        have HWU : Hid (AtW w k' s' n' ad2 ck.length cp2 U) := by
          have h := HW.out.1
          exact ⟨⟨hUo.1.trans h.below.os, hUo.2.1.trans h.below.tape, hUo.2.2.trans h.below.output, by rw [hUs]; exact h.below.size, fun x hx => (hUk x (by omega)).trans (h.below.block x hx)⟩, by rw [hUs]; exact h.size, (hUk _ (by omega)).trans h.res, hUR⟩
        have u3 : U.cell? ⟨w.heap.size + 1, 3, none⟩ = some (.slice ad2 ck.length cp2) := heap_cell hUR rfl
        clear hUR hUs hUk hUo hp hlt s0 b0
        go_upto_region 8 with fail
        rw [← hU]
        clear hU
        go_wp2
        refine ⟨⟨i + 1, ck, ad2, cp2, k', s', n', ad2, ck.length, cp2, HI.out, by go_num, rfl, HWU.out, HK.out.2, HK.out.1⟩, by simp [intOf]; have := HI.out; omega⟩
      · have HNO : Hid (valAt vs path = none) := by
          have h1 : valAt vs (path.take (i + 1)) = none := by rw [HNX.out]; exact List.getElem?_eq_none (by omega)
          have := valAt_none (take_ne (by omega) (by omega)) h1 (path.drop (i + 1))
          rw [List.take_append_drop] at this
          exact this
        have j3 : decide ((p : Int) < 0) = false := by simp
        have j4 : decide (cur.length ≤ p) = true := by simp; omega
        have z0 := heap_frozen (o := 0) HW.out.1.res
        have z1 := heap_frozen (o := 1) HW.out.1.res
        have z2 := heap_frozen (o := 2) HW.out.1.res
        have z3 := heap_frozen (o := 3) HW.out.1.res
        obtain ⟨U, hU, hUR, hUs, hUk, hUo⟩ := store4 HW.out.1.res (.int .i64 0) (.string ⟨#[]⟩) (.int .i64 0) (.slice none 0 0)
        have HBU : Hid (Below w.heap.size w U) := by
          have h := HW.out.1
          exact ⟨hUo.1.trans h.below.os, hUo.2.1.trans h.below.tape, hUo.2.2.trans h.below.output, by rw [hUs]; exact h.below.size, fun x hx => (hUk x (by omega)).trans (h.below.block x hx)⟩
        have u0 := heap_cell (i := 0) hUR rfl
        have u1 := heap_cell (i := 1) hUR rfl
        have u2 := heap_cell (i := 2) hUR rfl
        have u3 := heap_cell (i := 3) hUR rfl
        clear hUR hUs hUk hUo hp hlt s0
        go_wp2
        rw [← hU]
        refine bodyPost_ret (v := .tuple #[.agg #[.int .i64 0, .string ⟨#[]⟩, .int .i64 0, .slice none 0 0], .bool false]) (by simp [results, Try.results27, go_sem, u0, u1, u2, u3]) rfl ?_
        exact ⟨HBU.out, 0, [], 0, none, 0, 0, by rw [HNO.out]; rfl, fun x hx => by rw [HNO.out] at hx; cases hx⟩
    · have hie : i = path.length := by omega
      subst hie
      have i2 : ¬ ((path.length : Nat) : Int) < (path.length : Int) := by omega
      have HOK : Hid ((valAt vs path).isSome = decide (0 < path.length) ∧ ∀ x, valAt vs path = some x → k = x.kind ∧ s = x.name ∧ n = x.num) := by
        have h := HW.out.2.2
        by_cases h0 : path.length = 0
        · have e : path = [] := List.eq_nil_of_length_eq_zero h0
          subst e
          exact ⟨rfl, fun x hx => by cases hx⟩
        · obtain ⟨y, h1, h2, h3, h4, h5⟩ := h.2 (by omega)
          rw [List.take_length] at h1
          refine ⟨?_, fun x hx => ?_⟩
          · rw [h1]
            show true = _
            symm
            exact decide_eq_true (by omega)
          · rw [h1] at hx
            obtain rfl := Option.some.inj hx
            exact ⟨h3, h4, h5⟩
      have x0 : wr.cell? ⟨w.heap.size + 1, 0, none⟩ = some (.int .i64 k) := heap_cell HW.out.1.xb rfl
      have x1 : wr.cell? ⟨w.heap.size + 1, 1, none⟩ = some (.string ⟨s.toArray⟩) := heap_cell HW.out.1.xb rfl
      have x2 : wr.cell? ⟨w.heap.size + 1, 2, none⟩ = some (.int .i64 n) := heap_cell HW.out.1.xb rfl
      have x3 : wr.cell? ⟨w.heap.size + 1, 3, none⟩ = some (.slice xa xl xc) := heap_cell HW.out.1.xb rfl
      have r0 : wr.cell? ⟨w.heap.size, 0, none⟩ = some (.int .i64 0) := heap_cell HW.out.1.res rfl
      have r1 : wr.cell? ⟨w.heap.size, 1, none⟩ = some (.string ⟨#[]⟩) := heap_cell HW.out.1.res rfl
      have r2 : wr.cell? ⟨w.heap.size, 2, none⟩ = some (.int .i64 0) := heap_cell HW.out.1.res rfl
      have r3 : wr.cell? ⟨w.heap.size, 3, none⟩ = some (.slice none 0 0) := heap_cell HW.out.1.res rfl
      have z0 := heap_frozen (o := 0) HW.out.1.res
      have z1 := heap_frozen (o := 1) HW.out.1.res
      have z2 := heap_frozen (o := 2) HW.out.1.res
      have z3 := heap_frozen (o := 3) HW.out.1.res
      obtain ⟨U, hU, hUR, hUs, hUk, hUo⟩ := store4 HW.out.1.res (.int .i64 k) (.string ⟨s.toArray⟩) (.int .i64 n) (.slice xa xl xc)
      have HBU : Hid (Below w.heap.size w U) := by
        have h := HW.out.1
        exact ⟨hUo.1.trans h.below.os, hUo.2.1.trans h.below.tape, hUo.2.2.trans h.below.output, by rw [hUs]; exact h.below.size, fun x hx => (hUk x (by omega)).trans (h.below.block x hx)⟩
      have u0 := heap_cell (i := 0) hUR rfl
      have u1 := heap_cell (i := 1) hUR rfl
      have u2 := heap_cell (i := 2) hUR rfl
      have u3 := heap_cell (i := 3) hUR rfl
      clear hUR hUs hUk hUo HR HW hi hlt
      go_wp2
      rw [← hU]
      refine bodyPost_ret (v := .tuple #[.agg #[.int .i64 k, .string ⟨s.toArray⟩, .int .i64 n, .slice xa xl xc], .bool (decide (0 < path.length))]) (by simp [results, Try.results27, go_sem, u0, u1, u2, u3]) rfl ?_
      exact ⟨HBU.out, k, s, n, xa, xl, xc, by rw [HOK.out.1], HOK.out.2⟩
end Go.Proofs.Ytpdmkhnonbbhnaa

namespace Go.Proofs.Ytpdmkhnonbbhnaa
open Go.RowKit Go.Maps

theorem Try.info28 : (Try.prog.info? 28).map (fun i => (i.zero, i.size, i.bytes)) = some (some (.slice none 0 0), 1, 24) := by kernel_rfl
theorem nats_dec {w : World} {S : Nat → Prop} (v u : Value) (l k : List Nat) (hS : ∀ b, S b → b < w.heap.size) (h : Nats w S v l) (h' : Nats w S u k) (hbig : l.length < 140737488355328) : Calls Try.prog 16 #[v, u] w fun r w' => r = .returned (.bool (decide (l = k))) ∧ Below w.heap.size w w' := by
  refine Calls.mono (ints_same v u _ _ w S hS h.ints h'.ints (by simpa using hbig)) ?_
  rintro r w' ⟨rfl, hb⟩
  refine ⟨?_, hb⟩
  have : decide (l.map (fun (n : Nat) => (n : Int)) = k.map fun (n : Nat) => (n : Int)) = decide (l = k) := by
    rw [decide_eq_decide]
    constructor
    · intro e
      have : ∀ (a b : List Nat), a.map (fun (n : Nat) => (n : Int)) = b.map (fun (n : Nat) => (n : Int)) → a = b := fun a => by
        induction a with
        | nil => intro b e; cases b with
          | nil => rfl
          | cons _ _ => simp at e
        | cons x a ih => intro b e; cases b with
          | nil => simp at e
          | cons y b =>
            rw [List.map_cons, List.map_cons] at e
            injection e with e1 e2
            rw [ih b e2, show x = y by omega]
      exact this l k e
    · intro e; rw [e]
  rw [this]
/-- The index of the last case of a value among so many. -/
def NxI {f : Nat} (x : Pt) (cs : List (Cs × Tr f)) (i : Nat) (n : Int) : Prop := (n = -1 ∧ nextP x (cs.take i) = none) ∨ ∃ (j : Nat) (h : j < cs.length), n = j ∧ nextP x (cs.take i) = some cs[j].2
theorem nextP_snoc {f : Nat} (x : Pt) (l : List (Cs × Tr f)) (c : Cs × Tr f) : nextP x (l ++ [c]) = if hit x c.1 then some c.2 else nextP x l := by
  unfold nextP
  rw [List.foldl_append]
  rfl
theorem NxI.start {f : Nat} (x : Pt) (cs : List (Cs × Tr f)) : NxI x cs 0 (-1) := .inl ⟨rfl, rfl⟩
theorem NxI.hit {f : Nat} {x : Pt} {cs : List (Cs × Tr f)} {i : Nat} (hi : i < cs.length) (hh : hit x cs[i].1 = true) : NxI x cs (i + 1) i := by
  refine .inr ⟨i, hi, rfl, ?_⟩
  rw [List.take_add_one, List.getElem?_eq_getElem hi]
  show nextP x (cs.take i ++ [cs[i]]) = _
  rw [nextP_snoc, hh]
  rfl
theorem NxI.miss {f : Nat} {x : Pt} {cs : List (Cs × Tr f)} {i : Nat} {n : Int} (h : NxI x cs i n) (hi : i < cs.length) (hh : Ytpdmkhnonbbhnaa.hit x cs[i].1 = false) : NxI x cs (i + 1) n := by
  have e : nextP x (cs.take (i + 1)) = nextP x (cs.take i) := by
    rw [List.take_add_one, List.getElem?_eq_getElem hi]
    show nextP x (cs.take i ++ [cs[i]]) = _
    rw [nextP_snoc, hh]
    rfl
  unfold NxI
  rw [e]
  exact h
/-- A path that was seen, and where it lies. -/
abbrev Sq := List Nat × Option Addr × Nat
def sqC (q : Sq) : List Value := [.slice q.2.1 q.1.length q.2.2]
theorem sqC_get : ∀ (l : List Sq) (j : Nat) (h : j < l.length), (l.flatMap sqC)[j]? = some (.slice l[j].2.1 l[j].1.length l[j].2.2)
  | a :: l, 0, _ => rfl
  | a :: l, j + 1, h => by
    rw [List.flatMap_cons]
    show (_ :: l.flatMap sqC)[j + 1]? = _
    rw [List.getElem?_cons_succ, sqC_get l j (by simpa using h)]
    rfl
def trA (k r : Int) (p c e : Option Addr × Nat × Nat) : Array Value := #[.int .i64 k, .int .i64 r, .slice p.1 p.2.1 p.2.2, .slice c.1 c.2.1 c.2.2, .slice e.1 e.2.1 e.2.2]
structure Dn (w : World) (S : Nat → Prop) (l : List Sq) (sv : Value) (a : Array Value) (wr : World) : Prop where
  below : Below w.heap.size w wr
  tree : wr.heap[w.heap.size]? = some (.cells a 32 (0, 0))
  own : wr.ownsRow (w.heap.size + 1) 28 1 sv l.length (l.flatMap sqC)
  paths : ∀ q ∈ l, Nats w S (.slice q.2.1 q.1.length q.2.2) q.1 ∧ q.1.length < 140737488355328
theorem Dn.size {w : World} {S : Nat → Prop} {l : List Sq} {sv : Value} {a : Array Value} {wr : World} (h : Dn w S l sv a wr) : w.heap.size < wr.heap.size := lt_of_heap h.tree
theorem Dn.on {w : World} {S : Nat → Prop} {l : List Sq} {sv : Value} {a : Array Value} {wr w' : World} (h : Dn w S l sv a wr) (hb : Below wr.heap.size wr w') : Dn w S l sv a w' :=
  ⟨h.below.trans (hb.mono h.below.size), (hb.block _ h.size).trans h.tree, own_keep h.own fun k hk => hb.block k (h.own.lt k hk).2, h.paths⟩
theorem Dn.seen {w : World} {S : Nat → Prop} {l : List Sq} {sv : Value} {a : Array Value} {wr : World} (h : Dn w S l sv a wr) {j : Nat} (hj : j < l.length) : ∃ g cap, sv = .slice (some ⟨g, 0, none⟩) l.length cap ∧ w.heap.size + 1 ≤ g ∧ g < wr.heap.size ∧ wr.cell? ⟨g, j, none⟩ = some (.slice l[j].2.1 l[j].1.length l[j].2.2) := by
  obtain ⟨g, cap, e, h1, h2⟩ := h.own.form (by omega)
  subst e
  refine ⟨g, cap, rfl, h1, h2, ?_⟩
  rw [h.own.cellAt j (by omega), sqC_get l j hj]
theorem Dn.snoc {w : World} {S : Nat → Prop} {l : List Sq} {sv sv' : Value} {a : Array Value} {wr w7 : World} (h : Dn w S l sv a wr) {q : Sq} (hq : Nats w S (.slice q.2.1 q.1.length q.2.2) q.1 ∧ q.1.length < 140737488355328) (ho : w7.ownsRow (w.heap.size + 1) 28 1 sv' (l.length + 1) (l.flatMap sqC ++ sqC q)) (hg : wr.grownBy w7 sv.ownBlock) : Dn w S (l ++ [q]) sv' a w7 := by
  have hvl : ∀ g, sv.ownBlock = some g → w.heap.size + 1 ≤ g ∧ g < wr.heap.size := fun g e => h.own.lt g e
  refine ⟨h.below.grown hg h.below.size (fun y e => by have := hvl y e; omega), (hg.block _ h.size fun e => by have := hvl _ e.symm; omega).trans h.tree, ?_, fun y hy => ?_⟩
  · rw [List.length_append, List.flatMap_append]
    simpa using ho
  · rcases List.mem_append.1 hy with hy | hy
    · exact h.paths y hy
    · rw [List.mem_singleton.1 hy]; exact hq
theorem Dn.turn {w : World} {S : Nat → Prop} {l : List Sq} {sv : Value} {a b : Array Value} {wr U : World} (h : Dn w S l sv a wr) (hs : U.heap.size = wr.heap.size) (ho : U.os = wr.os ∧ U.tape = wr.tape ∧ U.output = wr.output) (hk : ∀ x, x ≠ w.heap.size → U.heap[x]? = wr.heap[x]?) (ht : U.heap[w.heap.size]? = some (.cells b 32 (0, 0))) : Dn w S l sv b U :=
  ⟨⟨ho.1.trans h.below.os, ho.2.1.trans h.below.tape, ho.2.2.trans h.below.output, by rw [hs]; exact h.below.size, fun k hk' => (hk k (by omega)).trans (h.below.block k hk')⟩, ht, own_keep h.own fun k hk' => hk k (by have := (h.own.lt k hk').1; omega), h.paths⟩
theorem Dn.start {w : World} {S : Nat → Prop} (a : Array Value) : Dn w S [] (.slice none 0 0) a (w.alloc (.cells a 32 (0, 0))) :=
  ⟨(Below.refl _ _).alloc (Nat.le_refl _) _, new_block _ _, World.ownsRow_nil _ _ _ _, fun q hq => by simp at hq⟩
def sLen : Value → Nat
  | .slice _ n _ => n
  | _ => 0
theorem Dn.len {w : World} {S : Nat → Prop} {l : List Sq} {sv : Value} {a : Array Value} {wr : World} (h : Dn w S l sv a wr) : sLen sv = l.length := by
  rcases h.own.2 with ⟨e, h0⟩ | ⟨g, cap, cur, e, _⟩
  · rw [e, h0]; rfl
  · rw [e]; rfl
theorem Dn.form {w : World} {S : Nat → Prop} {l : List Sq} {sv : Value} {a : Array Value} {wr : World} (h : Dn w S l sv a wr) : ∃ sa sc, sv = .slice sa l.length sc := by
  rcases h.own.2 with ⟨e, h0⟩ | ⟨g, cap, cur, e, _⟩
  · exact ⟨none, 0, by rw [e, h0]⟩
  · exact ⟨_, _, e⟩
theorem down_leaf {f : Nat} {t : Tr (f + 1)} {vs : List Pt} {seen : List (List Nat)} (h : t.1.1 ≠ 3) : downP (f + 1) t vs seen = if t.1.1 = 2 then (t.1.2.1 : Int) else if t.1.1 = 1 then -1 else -2 := by
  conv => lhs; unfold downP
  rw [if_neg h]
theorem down_none {f : Nat} {t : Tr (f + 1)} {vs : List Pt} {seen : List (List Nat)} (h : t.1.1 = 3) (hv : valAt vs t.1.2.2 = none) : downP (f + 1) t vs seen = -2 := by
  unfold downP
  rw [if_pos h, hv]
theorem down_seen {f : Nat} {t : Tr (f + 1)} {vs : List Pt} {seen : List (List Nat)} (h : t.1.1 = 3) {x : Pt} (hv : valAt vs t.1.2.2 = some x) (hs : t.1.2.2 ∈ seen) : downP (f + 1) t vs seen = -2 := by
  unfold downP
  rw [if_pos h, hv]
  simp only
  rw [if_pos hs]
theorem down_case {f : Nat} {t : Tr (f + 1)} {vs : List Pt} {seen : List (List Nat)} (h : t.1.1 = 3) {x : Pt} (hv : valAt vs t.1.2.2 = some x) (hs : t.1.2.2 ∉ seen) {u : Tr f} (hn : nextP x t.2.1 = some u) : downP (f + 1) t vs seen = downP f u vs (seen ++ [t.1.2.2]) := by
  conv => lhs; unfold downP
  rw [if_pos h, hv]
  simp only
  rw [if_neg hs, hn]
theorem down_else {f : Nat} {t : Tr (f + 1)} {vs : List Pt} {seen : List (List Nat)} (h : t.1.1 = 3) {x : Pt} (hv : valAt vs t.1.2.2 = some x) (hs : t.1.2.2 ∉ seen) (hn : nextP x t.2.1 = none) : (∀ e, t.2.2 = [e] → downP (f + 1) t vs seen = downP f e vs (seen ++ [t.1.2.2])) ∧ (t.2.2.length ≠ 1 → downP (f + 1) t vs seen = -2) := by
  constructor
  · intro e he
    conv => lhs; unfold downP
    rw [if_pos h, hv]
    simp only
    rw [if_neg hs, hn, he]
  · intro hl
    unfold downP
    rw [if_pos h, hv]
    simp only
    rw [if_neg hs, hn]
    have key : ∀ l2 : List (Tr f), l2.length ≠ 1 → (match l2 with | [e] => downP f e vs (seen ++ [t.1.2.2]) | _ => (-2 : Int)) = -2 := fun l2 h2 => by
      match l2, h2 with
      | [], _ => rfl
      | [e], h2 => simp at h2
      | _ :: _ :: _, _ => rfl
    exact key _ hl
end Go.Proofs.Ytpdmkhnonbbhnaa
