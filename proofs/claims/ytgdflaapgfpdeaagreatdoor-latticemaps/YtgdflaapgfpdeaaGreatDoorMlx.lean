/- A map of shapes: what is known by them. The orders that a call has worked out, by their shapes: in memory; work. work: what comes of a shape. -/
import Derived.Test.YtgdflaapgfpdeaaGreatDoorMjx
import Derived.Test.YtgdflaapgfpdeaaGreatDoorMa
import Derived.DeepKeys4
namespace Go.Proofs.YtgdflaapgfpdeaaGreatDoor
open Go.RowKit Go.Maps

abbrev Sh := Nat × Nat × Nat
def shv (s : Sh) : Value := .agg #[.int .i64 (s.1 : Int), .int .i64 (s.2.1 : Int), .int .i64 (s.2.2 : Int)]
def shk (s : Sh) : Lit := .string (keyBytes [.int .i64 (s.1 : Int), .int .i64 (s.2.1 : Int), .int .i64 (s.2.2 : Int)])
def ShOk (s : Sh) : Prop := s.1 ≤ 1000000 ∧ s.2.1 ≤ 1000000 ∧ s.2.2 ≤ 1000000
theorem Tryz.laidOut : laidOutB Tryz.prog = true := by kernel_rfl
theorem Tryz.row72 : (90 : TypeId) < Tryz.prog.types.size := of_decide_eq_true (by kernel_rfl)
theorem Tryz.cells90 : Tryz.prog.cellsOf 90 = 3 := by kernel_rfl
theorem Tryz.cellsI : Tryz.prog.cellsOf 3 = 1 := by kernel_rfl
theorem Tryz.wide72 : (match Tryz.prog.underlying 90 with | some (.array _ _) | some (.struct _) => true | _ => false) = true := by rw [Tryz.underlying90]
set_option maxRecDepth 100000 in
theorem lawS : Keyed Tryz.prog 90 := Keyed.of_law (deep_law_laid Tryz.laidOut (m := 2) (by omega) Tryz.row72 (by kernel_rfl) Tryz.wide72)
theorem wf_nat (n : Nat) (h : n ≤ 1000000) : (Lit.int .i64 (n : Int)).wf = true := by
  simp [Lit.wf, IntKind.min, IntKind.max, IntKind.bits, IntKind.signed]
  omega
theorem keyS (s : Sh) (h : ShOk s) : keyOf Tryz.prog 90 (shv s) = some (shk s) := by
  obtain ⟨a, b, c⟩ := s
  obtain ⟨h1, h2, h3⟩ := h
  obtain ⟨m, hm⟩ : ∃ m, Tryz.prog.types.size = m + 1 := by
    have : (90 : Nat) < Tryz.prog.types.size := Tryz.row72
    exact ⟨Tryz.prog.types.size - 1, by omega⟩
  have hk : Tryz.prog.keyType 90 = true := by kernel_rfl
  have hf : (shv (a, b, c)).formed Tryz.prog 90 = true := by simp [shv, Value.formed, Tryz.underlying90, Tryz.cells90]
  unfold keyOf
  rw [Tryz.underlying90, hk, hf, hm]
  simp [Program.keyLits, Tryz.underlying90, Tryz.underlying3, Tryz.cells90, Tryz.cellsI, shv, shk, Value.cells, wf_nat a h1, wf_nat b h2, wf_nat c h3]
theorem shk_inj {s t : Sh} (hs : ShOk s) (ht : ShOk t) (h : shk s = shk t) : s = t := by
  have h1 := keyS s hs
  have h2 := keyS t ht
  rw [h] at h1
  have h3 := lawS.inj h1 h2
  obtain ⟨a, b, c⟩ := s
  obtain ⟨d, e, f⟩ := t
  simp [shv] at h3
  obtain ⟨q1, q2, q3⟩ := h3
  rw [Int.ofNat.inj q1, Int.ofNat.inj q2, Int.ofNat.inj q3]
/-- Block b is a map of m shapes; s says which number stands at each. -/
def Ms (w : World) (b m : Nat) (s : Sh → Option Nat) : Prop :=
  ∃ D : DataW Value, w.ownsMap Tryz.prog 90 rawE b m D ∧ Maps.size D = m ∧ ∀ x, ShOk x → Maps.has D (shk x) = (s x).isSome ∧ ∀ v z, s x = some v → D.atKey (shk x) z = .held (.int .i64 (v : Int))
theorem Ms.lt {w : World} {b m : Nat} {s : Sh → Option Nat} (h : Ms w b m s) : b < w.heap.size := by
  obtain ⟨D, h, _⟩ := h
  exact h.lt
theorem Ms.on {w w' : World} {b m : Nat} {s : Sh → Option Nat} (h : Ms w b m s) (hb : w'.heap[b]? = w.heap[b]?) : Ms w' b m s := by
  obtain ⟨D, ⟨es, clock, h1, h2⟩, h3⟩ := h
  exact ⟨D, ⟨es, clock, hb.trans h1, h2⟩, h3⟩
theorem Ms.made (w : World) : Ms (w.alloc (.map #[] 0)) w.heap.size 0 (fun _ => none) :=
  ⟨_, World.ownsMap_made w Tryz.prog 90 rawE, rfl, fun x _ => ⟨rfl, fun v z h => by cases h⟩⟩
theorem Ms.look {w : World} {b m : Nat} {s : Sh → Option Nat} (h : Ms w b m s) (x : Sh) (hx : ShOk x) :
    (Instr.lookup 71 (.map (some b)) (shv x) true).run Tryz.prog w = .ok (.tuple #[.int .i64 (((s x).getD 0 : Nat) : Int), .bool (s x).isSome]) w := by
  obtain ⟨D, hown, _, hs⟩ := h
  obtain ⟨u, ps, h1, h2⟩ := hown.look_ok (zd := .held (.int .i64 0)) (zp := []) lawS Tryz.underlying71 (Tryz.zeroValue3 w) rfl (keyS x hx)
  obtain ⟨h3, h4⟩ := hs x hx
  rw [h1, h3]
  have hu : DataW.held u = D.atKey (shk x) (.held (.int .i64 0)) := congrArg Prod.fst (Option.some.inj h2)
  cases hsx : s x with
  | none =>
    rw [hsx] at h3
    rw [Maps.atKey_of_not_has h3] at hu
    rw [DataW.held.inj hu]
    rfl
  | some v =>
    rw [h4 v _ hsx] at hu
    rw [DataW.held.inj hu]
    rfl
theorem Ms.put {w : World} {b m : Nat} {s : Sh → Option Nat} (h : Ms w b m s) (x : Sh) (hx : ShOk x) (hm : m < 100000) (hs : s x = none) (v : Nat) :
    ∃ w', (Instr.mapUpdate 71 (.map (some b)) (shv x) (.int .i64 (v : Int))).run Tryz.prog w = .ok () w' ∧ Ms w' b (m + 1) (fun y => if y = x then some v else s y) ∧ w.grownBy w' (some b) := by
  obtain ⟨D, hown, hsz, hS⟩ := h
  obtain ⟨w', h1, h2, h3⟩ := hown.update (d := .held (.int .i64 (v : Int))) (ps := []) lawS Tryz.underlying71 (by unfold maxLen; omega) (keyS x hx) rfl
  refine ⟨w', h1, ⟨_, h2, ?_, fun y hy => ?_⟩, h3⟩
  · rw [Maps.size_put (hown.tidy lawS), (hS x hx).1, hs, hsz]
    rfl
  · by_cases e : y = x
    · subst e
      have hk : WideAt.IsKeyLit (shk y) := trivial
      simp only [if_true]
      exact ⟨by rw [Maps.has_put_same hown.isMap hk]; rfl, fun u z hu => by cases hu; exact Maps.atKey_put_same hown.isMap hk _ _⟩
    · have hne : shk y ≠ shk x := fun q => e (shk_inj hy hx q)
      simp only [if_neg e]
      rw [Maps.has_put_other hne]
      exact ⟨(hS y hy).1, fun u z hu => by rw [Maps.atKey_put_other hne]; exact (hS y hy).2 u z hu⟩
end Go.Proofs.YtgdflaapgfpdeaaGreatDoor

namespace Go.Proofs.YtgdflaapgfpdeaaGreatDoor
open Go.RowKit

/-- An order: what is above each element; of functions: the sides. -/
abbrev OrdD := List Nat × Option (List Nat × List Nat)
def fnD (fa ta : List Nat) : Option OrdD := (fnP fa ta).map fun ab => (ab, some (fa, ta))
abbrev Tbl := List (Sh × Option OrdD)
def valD (T : Tbl) (i : Nat) : Option OrdD := (T[i]?).bind fun e => e.2
def shD (T : Tbl) (s : Sh) : Option OrdD := if 0 < s.1 then some (chainP s.1, none) else (valD T s.2.1).bind fun a => (valD T s.2.2).bind fun b => fnD a.1 b.1
/-- A shape that may be asked for. -/
def ShV (T : Tbl) (s : Sh) : Prop := ((s.1 = 2 ∨ s.1 = 4) ∧ s.2 = (0, 0)) ∨ (s.1 = 0 ∧ (valD T s.2.1).isSome = true ∧ (valD T s.2.2).isSome = true)
def numT (T : Tbl) (s : Sh) : Option Nat := T.findIdx? fun e => decide (e.1 = s)
def TOk (T : Tbl) : Prop := ∀ i (h : i < T.length), T[i].2 = shD T T[i].1 ∧ ShV T T[i].1 ∧ ∀ d, T[i].2 = some d → Lat d.1
theorem valD_lt {T : Tbl} {i : Nat} {d : OrdD} (h : valD T i = some d) : ∃ hi : i < T.length, T[i].2 = some d := by
  unfold valD at h
  rcases Nat.lt_or_ge i T.length with hi | hi
  · rw [List.getElem?_eq_getElem hi] at h
    exact ⟨hi, h⟩
  · rw [List.getElem?_eq_none hi] at h
    cases h
theorem valD_app {T R : Tbl} {i : Nat} (hi : i < T.length) : valD (T ++ R) i = valD T i := by
  unfold valD
  rw [List.getElem?_append_left hi]
theorem some_lt {T : Tbl} {i : Nat} (h : (valD T i).isSome = true) : i < T.length := by
  obtain ⟨d, hd⟩ := Option.isSome_iff_exists.1 h
  exact (valD_lt hd).1
theorem valD_mono {T R : Tbl} {i : Nat} {d : OrdD} (h : valD T i = some d) : valD (T ++ R) i = some d := by
  obtain ⟨hi, _⟩ := valD_lt h
  rw [valD_app hi, h]
theorem ShV.app {T : Tbl} {s : Sh} (h : ShV T s) (R : Tbl) : ShV (T ++ R) s ∧ shD (T ++ R) s = shD T s := by
  rcases h with h | ⟨h1, h2, h3⟩
  · refine ⟨.inl h, ?_⟩
    unfold shD
    rw [if_pos (by omega), if_pos (by omega)]
  · have e1 := valD_app (R := R) (some_lt h2)
    have e2 := valD_app (R := R) (some_lt h3)
    refine ⟨.inr ⟨h1, by rw [e1]; exact h2, by rw [e2]; exact h3⟩, ?_⟩
    unfold shD
    rw [if_neg (by omega), if_neg (by omega), e1, e2]
theorem TOk.nil : TOk [] := fun i h => by simp at h
theorem TOk.lat {T : Tbl} (h : TOk T) {i : Nat} {d : OrdD} (hd : valD T i = some d) : Lat d.1 := by
  obtain ⟨hi, e⟩ := valD_lt hd
  exact (h i hi).2.2 d e
theorem TOk.new {T : Tbl} (h : TOk T) {s : Sh} (hs : ShV T s) : ∀ d, shD T s = some d → Lat d.1 := by
  intro d hd
  unfold shD at hd
  rcases hs with ⟨h1, h2⟩ | ⟨h1, h2, h3⟩
  · rw [if_pos (by omega)] at hd
    rw [← Option.some.inj hd]
    exact chain_lat (by omega) (by omega)
  · rw [if_neg (by omega)] at hd
    obtain ⟨a, ha⟩ := Option.isSome_iff_exists.1 h2
    obtain ⟨b, hb⟩ := Option.isSome_iff_exists.1 h3
    rw [ha, hb] at hd
    have hd : fnD a.1 b.1 = some d := hd
    unfold fnD fnP at hd
    split at hd
    · next hl =>
      rw [← Option.some.inj hd]
      exact fns_lat (h.lat hb) hl
    · cases hd
theorem TOk.snoc {T : Tbl} (h : TOk T) {s : Sh} (hs : ShV T s) : TOk (T ++ [(s, shD T s)]) := by
  intro i hi
  rw [List.length_append, List.length_singleton] at hi
  rcases Nat.lt_or_ge i T.length with hlt | hge
  · obtain ⟨h1, h2, h3⟩ := h i hlt
    rw [List.getElem_append_left hlt]
    obtain ⟨q1, q2⟩ := h2.app [(s, shD T s)]
    exact ⟨by rw [q2]; exact h1, q1, h3⟩
  · obtain rfl : i = T.length := by omega
    have e : (T ++ [(s, shD T s)])[T.length]'(by simp) = (s, shD T s) := by simp
    rw [e]
    obtain ⟨q1, q2⟩ := hs.app [(s, shD T s)]
    exact ⟨q2.symm, q1, h.new hs⟩
theorem numT_some {T : Tbl} {s : Sh} {i : Nat} (h : numT T s = some i) : ∃ hi : i < T.length, T[i].1 = s := by
  unfold numT at h
  obtain ⟨hi, h1, _⟩ := List.findIdx?_eq_some_iff_getElem.1 h
  exact ⟨hi, by simpa using h1⟩
theorem numT_snoc {T : Tbl} {s : Sh} {r : Option OrdD} (h : numT T s = none) : (fun y => if y = s then some T.length else numT T y) = numT (T ++ [(s, r)]) := by
  funext y
  unfold numT at *
  rw [List.findIdx?_append]
  by_cases e : y = s
  · subst e
    rw [if_pos rfl, h]
    simp
  · rw [if_neg e]
    have : List.findIdx? (fun e : Sh × Option OrdD => decide (e.1 = y)) [(s, r)] = none := by
      simp
      exact fun q => e q.symm
    rw [this]
    simp

/-- The block p is an order. -/
def OrP (w : World) (S : Nat → Prop) (p : Nat) (d : OrdD) : Prop :=
  AbAt w S p d.1 ∧ ∀ fa ta, d.2 = some (fa, ta) → ∃ pf pt v, w.cell? ⟨p, 1, none⟩ = some (.pointer (some ⟨pf, 0, none⟩)) ∧ w.cell? ⟨p, 2, none⟩ = some (.pointer (some ⟨pt, 0, none⟩)) ∧ w.cell? ⟨p, 3, none⟩ = some v ∧ AbAt w S pf fa ∧ AbAt w S pt ta ∧ RowE ERs w S S v (resP fa ta)
theorem OrP.on {w w' : World} {S S' : Nat → Prop} {p : Nat} {d : OrdD} (h : OrP w S p d) (hk : Keeps S w w') (hS : ∀ b, S b → S' b) : OrP w' S' p d := by
  obtain ⟨h1, h2⟩ := h
  refine ⟨h1.on hk hS, fun fa ta e => ?_⟩
  obtain ⟨pf, pt, v, a1, a2, a3, a4, a5, a6⟩ := h2 fa ta e
  exact ⟨pf, pt, v, (hk.cell (p := ⟨p, 1, none⟩) h1.1).trans a1, (hk.cell (p := ⟨p, 2, none⟩) h1.1).trans a2, (hk.cell (p := ⟨p, 3, none⟩) h1.1).trans a3, a4.on hk hS, a5.on hk hS, a6.on hk hk hS hS⟩
/-- A pointer to an order, or none. -/
def EOr : Elt (Option OrdD) where
  k := 1
  C w S cs r := (r = none ∧ cs = [.pointer none]) ∨ ∃ d p, r = some d ∧ cs = [.pointer (some ⟨p, 0, none⟩)] ∧ OrP w S p d
  len := by rintro _ _ _ _ (⟨_, rfl⟩ | ⟨_, _, _, rfl, _⟩) <;> rfl
  one := by rintro _ _ _ _ (⟨_, rfl⟩ | ⟨_, _, _, rfl, _⟩) u hu <;> rw [List.mem_singleton.1 hu] <;> rfl
  on := by
    rintro _ _ _ _ _ _ hk hS (h | ⟨d, p, h1, h2, h3⟩)
    · exact .inl h
    · exact .inr ⟨d, p, h1, h2, h3.on hk hS⟩
theorem Tryz.ty53 : Ty 72 50 EOr.k 8 := by
  obtain ⟨i, hi, h0, h1, h2⟩ := info_parts (show (Tryz.prog.info? 50).map (fun i => (i.zero, i.size, i.bytes)) = some (some (.pointer none), 1, 8) by kernel_rfl)
  exact ⟨Tryz.underlying72, ⟨i, _, hi, h0, h1, h2, rfl⟩, by decide, by decide⟩
/-- The block K holds the map mb and the row v of the orders that are known. -/
structure KW (B0 K mb B : Nat) (v : Value) (T : Tbl) (w : World) : Prop where
  b0k : B0 ≤ K
  b0m : B0 ≤ mb
  kb : K < B
  mbb : mb < B
  ne : mb ≠ K
  bw : B ≤ w.heap.size
  blk : w.heap[K]? = some (.cells #[.map (some mb), v] 76 (0, 0))
  map : Ms w mb T.length (numT T)
  own : OwnN EOr 50 B (fun _ => False) w v (T.map fun e => e.2)
  ok : TOk T
theorem KW.on {B0 K mb B : Nat} {v : Value} {T : Tbl} {w w' : World} (h : KW B0 K mb B v T w) (hb : Below w.heap.size w w') : KW B0 K mb B v T w' := by
  have h1 := h.bw
  exact ⟨h.b0k, h.b0m, h.kb, h.mbb, h.ne, Nat.le_trans h1 hb.size, (hb.block K (lt_heap h.blk)).trans h.blk, h.map.on (hb.block mb h.map.lt), h.own.on (fun _ h => h.elim) h1 hb, h.ok⟩
/-- One of the orders that are known. -/
theorem KW.at {B0 K mb B : Nat} {v : Value} {T : Tbl} {w : World} (h : KW B0 K mb B v T w) (h0 : T ≠ []) : ∃ g cap, v = .slice (some ⟨g, 0, none⟩) T.length cap ∧ T.length ≤ cap ∧ B ≤ g ∧ g < w.heap.size ∧ ∀ i (hi : i < T.length), ∃ pv, w.cell? ⟨g, i, none⟩ = some pv ∧ EOr.C w (Nwr (fun _ => False) B w v) [pv] T[i].2 := by
  obtain ⟨css, hcs, hro⟩ := h.own.row
  rw [List.length_map] at hro
  rcases id hro.2 with ⟨_, h3⟩ | ⟨g, cap, cur, rfl, h4, h5, h6, _⟩
  · exact absurd (List.length_eq_zero_iff.1 h3) h0
  · refine ⟨g, cap, rfl, h6, h4, lt_heap h5, fun i hi => ?_⟩
    have hl := hcs.1
    rw [List.length_map] at hl
    have hc := hcs.2 i (by omega) (by rw [List.length_map]; exact hi)
    rw [List.getElem_map] at hc
    have h7 := flatC_get css hcs.lens i 0 (by omega) (by decide)
    have h8 := hro.cellAt (i * EOr.k + 0) (by show i * 1 + 0 < T.length * 1; omega)
    rw [h7] at h8
    have hlen := EOr.len hc
    obtain ⟨pv, hpv⟩ : ∃ pv, css[i] = [pv] := by
      match hcc : css[i], hlen with
      | [pv], _ => exact ⟨pv, rfl⟩
    rw [hpv] at hc h8
    refine ⟨pv, ?_, hc⟩
    have e : i * EOr.k + 0 = i := by show i * 1 + 0 = i; omega
    rw [e] at h8
    exact h8
theorem KW.get {B0 K mb B : Nat} {v : Value} {T : Tbl} {w : World} (h : KW B0 K mb B v T w) {i : Nat} {d : OrdD} (hd : valD T i = some d) : ∃ g cap p, v = .slice (some ⟨g, 0, none⟩) T.length cap ∧ T.length ≤ cap ∧ i < T.length ∧ B ≤ g ∧ g < w.heap.size ∧ w.cell? ⟨g, i, none⟩ = some (.pointer (some ⟨p, 0, none⟩)) ∧ OrP w (Nwr (fun _ => False) B w v) p d := by
  obtain ⟨hi, e⟩ := valD_lt hd
  obtain ⟨g, cap, h1, h2, h3, h4, h5⟩ := h.at (fun q => by rw [q] at hi; simp at hi)
  obtain ⟨pv, h6, h7⟩ := h5 i hi
  rw [e] at h7
  rcases h7 with ⟨q, _⟩ | ⟨d', p, q1, q2, q3⟩
  · cases q
  · injection q2 with q2
    rw [q2] at h6
    rw [← Option.some.inj q1] at q3
    exact ⟨g, cap, p, h1, h2, hi, h3, h4, h6, q3⟩
theorem set_row {w : World} {Z S : Nat → Prop} {v : Value} {l : List Nat} (h : RowE ESet w Z S v l) : Sets w Z v l := by
  rcases h with h | ⟨g, o, cap, h1, h2, h3, h4⟩
  · exact .inl h
  · refine .inr ⟨g, o, cap, h1, h2, h3, ?_, fun j hj => ?_⟩
    · cases l with
      | nil => exact absurd rfl h2
      | cons a r => exact (h4 0 (by simp)).1
    · obtain ⟨_, cs, h6, h7⟩ := h4 j hj
      have := h7 0 (by decide)
      rw [show cs = [Value.int .u64 l[j]] from h6] at this
      simpa [ESet] using this
/-- An order of a chain, new. -/
theorem or_chain {w w' : World} {v : Value} {n : Nat} (h1 : w'.heap[w.heap.size]? = some (.cells #[v, .pointer none, .pointer none, .slice none 0 0] 57 (0, 0))) (h2 : OwnN ESet 80 (w.heap.size + 1) (fun _ => False) w' v (chainP n)) : OrP w' (fun y => w.heap.size ≤ y ∧ y < w'.heap.size) w.heap.size (chainP n, none) := by
  refine ⟨⟨⟨Nat.le_refl _, lt_heap h1⟩, ?_⟩, fun fa ta e => by cases e⟩
  obtain ⟨ad, cap, rfl⟩ := h2.len
  exact ⟨ad, cap, heap_cl h1 rfl, set_row ((OwnN.rowE h2).on (Keeps.refl _ _) (Keeps.refl _ _) (fun y h => ⟨by have := h.1; omega, h.2⟩) fun y h => h)⟩
/-- An order of functions, new. -/
theorem or_fns {w w' : World} {pf pt : Nat} {fa ta : List Nat} {S : Nat → Prop} {a b : Value} (hS : ∀ y, w.heap.size ≤ y → y < w'.heap.size → S y) (h1 : w'.heap[w.heap.size]? = some (.cells #[a, .pointer (some ⟨pf, 0, none⟩), .pointer (some ⟨pt, 0, none⟩), b] 57 (0, 0))) (h2 : RowE ESet w' (fun y => w.heap.size ≤ y ∧ y < w'.heap.size) (fun y => w.heap.size ≤ y ∧ y < w'.heap.size) a (fnsP ta (resP fa ta))) (h3 : RowE ERs w' (fun y => w.heap.size ≤ y ∧ y < w'.heap.size) (fun y => w.heap.size ≤ y ∧ y < w'.heap.size) b (resP fa ta)) (hf : AbAt w' S pf fa) (ht : AbAt w' S pt ta) : OrP w' S w.heap.size (fnsP ta (resP fa ta), some (fa, ta)) := by
  refine ⟨⟨hS _ (Nat.le_refl _) (lt_heap h1), ?_⟩, fun fa' ta' e => ?_⟩
  · obtain ⟨ad, cap, css, rfl, _⟩ := RowE.cells (by decide) h2
    exact ⟨ad, cap, heap_cl h1 rfl, set_row (h2.on (Keeps.refl _ _) (Keeps.refl _ _) (fun y h => hS y h.1 h.2) fun y h => hS y h.1 h.2)⟩
  · obtain ⟨rfl, rfl⟩ : fa = fa' ∧ ta = ta' := by
      have := Option.some.inj e
      exact ⟨congrArg Prod.fst this, congrArg Prod.snd this⟩
    exact ⟨pf, pt, b, heap_cl h1 rfl, heap_cl h1 rfl, heap_cl h1 rfl, hf, ht, h3.on (Keeps.refl _ _) (Keeps.refl _ _) (fun y h => hS y h.1 h.2) fun y h => hS y h.1 h.2⟩
end Go.Proofs.YtgdflaapgfpdeaaGreatDoor

namespace Go.Proofs.YtgdflaapgfpdeaaGreatDoor
open Go.RowKit

set_option maxHeartbeats 8000000 in
set_option maxRecDepth 10000 in
theorem work_chain {w : World} {K n : Nat} (hn : n = 2 ∨ n = 4) :
    Calls Tryz.prog 57 #[.pointer (some ⟨K, 0, none⟩), shv (n, 0, 0)] w fun r w' => ∃ p, r = .returned (.pointer (some ⟨p, 0, none⟩)) ∧ Hid (Below w.heap.size w w') ∧ Hid (OrP w' (fun y => w.heap.size ≤ y ∧ y < w'.heap.size) p (chainP n, none)) := by
  unfold shv
  obtain ⟨W, hW⟩ : ∃ W, W = w.alloc (.cells #[.int .i64 (n : Int), .int .i64 ((0 : Nat) : Int), .int .i64 ((0 : Nat) : Int)] 90) := ⟨_, rfl⟩
  have hBW : Below w.heap.size w W := by rw [hW]; exact (Below.refl _ _).alloc (Nat.le_refl _) _
  have hXW : W.heap[w.heap.size]? = some (.cells #[.int .i64 (n : Int), .int .i64 ((0 : Nat) : Int), .int .i64 ((0 : Nat) : Int)] 90 (0, 0)) := by rw [hW]; exact new_blk _ _
  have c0 : W.cell? ⟨w.heap.size, 0, none⟩ = some (.int .i64 (n : Int)) := heap_cl hXW rfl
  have HBW : Hid (Below w.heap.size w W) := hBW
  have CC := chain_any (w := W) n hn
  have i1 : (n : Int) > 0 := by omega
  clear hBW hXW hn
  rw [show ((0 : Nat) : Int) = 0 from rfl] at hW
  go_enter Tryz.func57, Tryz.ntmps57
  go_upto_region 1 with fail
  rw [← hW]
  clear hW
  go_wp2_with (first | (go_at_call 67; (with_reducible refine Calls.mono CC ?_); rintro e' w2 ⟨rfl, hb2, v, q1, q2⟩))
  have HB : Hid (Below w.heap.size w w2) := HBW.out.trans (hb2.mono HBW.out.size)
  have HO : Hid (OrP w2 (fun y => w.heap.size ≤ y ∧ y < w2.heap.size) W.heap.size (chainP n, none)) := (or_chain q1 q2).on (Keeps.refl _ _) fun y h => ⟨Nat.le_trans HBW.out.size h.1, h.2⟩
  clear hb2 q1 q2 CC
  go_ret
  exact ⟨_, rfl, HB.out, HO.out⟩
set_option maxHeartbeats 8000000 in
set_option maxRecDepth 10000 in
theorem work_fn {B0 K mb B : Nat} {v : Value} {T : Tbl} {w : World} (h : KW B0 K mb B v T w) (a b : Nat) {da db : OrdD} (ha : valD T a = some da) (hb : valD T b = some db) :
    Calls Tryz.prog 57 #[.pointer (some ⟨K, 0, none⟩), shv (0, a, b)] w fun r w' => ∃ pv, r = .returned pv ∧ Hid (Below w.heap.size w w') ∧ Hid (EOr.C w' (Nwr (fun _ => False) B w' v) [pv] (fnD da.1 db.1)) := by
  unfold shv
  obtain ⟨W, hW⟩ : ∃ W, W = w.alloc (.cells #[.int .i64 ((0 : Nat) : Int), .int .i64 (a : Int), .int .i64 (b : Int)] 90) := ⟨_, rfl⟩
  obtain ⟨X, hX⟩ : ∃ X, X = w.heap.size := ⟨_, rfl⟩
  have hBW : Below w.heap.size w W := by rw [hW]; exact (Below.refl _ _).alloc (Nat.le_refl _) _
  have hXW : W.heap[X]? = some (.cells #[.int .i64 ((0 : Nat) : Int), .int .i64 (a : Int), .int .i64 (b : Int)] 90 (0, 0)) := by rw [hW, hX]; exact new_blk _ _
  have c0 : W.cell? ⟨X, 0, none⟩ = some (.int .i64 0) := heap_cl hXW rfl
  have hkw := (h.on hBW).on ((Below.refl _ _).drew)
  obtain ⟨g, cap, pf, rfl, hcap, ha', hBg, hgl, p1, o1⟩ := hkw.get ha
  obtain ⟨g', cap', pt, e2, _, hb', _, _, p2, o2⟩ := hkw.get hb
  obtain ⟨rfl, rfl⟩ : g = g' ∧ cap = cap' := by
    simp only [Value.slice.injEq, Option.some.injEq, Addr.mk.injEq, and_true, true_and] at e2
    exact e2
  have hla := h.ok.lat ha
  have hlb := h.ok.lat hb
  have hNl : ∀ y, Nwr (fun _ => False) B W.drew (.slice (some ⟨g, 0, none⟩) T.length cap) y → y < W.drew.heap.size := fun y hy => by
    rcases hy with hy | hy
    · exact hy.elim
    · exact hy.2.1
  have CF := functions_any (o1.1.on (Keeps.refl _ _) hNl) (o2.1.on (Keeps.refl _ _) hNl) hla hlb
  have HS0 : Hid ((fun w' : World => w'.cell? ⟨K, 1, none⟩ = some (.slice (some ⟨g, 0, none⟩) T.length cap) ∧ w'.cell? ⟨X, 1, none⟩ = some (.int .i64 (a : Int)) ∧ w'.cell? ⟨X, 2, none⟩ = some (.int .i64 (b : Int)) ∧ w'.cell? ⟨g, a, none⟩ = some (.pointer (some ⟨pf, 0, none⟩)) ∧ w'.cell? ⟨g, b, none⟩ = some (.pointer (some ⟨pt, 0, none⟩))) W.drew) := ⟨heap_cl hkw.blk rfl, heap_cl hXW rfl, heap_cl hXW rfl, p1, p2⟩
  have HEND : Hid (∀ r w', Below W.drew.heap.size W.drew w' → FnRes W.drew pf pt da.1 db.1 r w' → ∃ pv, r = .returned pv ∧ EOr.C w' (Nwr (fun _ => False) B w' (.slice (some ⟨g, 0, none⟩) T.length cap)) [pv] (fnD da.1 db.1)) := fun r w' hb' hr => by
    have hS : ∀ y, Nwr (fun _ => False) B W.drew (.slice (some ⟨g, 0, none⟩) T.length cap) y → Nwr (fun _ => False) B w' (.slice (some ⟨g, 0, none⟩) T.length cap) y := fun y hy => hy.imp id fun q => ⟨q.1, Nat.lt_of_lt_of_le q.2.1 hb'.size, q.2.2⟩
    have hk : Keeps (Nwr (fun _ => False) B W.drew (.slice (some ⟨g, 0, none⟩) T.length cap)) W.drew w' := Keeps.of hb' hNl
    have hbw := hkw.bw
    rcases hr with ⟨h1, rfl, x, y, q1, q2, q3⟩ | ⟨h1, rfl⟩
    · refine ⟨_, rfl, .inr ⟨_, _, ?_, rfl, or_fns (fun y h1 h2 => .inr ⟨by omega, h2, fun e => ?_⟩) q1 q2 q3 (o1.1.on hk hS) (o2.1.on hk hS)⟩⟩
      · unfold fnD fnP
        rw [if_pos h1]
        rfl
      · have : g = y := by injection e
        omega
    · refine ⟨_, rfl, .inl ⟨?_, rfl⟩⟩
      unfold fnD fnP
      rw [if_neg (by omega)]
      rfl
  have HBW : Hid (Below w.heap.size w W) := hBW
  have HXE : Hid (X = w.heap.size) := hX
  have i1 : ¬ ((0 : Int) > 0) := by omega
  have j1 : (0 : Int) ≤ (a : Int) := by omega
  have j2 : (a : Int) < (T.length : Int) := by omega
  have j3 : (0 : Int) ≤ (b : Int) := by omega
  have j4 : (b : Int) < (T.length : Int) := by omega
  have hT : T.length ≤ cap := hcap
  clear hBW hXW hkw p1 p2 o1 o2 hla hlb hNl h ha hb ha' hb' hBg hgl hcap hX e2
  generalize T.length = n at *
  rw [show ((0 : Nat) : Int) = 0 from rfl] at hW ⊢
  go_enter Tryz.func57, Tryz.ntmps57
  go_upto_region 1 with fail
  rw [← hW, ← HXE.out]
  clear hW
  go_upto_region 3 with fail
  have hS0 := HS0.out
  clear c0 i1
  refine wp_region_M (S := (fun w' : World => w'.cell? ⟨K, 1, none⟩ = some (.slice (some ⟨g, 0, none⟩) n cap) ∧ w'.cell? ⟨X, 1, none⟩ = some (.int .i64 (a : Int)) ∧ w'.cell? ⟨X, 2, none⟩ = some (.int .i64 (b : Int)) ∧ w'.cell? ⟨g, a, none⟩ = some (.pointer (some ⟨pf, 0, none⟩)) ∧ w'.cell? ⟨g, b, none⟩ = some (.pointer (some ⟨pt, 0, none⟩)))) (L := 20) (n := 20) (by kernel_rfl) rfl (by kernel_rfl) ?_
  refine wpAnyK_go (i := 0) (m' := 1) (some 11) (v := .pointer (some ⟨K, 0, none⟩)) rfl rfl (by kernel_rfl) (by kernel_rfl) (by kernel_rfl) (by kernel_rfl) (by kernel_rfl) (fun _ _ _ h => h) (Or.inl ⟨by rfl, ?_⟩) hS0 ?_
  · intro w' hSw
    go_simp
  simp only [Act.put, List.setIfInBounds_toArray, List.set_cons_zero, List.set_cons_succ]
  refine wpAnyK_go (i := 1) (m' := 3) (some 12) (v := .pointer (some ⟨K, 0, none⟩)) rfl rfl (by kernel_rfl) (by kernel_rfl) (by kernel_rfl) (by kernel_rfl) (by kernel_rfl) (fun _ _ _ h => h) (Or.inl ⟨by rfl, ?_⟩) hS0 ?_
  · intro w' hSw
    go_simp
  simp only [Act.put, List.setIfInBounds_toArray, List.set_cons_zero, List.set_cons_succ]
  refine wpAnyK_go (i := 2) (m' := 7) (some 13) (v := .pointer (some ⟨K, 0, none⟩)) rfl rfl (by kernel_rfl) (by kernel_rfl) (by kernel_rfl) (by kernel_rfl) (by kernel_rfl) (fun _ _ _ h => h) (Or.inl ⟨by rfl, ?_⟩) hS0 ?_
  · intro w' hSw
    go_simp
  simp only [Act.put, List.setIfInBounds_toArray, List.set_cons_zero, List.set_cons_succ]
  refine wpAnyK_go (i := 3) (m' := 15) (some 14) (v := .pointer (some ⟨K, 1, none⟩)) rfl rfl (by kernel_rfl) (by kernel_rfl) (by kernel_rfl) (by kernel_rfl) (by kernel_rfl) (fun _ _ _ h => h) (Or.inl ⟨by rfl, ?_⟩) hS0 ?_
  · intro w' hSw
    go_simp
  simp only [Act.put, List.setIfInBounds_toArray, List.set_cons_zero, List.set_cons_succ]
  refine wpAnyK_go (i := 4) (m' := 31) (some 15) (v := .slice (some ⟨g, 0, none⟩) n cap) rfl rfl (by kernel_rfl) (by kernel_rfl) (by kernel_rfl) (by kernel_rfl) (by kernel_rfl) (fun _ _ _ h => h) (Or.inl ⟨by rfl, ?_⟩) hS0 ?_
  · intro w' hSw
    obtain ⟨s1, s2, s3, s4, s5⟩ := hSw
    go_simp
  simp only [Act.put, List.setIfInBounds_toArray, List.set_cons_zero, List.set_cons_succ]
  refine wpAnyK_go (i := 5) (m' := 63) (some 16) (v := .pointer (some ⟨X, 1, none⟩)) rfl rfl (by kernel_rfl) (by kernel_rfl) (by kernel_rfl) (by kernel_rfl) (by kernel_rfl) (fun _ _ _ h => h) (Or.inl ⟨by rfl, ?_⟩) hS0 ?_
  · intro w' hSw
    go_simp
  simp only [Act.put, List.setIfInBounds_toArray, List.set_cons_zero, List.set_cons_succ]
  refine wpAnyK_go (i := 6) (m' := 127) (some 17) (v := .int .i64 a) rfl rfl (by kernel_rfl) (by kernel_rfl) (by kernel_rfl) (by kernel_rfl) (by kernel_rfl) (fun _ _ _ h => h) (Or.inl ⟨by rfl, ?_⟩) hS0 ?_
  · intro w' hSw
    obtain ⟨s1, s2, s3, s4, s5⟩ := hSw
    go_simp
  simp only [Act.put, List.setIfInBounds_toArray, List.set_cons_zero, List.set_cons_succ]
  refine wpAnyK_go (i := 7) (m' := 255) (some 18) (v := .pointer (some ⟨g, a, none⟩)) rfl rfl (by kernel_rfl) (by kernel_rfl) (by kernel_rfl) (by kernel_rfl) (by kernel_rfl) (fun _ _ _ h => h) (Or.inl ⟨by rfl, ?_⟩) hS0 ?_
  · intro w' hSw
    go_simp
  simp only [Act.put, List.setIfInBounds_toArray, List.set_cons_zero, List.set_cons_succ]
  refine wpAnyK_go (i := 8) (m' := 511) (some 19) (v := .pointer (some ⟨pf, 0, none⟩)) rfl rfl (by kernel_rfl) (by kernel_rfl) (by kernel_rfl) (by kernel_rfl) (by kernel_rfl) (fun _ _ _ h => h) (Or.inl ⟨by rfl, ?_⟩) hS0 ?_
  · intro w' hSw
    obtain ⟨s1, s2, s3, s4, s5⟩ := hSw
    go_simp
  simp only [Act.put, List.setIfInBounds_toArray, List.set_cons_zero, List.set_cons_succ]
  refine wpAnyK_go (i := 9) (m' := 1023) (some 20) (v := .pointer (some ⟨K, 0, none⟩)) rfl rfl (by kernel_rfl) (by kernel_rfl) (by kernel_rfl) (by kernel_rfl) (by kernel_rfl) (fun _ _ _ h => h) (Or.inl ⟨by rfl, ?_⟩) hS0 ?_
  · intro w' hSw
    go_simp
  simp only [Act.put, List.setIfInBounds_toArray, List.set_cons_zero, List.set_cons_succ]
  refine wpAnyK_go (i := 10) (m' := 2047) (some 21) (v := .pointer (some ⟨K, 0, none⟩)) rfl rfl (by kernel_rfl) (by kernel_rfl) (by kernel_rfl) (by kernel_rfl) (by kernel_rfl) (fun _ _ _ h => h) (Or.inl ⟨by rfl, ?_⟩) hS0 ?_
  · intro w' hSw
    go_simp
  simp only [Act.put, List.setIfInBounds_toArray, List.set_cons_zero, List.set_cons_succ]
  refine wpAnyK_go (i := 11) (m' := 4095) (some 22) (v := .pointer (some ⟨K, 0, none⟩)) rfl rfl (by kernel_rfl) (by kernel_rfl) (by kernel_rfl) (by kernel_rfl) (by kernel_rfl) (fun _ _ _ h => h) (Or.inl ⟨by rfl, ?_⟩) hS0 ?_
  · intro w' hSw
    go_simp
  simp only [Act.put, List.setIfInBounds_toArray, List.set_cons_zero, List.set_cons_succ]
  refine wpAnyK_go (i := 12) (m' := 8191) (some 23) (v := .pointer (some ⟨K, 1, none⟩)) rfl rfl (by kernel_rfl) (by kernel_rfl) (by kernel_rfl) (by kernel_rfl) (by kernel_rfl) (fun _ _ _ h => h) (Or.inl ⟨by rfl, ?_⟩) hS0 ?_
  · intro w' hSw
    go_simp
  simp only [Act.put, List.setIfInBounds_toArray, List.set_cons_zero, List.set_cons_succ]
  refine wpAnyK_go (i := 13) (m' := 16383) (some 24) (v := .slice (some ⟨g, 0, none⟩) n cap) rfl rfl (by kernel_rfl) (by kernel_rfl) (by kernel_rfl) (by kernel_rfl) (by kernel_rfl) (fun _ _ _ h => h) (Or.inl ⟨by rfl, ?_⟩) hS0 ?_
  · intro w' hSw
    obtain ⟨s1, s2, s3, s4, s5⟩ := hSw
    go_simp
  simp only [Act.put, List.setIfInBounds_toArray, List.set_cons_zero, List.set_cons_succ]
  refine wpAnyK_go (i := 14) (m' := 32767) (some 25) (v := .pointer (some ⟨X, 2, none⟩)) rfl rfl (by kernel_rfl) (by kernel_rfl) (by kernel_rfl) (by kernel_rfl) (by kernel_rfl) (fun _ _ _ h => h) (Or.inl ⟨by rfl, ?_⟩) hS0 ?_
  · intro w' hSw
    go_simp
  simp only [Act.put, List.setIfInBounds_toArray, List.set_cons_zero, List.set_cons_succ]
  refine wpAnyK_go (i := 15) (m' := 65535) (some 26) (v := .int .i64 b) rfl rfl (by kernel_rfl) (by kernel_rfl) (by kernel_rfl) (by kernel_rfl) (by kernel_rfl) (fun _ _ _ h => h) (Or.inl ⟨by rfl, ?_⟩) hS0 ?_
  · intro w' hSw
    obtain ⟨s1, s2, s3, s4, s5⟩ := hSw
    go_simp
  simp only [Act.put, List.setIfInBounds_toArray, List.set_cons_zero, List.set_cons_succ]
  refine wpAnyK_go (i := 16) (m' := 131071) (some 27) (v := .pointer (some ⟨g, b, none⟩)) rfl rfl (by kernel_rfl) (by kernel_rfl) (by kernel_rfl) (by kernel_rfl) (by kernel_rfl) (fun _ _ _ h => h) (Or.inl ⟨by rfl, ?_⟩) hS0 ?_
  · intro w' hSw
    go_simp
  simp only [Act.put, List.setIfInBounds_toArray, List.set_cons_zero, List.set_cons_succ]
  refine wpAnyK_go (i := 17) (m' := 262143) (some 28) (v := .pointer (some ⟨pt, 0, none⟩)) rfl rfl (by kernel_rfl) (by kernel_rfl) (by kernel_rfl) (by kernel_rfl) (by kernel_rfl) (fun _ _ _ h => h) (Or.inl ⟨by rfl, ?_⟩) hS0 ?_
  · intro w' hSw
    obtain ⟨s1, s2, s3, s4, s5⟩ := hSw
    go_simp
  simp only [Act.put, List.setIfInBounds_toArray, List.set_cons_zero, List.set_cons_succ]
  refine wpAnyK_only (i := 18) (m' := 524287) (by kernel_rfl) rfl (by kernel_rfl) fun K2 hK => ?_
  go_simp
  (with_reducible refine Calls.mono CF ?_)
  rintro e' w2 ⟨HB2, HR2⟩
  obtain ⟨pv, rfl, HC⟩ := HEND.out _ _ HB2.out HR2.out
  replace HC : Hid _ := HC
  have hS2 : (fun w' : World => w'.cell? ⟨K, 1, none⟩ = some (.slice (some ⟨g, 0, none⟩) n cap) ∧ w'.cell? ⟨X, 1, none⟩ = some (.int .i64 (a : Int)) ∧ w'.cell? ⟨X, 2, none⟩ = some (.int .i64 (b : Int)) ∧ w'.cell? ⟨g, a, none⟩ = some (.pointer (some ⟨pf, 0, none⟩)) ∧ w'.cell? ⟨g, b, none⟩ = some (.pointer (some ⟨pt, 0, none⟩))) w2 := ⟨(HB2.out.cell (p := ⟨K, 1, none⟩) (World.block_lt_of_cell? _ _ hS0.1)).trans hS0.1, (HB2.out.cell (p := ⟨X, 1, none⟩) (World.block_lt_of_cell? _ _ hS0.2.1)).trans hS0.2.1, (HB2.out.cell (p := ⟨X, 2, none⟩) (World.block_lt_of_cell? _ _ hS0.2.2.1)).trans hS0.2.2.1, (HB2.out.cell (p := ⟨g, a, none⟩) (World.block_lt_of_cell? _ _ hS0.2.2.2.1)).trans hS0.2.2.2.1, (HB2.out.cell (p := ⟨g, b, none⟩) (World.block_lt_of_cell? _ _ hS0.2.2.2.2)).trans hS0.2.2.2.2⟩
  go_simp
  refine hK.out _ _ (fun _ => hS2) ?_
  clear hK K2 CF HR2
  refine wpAnyK_only (i := 19) (m' := 1048575) (by kernel_rfl) rfl (by kernel_rfl) fun K2 hK => ?_
  go_simp
  refine hK.out _ _ (fun _ => hS2) ?_
  clear hK K2
  refine wpAnyK_done (by kernel_rfl) ?_ _
  clear hS2 hS0 HS0
  have HB : Hid (Below w.heap.size w w2) := HBW.out.trans ((Below.trans ((Below.refl _ _).drew) HB2.out).mono HBW.out.size)
  go_wp2
  go_ret
  exact ⟨pv, rfl, HB.out, HC.out⟩
theorem work_any {B0 K mb B : Nat} {v : Value} {T : Tbl} {w : World} (h : KW B0 K mb B v T w) (s : Sh) (hs : ShV T s) :
    Calls Tryz.prog 57 #[.pointer (some ⟨K, 0, none⟩), shv s] w fun r w' => ∃ pv, r = .returned pv ∧ Hid (Below w.heap.size w w') ∧ Hid (EOr.C w' (Nwr (fun _ => False) B w' v) [pv] (shD T s)) := by
  obtain ⟨n, a, b⟩ := s
  rcases hs with ⟨hn, e⟩ | ⟨h1, h2, h3⟩
  · have e : (a, b) = (0, 0) := e
    obtain ⟨rfl, rfl⟩ : a = 0 ∧ b = 0 := by simpa using e
    have hn : n = 2 ∨ n = 4 := hn
    refine Calls.mono (work_chain (w := w) (K := K) hn) fun r w' ⟨p, h4, h5, h6⟩ => ⟨_, h4, h5, .inr ⟨_, p, ?_, rfl, h6.out.on (Keeps.refl _ _) fun y hy => .inr ⟨Nat.le_trans h.bw hy.1, hy.2, fun e => ?_⟩⟩⟩
    · show (if 0 < n then _ else _) = _
      rw [if_pos (by omega)]
    · have := (h.own.lt y e).2
      have := hy.1
      omega
  · have h1 : n = 0 := h1
    subst h1
    obtain ⟨da, ha⟩ := Option.isSome_iff_exists.1 h2
    obtain ⟨db, hb⟩ := Option.isSome_iff_exists.1 h3
    have e : shD T (0, a, b) = fnD da.1 db.1 := by
      show (if 0 < 0 then _ else (valD T a).bind _) = _
      rw [if_neg (by omega), show valD T a = some da from ha]
      show (valD T b).bind _ = _
      rw [show valD T b = some db from hb]
      rfl
    rw [e]
    exact work_fn h a b ha hb
end Go.Proofs.YtgdflaapgfpdeaaGreatDoor
