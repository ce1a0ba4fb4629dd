/- A map of shapes: what is known by them. The orders that a call has worked out, by their shapes: in memory; work. work: what comes of a shape. number: the number of what comes of a shape. of, ofFunction: the number of a type's order. ofFunction: the number of a function type's order. -/
import Derived.Test.YtgdflaapgfpdeaaGreatDoorMix
import Derived.Test.YtgdflaapgfpdeaaGreatDoorMa
import Derived.DeepKeys4
namespace Go.Proofs.YtgdflaapgfpdeaaGreatDoor
open Go.RowKit Go.Maps

abbrev Sh := Nat × Nat × Nat
def shv (s : Sh) : Value := .agg #[.int .i64 (s.1 : Int), .int .i64 (s.2.1 : Int), .int .i64 (s.2.2 : Int)]
def shk (s : Sh) : Lit := .string (keyBytes [.int .i64 (s.1 : Int), .int .i64 (s.2.1 : Int), .int .i64 (s.2.2 : Int)])
def ShOk (s : Sh) : Prop := s.1 ≤ 1000000 ∧ s.2.1 ≤ 1000000 ∧ s.2.2 ≤ 1000000
theorem Tryz.laidOut : laidOutB Tryz.prog = true := by kernel_rfl
theorem Tryz.row72 : (90 : TypeId) < Tryz.prog.types.size := of_decide_eq_true (by kernel_rfl)
theorem Tryz.cells90 : Tryz.prog.cellsOf 90 = 3 := by kernel_rfl
theorem Tryz.cellsI : Tryz.prog.cellsOf 3 = 1 := by kernel_rfl
theorem Tryz.wide72 : (match Tryz.prog.underlying 90 with | some (.array _ _) | some (.struct _) => true | _ => false) = true := by rw [Tryz.underlying90]
set_option maxRecDepth 100000 in
theorem lawS : Keyed Tryz.prog 90 := Keyed.of_law (deep_law_laid Tryz.laidOut (m := 2) (by omega) Tryz.row72 (by kernel_rfl) Tryz.wide72)
theorem wf_nat (n : Nat) (h : n ≤ 1000000) : (Lit.int .i64 (n : Int)).wf = true := by
  simp [Lit.wf, IntKind.min, IntKind.max, IntKind.bits, IntKind.signed]
  omega
theorem keyS (s : Sh) (h : ShOk s) : keyOf Tryz.prog 90 (shv s) = some (shk s) := by
  obtain ⟨a, b, c⟩ := s
  obtain ⟨h1, h2, h3⟩ := h
  obtain ⟨m, hm⟩ : ∃ m, Tryz.prog.types.size = m + 1 := by
    have : (90 : Nat) < Tryz.prog.types.size := Tryz.row72
    exact ⟨Tryz.prog.types.size - 1, by omega⟩
  have hk : Tryz.prog.keyType 90 = true := by kernel_rfl
  have hf : (shv (a, b, c)).formed Tryz.prog 90 = true := by simp [shv, Value.formed, Tryz.underlying90, Tryz.cells90]
  unfold keyOf
  rw [Tryz.underlying90, hk, hf, hm]
  simp [Program.keyLits, Tryz.underlying90, Tryz.underlying3, Tryz.cells90, Tryz.cellsI, shv, shk, Value.cells, wf_nat a h1, wf_nat b h2, wf_nat c h3]
theorem shk_inj {s t : Sh} (hs : ShOk s) (ht : ShOk t) (h : shk s = shk t) : s = t := by
  have h1 := keyS s hs
  have h2 := keyS t ht
  rw [h] at h1
  have h3 := lawS.inj h1 h2
  obtain ⟨a, b, c⟩ := s
  obtain ⟨d, e, f⟩ := t
  simp [shv] at h3
  obtain ⟨q1, q2, q3⟩ := h3
  rw [Int.ofNat.inj q1, Int.ofNat.inj q2, Int.ofNat.inj q3]
/-- Block b is a map of m shapes; s says which number stands at each. -/
def Ms (w : World) (b m : Nat) (s : Sh → Option Nat) : Prop :=
  ∃ D : DataW Value, w.ownsMap Tryz.prog 90 rawE b m D ∧ Maps.size D = m ∧ ∀ x, ShOk x → Maps.has D (shk x) = (s x).isSome ∧ ∀ v z, s x = some v → D.atKey (shk x) z = .held (.int .i64 (v : Int))
theorem Ms.lt {w : World} {b m : Nat} {s : Sh → Option Nat} (h : Ms w b m s) : b < w.heap.size := by
  obtain ⟨D, h, _⟩ := h
  exact h.lt
theorem Ms.on {w w' : World} {b m : Nat} {s : Sh → Option Nat} (h : Ms w b m s) (hb : w'.heap[b]? = w.heap[b]?) : Ms w' b m s := by
  obtain ⟨D, ⟨es, clock, h1, h2⟩, h3⟩ := h
  exact ⟨D, ⟨es, clock, hb.trans h1, h2⟩, h3⟩
theorem Ms.made (w : World) : Ms (w.alloc (.map #[] 0)) w.heap.size 0 (fun _ => none) :=
  ⟨_, World.ownsMap_made w Tryz.prog 90 rawE, rfl, fun x _ => ⟨rfl, fun v z h => by cases h⟩⟩
theorem Ms.look {w : World} {b m : Nat} {s : Sh → Option Nat} (h : Ms w b m s) (x : Sh) (hx : ShOk x) :
    (Instr.lookup 71 (.map (some b)) (shv x) true).run Tryz.prog w = .ok (.tuple #[.int .i64 (((s x).getD 0 : Nat) : Int), .bool (s x).isSome]) w := by
  obtain ⟨D, hown, _, hs⟩ := h
  obtain ⟨u, ps, h1, h2⟩ := hown.look_ok (zd := .held (.int .i64 0)) (zp := []) lawS Tryz.underlying71 (Tryz.zeroValue3 w) rfl (keyS x hx)
  obtain ⟨h3, h4⟩ := hs x hx
  rw [h1, h3]
  have hu : DataW.held u = D.atKey (shk x) (.held (.int .i64 0)) := congrArg Prod.fst (Option.some.inj h2)
  cases hsx : s x with
  | none =>
    rw [hsx] at h3
    rw [Maps.atKey_of_not_has h3] at hu
    rw [DataW.held.inj hu]
    rfl
  | some v =>
    rw [h4 v _ hsx] at hu
    rw [DataW.held.inj hu]
    rfl
theorem Ms.put {w : World} {b m : Nat} {s : Sh → Option Nat} (h : Ms w b m s) (x : Sh) (hx : ShOk x) (hm : m < 100000) (hs : s x = none) (v : Nat) :
    ∃ w', (Instr.mapUpdate 71 (.map (some b)) (shv x) (.int .i64 (v : Int))).run Tryz.prog w = .ok () w' ∧ Ms w' b (m + 1) (fun y => if y = x then some v else s y) ∧ w.grownBy w' (some b) := by
  obtain ⟨D, hown, hsz, hS⟩ := h
  obtain ⟨w', h1, h2, h3⟩ := hown.update (d := .held (.int .i64 (v : Int))) (ps := []) lawS Tryz.underlying71 (by unfold maxLen; omega) (keyS x hx) rfl
  refine ⟨w', h1, ⟨_, h2, ?_, fun y hy => ?_⟩, h3⟩
  · rw [Maps.size_put (hown.tidy lawS), (hS x hx).1, hs, hsz]
    rfl
  · by_cases e : y = x
    · subst e
      have hk : WideAt.IsKeyLit (shk y) := trivial
      simp only [if_true]
      exact ⟨by rw [Maps.has_put_same hown.isMap hk]; rfl, fun u z hu => by cases hu; exact Maps.atKey_put_same hown.isMap hk _ _⟩
    · have hne : shk y ≠ shk x := fun q => e (shk_inj hy hx q)
      simp only [if_neg e]
      rw [Maps.has_put_other hne]
      exact ⟨(hS y hy).1, fun u z hu => by rw [Maps.atKey_put_other hne]; exact (hS y hy).2 u z hu⟩
end Go.Proofs.YtgdflaapgfpdeaaGreatDoor

namespace Go.Proofs.YtgdflaapgfpdeaaGreatDoor
open Go.RowKit

/-- An order: what is above each element; of functions: the sides. -/
abbrev OrdD := List Nat × Option (List Nat × List Nat)
def fnD (fa ta : List Nat) : Option OrdD := (fnP fa ta).map fun ab => (ab, some (fa, ta))
abbrev Tbl := List (Sh × Option OrdD)
def valD (T : Tbl) (i : Nat) : Option OrdD := (T[i]?).bind fun e => e.2
def shD (T : Tbl) (s : Sh) : Option OrdD := if 0 < s.1 then some (chainP s.1, none) else (valD T s.2.1).bind fun a => (valD T s.2.2).bind fun b => fnD a.1 b.1
/-- A shape that may be asked for. -/
def ShV (T : Tbl) (s : Sh) : Prop := ((s.1 = 2 ∨ s.1 = 4) ∧ s.2 = (0, 0)) ∨ (s.1 = 0 ∧ (valD T s.2.1).isSome = true ∧ (valD T s.2.2).isSome = true)
def numT (T : Tbl) (s : Sh) : Option Nat := T.findIdx? fun e => decide (e.1 = s)
def TOk (T : Tbl) : Prop := ∀ i (h : i < T.length), T[i].2 = shD T T[i].1 ∧ ShV T T[i].1 ∧ ∀ d, T[i].2 = some d → Lat d.1
theorem valD_lt {T : Tbl} {i : Nat} {d : OrdD} (h : valD T i = some d) : ∃ hi : i < T.length, T[i].2 = some d := by
  unfold valD at h
  rcases Nat.lt_or_ge i T.length with hi | hi
  · rw [List.getElem?_eq_getElem hi] at h
    exact ⟨hi, h⟩
  · rw [List.getElem?_eq_none hi] at h
    cases h
theorem valD_app {T R : Tbl} {i : Nat} (hi : i < T.length) : valD (T ++ R) i = valD T i := by
  unfold valD
  rw [List.getElem?_append_left hi]
theorem some_lt {T : Tbl} {i : Nat} (h : (valD T i).isSome = true) : i < T.length := by
  obtain ⟨d, hd⟩ := Option.isSome_iff_exists.1 h
  exact (valD_lt hd).1
theorem valD_mono {T R : Tbl} {i : Nat} {d : OrdD} (h : valD T i = some d) : valD (T ++ R) i = some d := by
  obtain ⟨hi, _⟩ := valD_lt h
  rw [valD_app hi, h]
theorem ShV.app {T : Tbl} {s : Sh} (h : ShV T s) (R : Tbl) : ShV (T ++ R) s ∧ shD (T ++ R) s = shD T s := by
  rcases h with h | ⟨h1, h2, h3⟩
  · refine ⟨.inl h, ?_⟩
    unfold shD
    rw [if_pos (by omega), if_pos (by omega)]
  · have e1 := valD_app (R := R) (some_lt h2)
    have e2 := valD_app (R := R) (some_lt h3)
    refine ⟨.inr ⟨h1, by rw [e1]; exact h2, by rw [e2]; exact h3⟩, ?_⟩
    unfold shD
    rw [if_neg (by omega), if_neg (by omega), e1, e2]
theorem TOk.nil : TOk [] := fun i h => by simp at h
theorem TOk.lat {T : Tbl} (h : TOk T) {i : Nat} {d : OrdD} (hd : valD T i = some d) : Lat d.1 := by
  obtain ⟨hi, e⟩ := valD_lt hd
  exact (h i hi).2.2 d e
theorem TOk.new {T : Tbl} (h : TOk T) {s : Sh} (hs : ShV T s) : ∀ d, shD T s = some d → Lat d.1 := by
  intro d hd
  unfold shD at hd
  rcases hs with ⟨h1, h2⟩ | ⟨h1, h2, h3⟩
  · rw [if_pos (by omega)] at hd
    rw [← Option.some.inj hd]
    exact chain_lat (by omega) (by omega)
  · rw [if_neg (by omega)] at hd
    obtain ⟨a, ha⟩ := Option.isSome_iff_exists.1 h2
    obtain ⟨b, hb⟩ := Option.isSome_iff_exists.1 h3
    rw [ha, hb] at hd
    have hd : fnD a.1 b.1 = some d := hd
    unfold fnD fnP at hd
    split at hd
    · next hl =>
      rw [← Option.some.inj hd]
      exact fns_lat (h.lat hb) hl
    · cases hd
theorem TOk.snoc {T : Tbl} (h : TOk T) {s : Sh} (hs : ShV T s) : TOk (T ++ [(s, shD T s)]) := by
  intro i hi
  rw [List.length_append, List.length_singleton] at hi
  rcases Nat.lt_or_ge i T.length with hlt | hge
  · obtain ⟨h1, h2, h3⟩ := h i hlt
    rw [List.getElem_append_left hlt]
    obtain ⟨q1, q2⟩ := h2.app [(s, shD T s)]
    exact ⟨by rw [q2]; exact h1, q1, h3⟩
  · obtain rfl : i = T.length := by omega
    have e : (T ++ [(s, shD T s)])[T.length]'(by simp) = (s, shD T s) := by simp
    rw [e]
    obtain ⟨q1, q2⟩ := hs.app [(s, shD T s)]
    exact ⟨q2.symm, q1, h.new hs⟩
theorem numT_some {T : Tbl} {s : Sh} {i : Nat} (h : numT T s = some i) : ∃ hi : i < T.length, T[i].1 = s := by
  unfold numT at h
  obtain ⟨hi, h1, _⟩ := List.findIdx?_eq_some_iff_getElem.1 h
  exact ⟨hi, by simpa using h1⟩
theorem numT_snoc {T : Tbl} {s : Sh} {r : Option OrdD} (h : numT T s = none) : (fun y => if y = s then some T.length else numT T y) = numT (T ++ [(s, r)]) := by
  funext y
  unfold numT at *
  rw [List.findIdx?_append]
  by_cases e : y = s
  · subst e
    rw [if_pos rfl, h]
    simp
  · rw [if_neg e]
    have : List.findIdx? (fun e : Sh × Option OrdD => decide (e.1 = y)) [(s, r)] = none := by
      simp
      exact fun q => e q.symm
    rw [this]
    simp

/-- The block p is an order. -/
def OrP (w : World) (S : Nat → Prop) (p : Nat) (d : OrdD) : Prop :=
  AbAt w S p d.1 ∧ ∀ fa ta, d.2 = some (fa, ta) → ∃ pf pt v, w.cell? ⟨p, 1, none⟩ = some (.pointer (some ⟨pf, 0, none⟩)) ∧ w.cell? ⟨p, 2, none⟩ = some (.pointer (some ⟨pt, 0, none⟩)) ∧ w.cell? ⟨p, 3, none⟩ = some v ∧ AbAt w S pf fa ∧ AbAt w S pt ta ∧ RowE ERs w S S v (resP fa ta)
theorem OrP.on {w w' : World} {S S' : Nat → Prop} {p : Nat} {d : OrdD} (h : OrP w S p d) (hk : Keeps S w w') (hS : ∀ b, S b → S' b) : OrP w' S' p d := by
  obtain ⟨h1, h2⟩ := h
  refine ⟨h1.on hk hS, fun fa ta e => ?_⟩
  obtain ⟨pf, pt, v, a1, a2, a3, a4, a5, a6⟩ := h2 fa ta e
  exact ⟨pf, pt, v, (hk.cell (p := ⟨p, 1, none⟩) h1.1).trans a1, (hk.cell (p := ⟨p, 2, none⟩) h1.1).trans a2, (hk.cell (p := ⟨p, 3, none⟩) h1.1).trans a3, a4.on hk hS, a5.on hk hS, a6.on hk hk hS hS⟩
/-- A pointer to an order, or none. -/
def EOr : Elt (Option OrdD) where
  k := 1
  C w S cs r := (r = none ∧ cs = [.pointer none]) ∨ ∃ d p, r = some d ∧ cs = [.pointer (some ⟨p, 0, none⟩)] ∧ OrP w S p d
  len := by rintro _ _ _ _ (⟨_, rfl⟩ | ⟨_, _, _, rfl, _⟩) <;> rfl
  one := by rintro _ _ _ _ (⟨_, rfl⟩ | ⟨_, _, _, rfl, _⟩) u hu <;> rw [List.mem_singleton.1 hu] <;> rfl
  on := by
    rintro _ _ _ _ _ _ hk hS (h | ⟨d, p, h1, h2, h3⟩)
    · exact .inl h
    · exact .inr ⟨d, p, h1, h2, h3.on hk hS⟩
theorem Tryz.ty53 : Ty 72 50 EOr.k 8 := by
  obtain ⟨i, hi, h0, h1, h2⟩ := info_parts (show (Tryz.prog.info? 50).map (fun i => (i.zero, i.size, i.bytes)) = some (some (.pointer none), 1, 8) by kernel_rfl)
  exact ⟨Tryz.underlying72, ⟨i, _, hi, h0, h1, h2, rfl⟩, by decide, by decide⟩
/-- The block K holds the map mb and the row v of the orders that are known. -/
structure KW (B0 K mb B : Nat) (v : Value) (T : Tbl) (w : World) : Prop where
  b0k : B0 ≤ K
  b0m : B0 ≤ mb
  kb : K < B
  mbb : mb < B
  ne : mb ≠ K
  bw : B ≤ w.heap.size
  blk : w.heap[K]? = some (.cells #[.map (some mb), v] 76 (0, 0))
  map : Ms w mb T.length (numT T)
  own : OwnN EOr 50 B (fun _ => False) w v (T.map fun e => e.2)
  ok : TOk T
theorem KW.on {B0 K mb B : Nat} {v : Value} {T : Tbl} {w w' : World} (h : KW B0 K mb B v T w) (hb : Below w.heap.size w w') : KW B0 K mb B v T w' := by
  have h1 := h.bw
  exact ⟨h.b0k, h.b0m, h.kb, h.mbb, h.ne, Nat.le_trans h1 hb.size, (hb.block K (lt_heap h.blk)).trans h.blk, h.map.on (hb.block mb h.map.lt), h.own.on (fun _ h => h.elim) h1 hb, h.ok⟩
/-- One of the orders that are known. -/
theorem KW.at {B0 K mb B : Nat} {v : Value} {T : Tbl} {w : World} (h : KW B0 K mb B v T w) (h0 : T ≠ []) : ∃ g cap, v = .slice (some ⟨g, 0, none⟩) T.length cap ∧ T.length ≤ cap ∧ B ≤ g ∧ g < w.heap.size ∧ ∀ i (hi : i < T.length), ∃ pv, w.cell? ⟨g, i, none⟩ = some pv ∧ EOr.C w (Nwr (fun _ => False) B w v) [pv] T[i].2 := by
  obtain ⟨css, hcs, hro⟩ := h.own.row
  rw [List.length_map] at hro
  rcases id hro.2 with ⟨_, h3⟩ | ⟨g, cap, cur, rfl, h4, h5, h6, _⟩
  · exact absurd (List.length_eq_zero_iff.1 h3) h0
  · refine ⟨g, cap, rfl, h6, h4, lt_heap h5, fun i hi => ?_⟩
    have hl := hcs.1
    rw [List.length_map] at hl
    have hc := hcs.2 i (by omega) (by rw [List.length_map]; exact hi)
    rw [List.getElem_map] at hc
    have h7 := flatC_get css hcs.lens i 0 (by omega) (by decide)
    have h8 := hro.cellAt (i * EOr.k + 0) (by show i * 1 + 0 < T.length * 1; omega)
    rw [h7] at h8
    have hlen := EOr.len hc
    obtain ⟨pv, hpv⟩ : ∃ pv, css[i] = [pv] := by
      match hcc : css[i], hlen with
      | [pv], _ => exact ⟨pv, rfl⟩
    rw [hpv] at hc h8
    refine ⟨pv, ?_, hc⟩
    have e : i * EOr.k + 0 = i := by show i * 1 + 0 = i; omega
    rw [e] at h8
    exact h8
theorem KW.get {B0 K mb B : Nat} {v : Value} {T : Tbl} {w : World} (h : KW B0 K mb B v T w) {i : Nat} {d : OrdD} (hd : valD T i = some d) : ∃ g cap p, v = .slice (some ⟨g, 0, none⟩) T.length cap ∧ T.length ≤ cap ∧ i < T.length ∧ B ≤ g ∧ g < w.heap.size ∧ w.cell? ⟨g, i, none⟩ = some (.pointer (some ⟨p, 0, none⟩)) ∧ OrP w (Nwr (fun _ => False) B w v) p d := by
  obtain ⟨hi, e⟩ := valD_lt hd
  obtain ⟨g, cap, h1, h2, h3, h4, h5⟩ := h.at (fun q => by rw [q] at hi; simp at hi)
  obtain ⟨pv, h6, h7⟩ := h5 i hi
  rw [e] at h7
  rcases h7 with ⟨q, _⟩ | ⟨d', p, q1, q2, q3⟩
  · cases q
  · injection q2 with q2
    rw [q2] at h6
    rw [← Option.some.inj q1] at q3
    exact ⟨g, cap, p, h1, h2, hi, h3, h4, h6, q3⟩
theorem set_row {w : World} {Z S : Nat → Prop} {v : Value} {l : List Nat} (h : RowE ESet w Z S v l) : Sets w Z v l := by
  rcases h with h | ⟨g, o, cap, h1, h2, h3, h4⟩
  · exact .inl h
  · refine .inr ⟨g, o, cap, h1, h2, h3, ?_, fun j hj => ?_⟩
    · cases l with
      | nil => exact absurd rfl h2
      | cons a r => exact (h4 0 (by simp)).1
    · obtain ⟨_, cs, h6, h7⟩ := h4 j hj
      have := h7 0 (by decide)
      rw [show cs = [Value.int .u64 l[j]] from h6] at this
      simpa [ESet] using this
/-- An order of a chain, new. -/
theorem or_chain {w w' : World} {v : Value} {n : Nat} (h1 : w'.heap[w.heap.size]? = some (.cells #[v, .pointer none, .pointer none, .slice none 0 0] 57 (0, 0))) (h2 : OwnN ESet 80 (w.heap.size + 1) (fun _ => False) w' v (chainP n)) : OrP w' (fun y => w.heap.size ≤ y ∧ y < w'.heap.size) w.heap.size (chainP n, none) := by
  refine ⟨⟨⟨Nat.le_refl _, lt_heap h1⟩, ?_⟩, fun fa ta e => by cases e⟩
  obtain ⟨ad, cap, rfl⟩ := h2.len
  exact ⟨ad, cap, heap_cl h1 rfl, set_row ((OwnN.rowE h2).on (Keeps.refl _ _) (Keeps.refl _ _) (fun y h => ⟨by have := h.1; omega, h.2⟩) fun y h => h)⟩
/-- An order of functions, new. -/
theorem or_fns {w w' : World} {pf pt : Nat} {fa ta : List Nat} {S : Nat → Prop} {a b : Value} (hS : ∀ y, w.heap.size ≤ y → y < w'.heap.size → S y) (h1 : w'.heap[w.heap.size]? = some (.cells #[a, .pointer (some ⟨pf, 0, none⟩), .pointer (some ⟨pt, 0, none⟩), b] 57 (0, 0))) (h2 : RowE ESet w' (fun y => w.heap.size ≤ y ∧ y < w'.heap.size) (fun y => w.heap.size ≤ y ∧ y < w'.heap.size) a (fnsP ta (resP fa ta))) (h3 : RowE ERs w' (fun y => w.heap.size ≤ y ∧ y < w'.heap.size) (fun y => w.heap.size ≤ y ∧ y < w'.heap.size) b (resP fa ta)) (hf : AbAt w' S pf fa) (ht : AbAt w' S pt ta) : OrP w' S w.heap.size (fnsP ta (resP fa ta), some (fa, ta)) := by
  refine ⟨⟨hS _ (Nat.le_refl _) (lt_heap h1), ?_⟩, fun fa' ta' e => ?_⟩
  · obtain ⟨ad, cap, css, rfl, _⟩ := RowE.cells (by decide) h2
    exact ⟨ad, cap, heap_cl h1 rfl, set_row (h2.on (Keeps.refl _ _) (Keeps.refl _ _) (fun y h => hS y h.1 h.2) fun y h => hS y h.1 h.2)⟩
  · obtain ⟨rfl, rfl⟩ : fa = fa' ∧ ta = ta' := by
      have := Option.some.inj e
      exact ⟨congrArg Prod.fst this, congrArg Prod.snd this⟩
    exact ⟨pf, pt, b, heap_cl h1 rfl, heap_cl h1 rfl, heap_cl h1 rfl, hf, ht, h3.on (Keeps.refl _ _) (Keeps.refl _ _) (fun y h => hS y h.1 h.2) fun y h => hS y h.1 h.2⟩
end Go.Proofs.YtgdflaapgfpdeaaGreatDoor

namespace Go.Proofs.YtgdflaapgfpdeaaGreatDoor
open Go.RowKit

set_option maxHeartbeats 8000000 in
set_option maxRecDepth 10000 in
theorem work_chain {w : World} {K n : Nat} (hn : n = 2 ∨ n = 4) :
    Calls Tryz.prog 57 #[.pointer (some ⟨K, 0, none⟩), shv (n, 0, 0)] w fun r w' => ∃ p, r = .returned (.pointer (some ⟨p, 0, none⟩)) ∧ Hid (Below w.heap.size w w') ∧ Hid (OrP w' (fun y => w.heap.size ≤ y ∧ y < w'.heap.size) p (chainP n, none)) := by
  unfold shv
  obtain ⟨W, hW⟩ : ∃ W, W = w.alloc (.cells #[.int .i64 (n : Int), .int .i64 ((0 : Nat) : Int), .int .i64 ((0 : Nat) : Int)] 90) := ⟨_, rfl⟩
  have hBW : Below w.heap.size w W := by rw [hW]; exact (Below.refl _ _).alloc (Nat.le_refl _) _
  have hXW : W.heap[w.heap.size]? = some (.cells #[.int .i64 (n : Int), .int .i64 ((0 : Nat) : Int), .int .i64 ((0 : Nat) : Int)] 90 (0, 0)) := by rw [hW]; exact new_blk _ _
  have c0 : W.cell? ⟨w.heap.size, 0, none⟩ = some (.int .i64 (n : Int)) := heap_cl hXW rfl
  have HBW : Hid (Below w.heap.size w W) := hBW
  have CC := chain_any (w := W) n hn
  have i1 : (n : Int) > 0 := by omega
  clear hBW hXW hn
  rw [show ((0 : Nat) : Int) = 0 from rfl] at hW
  go_enter Tryz.func57, Tryz.ntmps57
  go_upto_region 1 with fail
  rw [← hW]
  clear hW
  go_wp2_with (first | (go_at_call 67; (with_reducible refine Calls.mono CC ?_); rintro e' w2 ⟨rfl, hb2, v, q1, q2⟩))
  have HB : Hid (Below w.heap.size w w2) := HBW.out.trans (hb2.mono HBW.out.size)
  have HO : Hid (OrP w2 (fun y => w.heap.size ≤ y ∧ y < w2.heap.size) W.heap.size (chainP n, none)) := (or_chain q1 q2).on (Keeps.refl _ _) fun y h => ⟨Nat.le_trans HBW.out.size h.1, h.2⟩
  clear hb2 q1 q2 CC
  go_ret
  exact ⟨_, rfl, HB.out, HO.out⟩
set_option maxHeartbeats 8000000 in
set_option maxRecDepth 10000 in
theorem work_fn {B0 K mb B : Nat} {v : Value} {T : Tbl} {w : World} (h : KW B0 K mb B v T w) (a b : Nat) {da db : OrdD} (ha : valD T a = some da) (hb : valD T b = some db) :
    Calls Tryz.prog 57 #[.pointer (some ⟨K, 0, none⟩), shv (0, a, b)] w fun r w' => ∃ pv, r = .returned pv ∧ Hid (Below w.heap.size w w') ∧ Hid (EOr.C w' (Nwr (fun _ => False) B w' v) [pv] (fnD da.1 db.1)) := by
  unfold shv
  obtain ⟨W, hW⟩ : ∃ W, W = w.alloc (.cells #[.int .i64 ((0 : Nat) : Int), .int .i64 (a : Int), .int .i64 (b : Int)] 90) := ⟨_, rfl⟩
  obtain ⟨X, hX⟩ : ∃ X, X = w.heap.size := ⟨_, rfl⟩
  have hBW : Below w.heap.size w W := by rw [hW]; exact (Below.refl _ _).alloc (Nat.le_refl _) _
  have hXW : W.heap[X]? = some (.cells #[.int .i64 ((0 : Nat) : Int), .int .i64 (a : Int), .int .i64 (b : Int)] 90 (0, 0)) := by rw [hW, hX]; exact new_blk _ _
  have c0 : W.cell? ⟨X, 0, none⟩ = some (.int .i64 0) := heap_cl hXW rfl
  have hkw := (h.on hBW).on ((Below.refl _ _).drew)
  obtain ⟨g, cap, pf, rfl, hcap, ha', hBg, hgl, p1, o1⟩ := hkw.get ha
  obtain ⟨g', cap', pt, e2, _, hb', _, _, p2, o2⟩ := hkw.get hb
  obtain ⟨rfl, rfl⟩ : g = g' ∧ cap = cap' := by
    simp only [Value.slice.injEq, Option.some.injEq, Addr.mk.injEq, and_true, true_and] at e2
    exact e2
  have hla := h.ok.lat ha
  have hlb := h.ok.lat hb
  have hNl : ∀ y, Nwr (fun _ => False) B W.drew (.slice (some ⟨g, 0, none⟩) T.length cap) y → y < W.drew.heap.size := fun y hy => by
    rcases hy with hy | hy
    · exact hy.elim
    · exact hy.2.1
  have CF := functions_any (o1.1.on (Keeps.refl _ _) hNl) (o2.1.on (Keeps.refl _ _) hNl) hla hlb
  have HS0 : Hid ((fun w' : World => w'.cell? ⟨K, 1, none⟩ = some (.slice (some ⟨g, 0, none⟩) T.length cap) ∧ w'.cell? ⟨X, 1, none⟩ = some (.int .i64 (a : Int)) ∧ w'.cell? ⟨X, 2, none⟩ = some (.int .i64 (b : Int)) ∧ w'.cell? ⟨g, a, none⟩ = some (.pointer (some ⟨pf, 0, none⟩)) ∧ w'.cell? ⟨g, b, none⟩ = some (.pointer (some ⟨pt, 0, none⟩))) W.drew) := ⟨heap_cl hkw.blk rfl, heap_cl hXW rfl, heap_cl hXW rfl, p1, p2⟩
  have HEND : Hid (∀ r w', Below W.drew.heap.size W.drew w' → FnRes W.drew pf pt da.1 db.1 r w' → ∃ pv, r = .returned pv ∧ EOr.C w' (Nwr (fun _ => False) B w' (.slice (some ⟨g, 0, none⟩) T.length cap)) [pv] (fnD da.1 db.1)) := fun r w' hb' hr => by
    have hS : ∀ y, Nwr (fun _ => False) B W.drew (.slice (some ⟨g, 0, none⟩) T.length cap) y → Nwr (fun _ => False) B w' (.slice (some ⟨g, 0, none⟩) T.length cap) y := fun y hy => hy.imp id fun q => ⟨q.1, Nat.lt_of_lt_of_le q.2.1 hb'.size, q.2.2⟩
    have hk : Keeps (Nwr (fun _ => False) B W.drew (.slice (some ⟨g, 0, none⟩) T.length cap)) W.drew w' := Keeps.of hb' hNl
    have hbw := hkw.bw
    rcases hr with ⟨h1, rfl, x, y, q1, q2, q3⟩ | ⟨h1, rfl⟩
    · refine ⟨_, rfl, .inr ⟨_, _, ?_, rfl, or_fns (fun y h1 h2 => .inr ⟨by omega, h2, fun e => ?_⟩) q1 q2 q3 (o1.1.on hk hS) (o2.1.on hk hS)⟩⟩
      · unfold fnD fnP
        rw [if_pos h1]
        rfl
      · have : g = y := by injection e
        omega
    · refine ⟨_, rfl, .inl ⟨?_, rfl⟩⟩
      unfold fnD fnP
      rw [if_neg (by omega)]
      rfl
  have HBW : Hid (Below w.heap.size w W) := hBW
  have HXE : Hid (X = w.heap.size) := hX
  have i1 : ¬ ((0 : Int) > 0) := by omega
  have j1 : (0 : Int) ≤ (a : Int) := by omega
  have j2 : (a : Int) < (T.length : Int) := by omega
  have j3 : (0 : Int) ≤ (b : Int) := by omega
  have j4 : (b : Int) < (T.length : Int) := by omega
  have hT : T.length ≤ cap := hcap
  clear hBW hXW hkw p1 p2 o1 o2 hla hlb hNl h ha hb ha' hb' hBg hgl hcap hX e2
  generalize T.length = n at *
  rw [show ((0 : Nat) : Int) = 0 from rfl] at hW ⊢
  go_enter Tryz.func57, Tryz.ntmps57
  go_upto_region 1 with fail
  rw [← hW, ← HXE.out]
  clear hW
  go_upto_region 3 with fail
  have hS0 := HS0.out
  clear c0 i1
  refine wp_region_M (S := (fun w' : World => w'.cell? ⟨K, 1, none⟩ = some (.slice (some ⟨g, 0, none⟩) n cap) ∧ w'.cell? ⟨X, 1, none⟩ = some (.int .i64 (a : Int)) ∧ w'.cell? ⟨X, 2, none⟩ = some (.int .i64 (b : Int)) ∧ w'.cell? ⟨g, a, none⟩ = some (.pointer (some ⟨pf, 0, none⟩)) ∧ w'.cell? ⟨g, b, none⟩ = some (.pointer (some ⟨pt, 0, none⟩)))) (L := 20) (n := 20) (by kernel_rfl) rfl (by kernel_rfl) ?_
  refine wpAnyK_go (i := 0) (m' := 1) (some 11) (v := .pointer (some ⟨K, 0, none⟩)) rfl rfl (by kernel_rfl) (by kernel_rfl) (by kernel_rfl) (by kernel_rfl) (by kernel_rfl) (fun _ _ _ h => h) (Or.inl ⟨by rfl, ?_⟩) hS0 ?_
  · intro w' hSw
    go_simp
  simp only [Act.put, List.setIfInBounds_toArray, List.set_cons_zero, List.set_cons_succ]
  refine wpAnyK_go (i := 1) (m' := 3) (some 12) (v := .pointer (some ⟨K, 0, none⟩)) rfl rfl (by kernel_rfl) (by kernel_rfl) (by kernel_rfl) (by kernel_rfl) (by kernel_rfl) (fun _ _ _ h => h) (Or.inl ⟨by rfl, ?_⟩) hS0 ?_
  · intro w' hSw
    go_simp
  simp only [Act.put, List.setIfInBounds_toArray, List.set_cons_zero, List.set_cons_succ]
  refine wpAnyK_go (i := 2) (m' := 7) (some 13) (v := .pointer (some ⟨K, 0, none⟩)) rfl rfl (by kernel_rfl) (by kernel_rfl) (by kernel_rfl) (by kernel_rfl) (by kernel_rfl) (fun _ _ _ h => h) (Or.inl ⟨by rfl, ?_⟩) hS0 ?_
  · intro w' hSw
    go_simp
  simp only [Act.put, List.setIfInBounds_toArray, List.set_cons_zero, List.set_cons_succ]
  refine wpAnyK_go (i := 3) (m' := 15) (some 14) (v := .pointer (some ⟨K, 1, none⟩)) rfl rfl (by kernel_rfl) (by kernel_rfl) (by kernel_rfl) (by kernel_rfl) (by kernel_rfl) (fun _ _ _ h => h) (Or.inl ⟨by rfl, ?_⟩) hS0 ?_
  · intro w' hSw
    go_simp
  simp only [Act.put, List.setIfInBounds_toArray, List.set_cons_zero, List.set_cons_succ]
  refine wpAnyK_go (i := 4) (m' := 31) (some 15) (v := .slice (some ⟨g, 0, none⟩) n cap) rfl rfl (by kernel_rfl) (by kernel_rfl) (by kernel_rfl) (by kernel_rfl) (by kernel_rfl) (fun _ _ _ h => h) (Or.inl ⟨by rfl, ?_⟩) hS0 ?_
  · intro w' hSw
    obtain ⟨s1, s2, s3, s4, s5⟩ := hSw
    go_simp
  simp only [Act.put, List.setIfInBounds_toArray, List.set_cons_zero, List.set_cons_succ]
  refine wpAnyK_go (i := 5) (m' := 63) (some 16) (v := .pointer (some ⟨X, 1, none⟩)) rfl rfl (by kernel_rfl) (by kernel_rfl) (by kernel_rfl) (by kernel_rfl) (by kernel_rfl) (fun _ _ _ h => h) (Or.inl ⟨by rfl, ?_⟩) hS0 ?_
  · intro w' hSw
    go_simp
  simp only [Act.put, List.setIfInBounds_toArray, List.set_cons_zero, List.set_cons_succ]
  refine wpAnyK_go (i := 6) (m' := 127) (some 17) (v := .int .i64 a) rfl rfl (by kernel_rfl) (by kernel_rfl) (by kernel_rfl) (by kernel_rfl) (by kernel_rfl) (fun _ _ _ h => h) (Or.inl ⟨by rfl, ?_⟩) hS0 ?_
  · intro w' hSw
    obtain ⟨s1, s2, s3, s4, s5⟩ := hSw
    go_simp
  simp only [Act.put, List.setIfInBounds_toArray, List.set_cons_zero, List.set_cons_succ]
  refine wpAnyK_go (i := 7) (m' := 255) (some 18) (v := .pointer (some ⟨g, a, none⟩)) rfl rfl (by kernel_rfl) (by kernel_rfl) (by kernel_rfl) (by kernel_rfl) (by kernel_rfl) (fun _ _ _ h => h) (Or.inl ⟨by rfl, ?_⟩) hS0 ?_
  · intro w' hSw
    go_simp
  simp only [Act.put, List.setIfInBounds_toArray, List.set_cons_zero, List.set_cons_succ]
  refine wpAnyK_go (i := 8) (m' := 511) (some 19) (v := .pointer (some ⟨pf, 0, none⟩)) rfl rfl (by kernel_rfl) (by kernel_rfl) (by kernel_rfl) (by kernel_rfl) (by kernel_rfl) (fun _ _ _ h => h) (Or.inl ⟨by rfl, ?_⟩) hS0 ?_
  · intro w' hSw
    obtain ⟨s1, s2, s3, s4, s5⟩ := hSw
    go_simp
  simp only [Act.put, List.setIfInBounds_toArray, List.set_cons_zero, List.set_cons_succ]
  refine wpAnyK_go (i := 9) (m' := 1023) (some 20) (v := .pointer (some ⟨K, 0, none⟩)) rfl rfl (by kernel_rfl) (by kernel_rfl) (by kernel_rfl) (by kernel_rfl) (by kernel_rfl) (fun _ _ _ h => h) (Or.inl ⟨by rfl, ?_⟩) hS0 ?_
  · intro w' hSw
    go_simp
  simp only [Act.put, List.setIfInBounds_toArray, List.set_cons_zero, List.set_cons_succ]
  refine wpAnyK_go (i := 10) (m' := 2047) (some 21) (v := .pointer (some ⟨K, 0, none⟩)) rfl rfl (by kernel_rfl) (by kernel_rfl) (by kernel_rfl) (by kernel_rfl) (by kernel_rfl) (fun _ _ _ h => h) (Or.inl ⟨by rfl, ?_⟩) hS0 ?_
  · intro w' hSw
    go_simp
  simp only [Act.put, List.setIfInBounds_toArray, List.set_cons_zero, List.set_cons_succ]
  refine wpAnyK_go (i := 11) (m' := 4095) (some 22) (v := .pointer (some ⟨K, 0, none⟩)) rfl rfl (by kernel_rfl) (by kernel_rfl) (by kernel_rfl) (by kernel_rfl) (by kernel_rfl) (fun _ _ _ h => h) (Or.inl ⟨by rfl, ?_⟩) hS0 ?_
  · intro w' hSw
    go_simp
  simp only [Act.put, List.setIfInBounds_toArray, List.set_cons_zero, List.set_cons_succ]
  refine wpAnyK_go (i := 12) (m' := 8191) (some 23) (v := .pointer (some ⟨K, 1, none⟩)) rfl rfl (by kernel_rfl) (by kernel_rfl) (by kernel_rfl) (by kernel_rfl) (by kernel_rfl) (fun _ _ _ h => h) (Or.inl ⟨by rfl, ?_⟩) hS0 ?_
  · intro w' hSw
    go_simp
  simp only [Act.put, List.setIfInBounds_toArray, List.set_cons_zero, List.set_cons_succ]
  refine wpAnyK_go (i := 13) (m' := 16383) (some 24) (v := .slice (some ⟨g, 0, none⟩) n cap) rfl rfl (by kernel_rfl) (by kernel_rfl) (by kernel_rfl) (by kernel_rfl) (by kernel_rfl) (fun _ _ _ h => h) (Or.inl ⟨by rfl, ?_⟩) hS0 ?_
  · intro w' hSw
    obtain ⟨s1, s2, s3, s4, s5⟩ := hSw
    go_simp
  simp only [Act.put, List.setIfInBounds_toArray, List.set_cons_zero, List.set_cons_succ]
  refine wpAnyK_go (i := 14) (m' := 32767) (some 25) (v := .pointer (some ⟨X, 2, none⟩)) rfl rfl (by kernel_rfl) (by kernel_rfl) (by kernel_rfl) (by kernel_rfl) (by kernel_rfl) (fun _ _ _ h => h) (Or.inl ⟨by rfl, ?_⟩) hS0 ?_
  · intro w' hSw
    go_simp
  simp only [Act.put, List.setIfInBounds_toArray, List.set_cons_zero, List.set_cons_succ]
  refine wpAnyK_go (i := 15) (m' := 65535) (some 26) (v := .int .i64 b) rfl rfl (by kernel_rfl) (by kernel_rfl) (by kernel_rfl) (by kernel_rfl) (by kernel_rfl) (fun _ _ _ h => h) (Or.inl ⟨by rfl, ?_⟩) hS0 ?_
  · intro w' hSw
    obtain ⟨s1, s2, s3, s4, s5⟩ := hSw
    go_simp
  simp only [Act.put, List.setIfInBounds_toArray, List.set_cons_zero, List.set_cons_succ]
  refine wpAnyK_go (i := 16) (m' := 131071) (some 27) (v := .pointer (some ⟨g, b, none⟩)) rfl rfl (by kernel_rfl) (by kernel_rfl) (by kernel_rfl) (by kernel_rfl) (by kernel_rfl) (fun _ _ _ h => h) (Or.inl ⟨by rfl, ?_⟩) hS0 ?_
  · intro w' hSw
    go_simp
  simp only [Act.put, List.setIfInBounds_toArray, List.set_cons_zero, List.set_cons_succ]
  refine wpAnyK_go (i := 17) (m' := 262143) (some 28) (v := .pointer (some ⟨pt, 0, none⟩)) rfl rfl (by kernel_rfl) (by kernel_rfl) (by kernel_rfl) (by kernel_rfl) (by kernel_rfl) (fun _ _ _ h => h) (Or.inl ⟨by rfl, ?_⟩) hS0 ?_
  · intro w' hSw
    obtain ⟨s1, s2, s3, s4, s5⟩ := hSw
    go_simp
  simp only [Act.put, List.setIfInBounds_toArray, List.set_cons_zero, List.set_cons_succ]
  refine wpAnyK_only (i := 18) (m' := 524287) (by kernel_rfl) rfl (by kernel_rfl) fun K2 hK => ?_
  go_simp
  (with_reducible refine Calls.mono CF ?_)
  rintro e' w2 ⟨HB2, HR2⟩
  obtain ⟨pv, rfl, HC⟩ := HEND.out _ _ HB2.out HR2.out
  replace HC : Hid _ := HC
  have hS2 : (fun w' : World => w'.cell? ⟨K, 1, none⟩ = some (.slice (some ⟨g, 0, none⟩) n cap) ∧ w'.cell? ⟨X, 1, none⟩ = some (.int .i64 (a : Int)) ∧ w'.cell? ⟨X, 2, none⟩ = some (.int .i64 (b : Int)) ∧ w'.cell? ⟨g, a, none⟩ = some (.pointer (some ⟨pf, 0, none⟩)) ∧ w'.cell? ⟨g, b, none⟩ = some (.pointer (some ⟨pt, 0, none⟩))) w2 := ⟨(HB2.out.cell (p := ⟨K, 1, none⟩) (World.block_lt_of_cell? _ _ hS0.1)).trans hS0.1, (HB2.out.cell (p := ⟨X, 1, none⟩) (World.block_lt_of_cell? _ _ hS0.2.1)).trans hS0.2.1, (HB2.out.cell (p := ⟨X, 2, none⟩) (World.block_lt_of_cell? _ _ hS0.2.2.1)).trans hS0.2.2.1, (HB2.out.cell (p := ⟨g, a, none⟩) (World.block_lt_of_cell? _ _ hS0.2.2.2.1)).trans hS0.2.2.2.1, (HB2.out.cell (p := ⟨g, b, none⟩) (World.block_lt_of_cell? _ _ hS0.2.2.2.2)).trans hS0.2.2.2.2⟩
  go_simp
  refine hK.out _ _ (fun _ => hS2) ?_
  clear hK K2 CF HR2
  refine wpAnyK_only (i := 19) (m' := 1048575) (by kernel_rfl) rfl (by kernel_rfl) fun K2 hK => ?_
  go_simp
  refine hK.out _ _ (fun _ => hS2) ?_
  clear hK K2
  refine wpAnyK_done (by kernel_rfl) ?_ _
  clear hS2 hS0 HS0
  have HB : Hid (Below w.heap.size w w2) := HBW.out.trans ((Below.trans ((Below.refl _ _).drew) HB2.out).mono HBW.out.size)
  go_wp2
  go_ret
  exact ⟨pv, rfl, HB.out, HC.out⟩
theorem work_any {B0 K mb B : Nat} {v : Value} {T : Tbl} {w : World} (h : KW B0 K mb B v T w) (s : Sh) (hs : ShV T s) :
    Calls Tryz.prog 57 #[.pointer (some ⟨K, 0, none⟩), shv s] w fun r w' => ∃ pv, r = .returned pv ∧ Hid (Below w.heap.size w w') ∧ Hid (EOr.C w' (Nwr (fun _ => False) B w' v) [pv] (shD T s)) := by
  obtain ⟨n, a, b⟩ := s
  rcases hs with ⟨hn, e⟩ | ⟨h1, h2, h3⟩
  · have e : (a, b) = (0, 0) := e
    obtain ⟨rfl, rfl⟩ : a = 0 ∧ b = 0 := by simpa using e
    have hn : n = 2 ∨ n = 4 := hn
    refine Calls.mono (work_chain (w := w) (K := K) hn) fun r w' ⟨p, h4, h5, h6⟩ => ⟨_, h4, h5, .inr ⟨_, p, ?_, rfl, h6.out.on (Keeps.refl _ _) fun y hy => .inr ⟨Nat.le_trans h.bw hy.1, hy.2, fun e => ?_⟩⟩⟩
    · show (if 0 < n then _ else _) = _
      rw [if_pos (by omega)]
    · have := (h.own.lt y e).2
      have := hy.1
      omega
  · have h1 : n = 0 := h1
    subst h1
    obtain ⟨da, ha⟩ := Option.isSome_iff_exists.1 h2
    obtain ⟨db, hb⟩ := Option.isSome_iff_exists.1 h3
    have e : shD T (0, a, b) = fnD da.1 db.1 := by
      show (if 0 < 0 then _ else (valD T a).bind _) = _
      rw [if_neg (by omega), show valD T a = some da from ha]
      show (valD T b).bind _ = _
      rw [show valD T b = some db from hb]
      rfl
    rw [e]
    exact work_fn h a b ha hb
end Go.Proofs.YtgdflaapgfpdeaaGreatDoor

namespace Go.Proofs.YtgdflaapgfpdeaaGreatDoor
open Go.RowKit

theorem OwnN.grown {α : Type} {E : Elt α} {e B mb : Nat} {v : Value} {l : List α} {w w' : World} (h : OwnN E e B (fun _ => False) w v l) (hg : w.grownBy w' (some mb)) (hm : mb < B) : OwnN E e B (fun _ => False) w' v l := by
  have hne : ∀ y, y < w.heap.size → B ≤ y → w'.heap[y]? = w.heap[y]? := fun y h1 h2 => hg.block y h1 fun q => by
    have : y = mb := Option.some.inj q
    omega
  refine Own.up (Own.on h (fun y hy => ?_) fun g q => hne g (h.lt g q).2 (h.lt g q).1) (fun y hy => hy.imp id fun q => ⟨q.1, Nat.lt_of_lt_of_le q.2.1 hg.size, q.2.2⟩) fun y hy q => ?_
  · rcases hy with hy | hy
    · exact hy.elim
    · exact hne y hy.2.1 hy.1
  · rcases hy with hy | hy
    · exact hy
    · exact hy.2.2 q
/-- Only K, mb and the row v are written. -/
structure Kn (K mb : Nat) (v v' : Value) (w w' : World) : Prop where
  os : w'.os = w.os
  tape : w'.tape = w.tape
  output : w'.output = w.output
  size : w.heap.size ≤ w'.heap.size
  block : ∀ y, y < w.heap.size → y ≠ K → y ≠ mb → v.ownBlock ≠ some y → w'.heap[y]? = w.heap[y]?
  new : ∀ y, v'.ownBlock = some y → v.ownBlock = some y ∨ w.heap.size ≤ y
theorem Kn.of {K mb : Nat} {v : Value} {w w' : World} (h : Below w.heap.size w w') : Kn K mb v v w w' := ⟨h.os, h.tape, h.output, h.size, fun y hy _ _ _ => h.block y hy, fun _ e => .inl e⟩
theorem Kn.trans {K mb : Nat} {v1 v2 v3 : Value} {w1 w2 w3 : World} (h : Kn K mb v1 v2 w1 w2) (k : Kn K mb v2 v3 w2 w3) : Kn K mb v1 v3 w1 w3 := by
  refine ⟨k.os.trans h.os, k.tape.trans h.tape, k.output.trans h.output, Nat.le_trans h.size k.size, fun y h1 h2 h3 h4 => ?_, fun y e => ?_⟩
  · refine (k.block y (Nat.lt_of_lt_of_le h1 h.size) h2 h3 fun e => ?_).trans (h.block y h1 h2 h3 h4)
    rcases h.new y e with e | e
    · exact h4 e
    · omega
  · rcases k.new y e with e | e
    · exact h.new y e
    · exact .inr (Nat.le_trans h.size e)
theorem Kn.below {B0 K mb B : Nat} {v v' : Value} {T : Tbl} {w w' : World} (h : Kn K mb v v' w w') (k : KW B0 K mb B v T w) : Below B0 w w' := by
  have h1 := k.b0k
  have h2 := k.b0m
  have h3 := k.kb
  have h4 := k.bw
  exact ⟨h.os, h.tape, h.output, h.size, fun y hy => h.block y (by omega) (by omega) (by omega) fun e => by have := (k.own.lt y e).1; omega⟩
theorem wpList_append_K1 {α : Type} {E : Elt α} {ops : Array Oper} {rest : List Oper} {o : Oper} {a : Act} {Q : Exit → Act → World → Prop} {w2 : World} {B t e b : Nat} (T : Ty t e E.k b) (hgd : o.guard = none) (s x : Operand)
    (ho : o.op = .call { callee := .builtin .append, args := #[s, x], argTypes := #[t, t] }) {v : Value} {l : List α} {cs : List Value} {p : α} {cap : Nat} (hs : a.eval s = v) (hown : OwnN E e B (fun _ => False) w2 v l) (hB : B ≤ w2.heap.size) (hx : a.eval x = .slice (some ⟨w2.heap.size, 0, none⟩) 1 cap) (hC : E.C w2 (Nwr (fun _ => False) B w2 v) cs p) (hcap : 1 ≤ cap) (hl : l.length + 1 ≤ 10000000)
    (h : ∀ v' w', OwnN E e B (fun _ => False) w' v' (l ++ [p]) → Below B w2 w' → Hid (∀ y, y < w2.heap.size → v.ownBlock ≠ some y → w'.heap[y]? = w2.heap[y]?) → Hid (∀ y, v'.ownBlock = some y → v.ownBlock = some y ∨ w2.heap.size ≤ y) → wpList Tryz.prog ops Q rest (a.put o.dst v') w') : wpList Tryz.prog ops Q (o :: rest) a (w2.alloc (.cells cs.toArray e)) := by
  have hb2 : Below w2.heap.size w2 (w2.alloc (.cells cs.toArray e)) := (Below.refl _ _).alloc (Nat.le_refl _) _
  have hs2 : w2.heap.size ≤ (w2.alloc (.cells cs.toArray e)).heap.size := hb2.size
  have hO := hown.on (fun _ h => h.elim) hB hb2
  have hSl : ∀ y, Nwr (fun _ => False) B (w2.alloc (.cells cs.toArray e)) v y → y < (w2.alloc (.cells cs.toArray e)).heap.size := fun y hy => by
    rcases hy with hy | hy
    · exact hy.elim
    · exact hy.2.1
  refine wpList_append_E (E := E) (Z := fun y => y = w2.heap.size) T hgd s x ho hs hO hx (RowE.new (E.on (Keeps.of hb2 fun y hy => by
    rcases hy with hy | hy
    · exact hy.elim
    · exact hy.2.1) (fun y hy => hy.imp id fun h => ⟨h.1, Nat.lt_of_lt_of_le h.2.1 hs2, h.2.2⟩) hC) (new_blk _ _) hcap) hl (Nat.le_trans hB hs2) hSl ?_
  intro v' w' O K1 K2 G
  refine h v' w' ?_ ((hb2.mono hB).trans K1) (fun y hy hne => (K2 y (Nat.lt_of_lt_of_le hy hs2) hne).trans (hb2.block y hy)) (fun y ey => ?_)
  · refine O.up (fun y hy => hy.imp id fun h => ⟨h.1, Nat.lt_of_lt_of_le h.2.1 K1.size, ?_⟩) fun y hy e => ?_
    · rcases G with G | ⟨g, G, hg⟩
      · rw [G]; exact h.2.2
      · rw [G]; intro e; injection e with e; have := h.2.1; omega
    · rcases hy with hy | hy
      · exact hy
      · exact hy.2.2 e
  · rcases G with G | ⟨g, G, hg⟩
    · exact .inl (by rw [← G]; exact ey)
    · rw [G] at ey
      have : g = y := Option.some.inj ey
      exact .inr (by omega)
theorem len_of {w : World} {B : Nat} {v : Value} {T : Tbl} {r : Option OrdD} (h : OwnN EOr 50 B (fun _ => False) w v ((T.map fun e => e.2) ++ [r])) : ∃ ad cap, v = .slice ad (T.length + 1) cap := by
  obtain ⟨ad, cap, e⟩ := h.len
  exact ⟨ad, cap, by rw [e]; simp⟩
theorem ptr_of {w : World} {S : Nat → Prop} {pv : Value} {r : Option OrdD} (h : EOr.C w S [pv] r) : ∃ q, pv = .pointer q := by
  rcases h with ⟨_, h⟩ | ⟨d, p, _, h, _⟩
  · exact ⟨none, List.head_eq_of_cons_eq h⟩
  · exact ⟨_, List.head_eq_of_cons_eq h⟩
/-- One order more. -/
theorem KW.snoc {B0 K mb B : Nat} {v v' : Value} {T : Tbl} {s : Sh} {w2 w3 w4 : World} (h : KW B0 K mb B v T w2) (hs : ShV T s) (hn : numT T s = none) (hm : Ms w3 mb (T.length + 1) (fun y => if y = s then some T.length else numT T y)) (hg : w2.grownBy w3 (some mb)) (hO : OwnN EOr 50 B (fun _ => False) w4 v' ((T.map fun e => e.2) ++ [shD T s])) (hb : Below B w3 w4) :
    KW B0 K mb B v' (T ++ [(s, shD T s)]) (w4.setCell ⟨K, 1, none⟩ v') := by
  have hkb := h.kb
  have hmb := h.mbb
  have hbw := h.bw
  have hK3 : w3.heap[K]? = some (.cells #[.map (some mb), v] 76 (0, 0)) := (hg.block K (lt_heap h.blk) (fun e => h.ne (by injection e with e; exact e.symm))).trans h.blk
  have hK4 : w4.heap[K]? = some (.cells #[.map (some mb), v] 76 (0, 0)) := (hb.block K hkb).trans hK3
  have hne : ∀ y, y ≠ K → (w4.setCell ⟨K, 1, none⟩ v').heap[y]? = w4.heap[y]? := fun y hy => Below.heap_setCell _ _ _ _ (by show y ≠ K; exact hy)
  have hsz : (w4.setCell ⟨K, 1, none⟩ v').heap.size = w4.heap.size := World.size_setCell _ _ _
  refine ⟨h.b0k, h.b0m, hkb, hmb, h.ne, ?_, setCell_block hK4, ?_, ?_, h.ok.snoc hs⟩
  · rw [hsz]
    exact Nat.le_trans (Nat.le_trans hbw hg.size) hb.size
  · rw [List.length_append, List.length_singleton, ← numT_snoc hn]
    exact hm.on ((hne mb h.ne).trans (hb.block mb hmb))
  · rw [List.map_append]
    have O2 : Own EOr 50 B (w4.setCell ⟨K, 1, none⟩ v') (Nwr (fun _ => False) B w4 v') v' ((T.map fun e => e.2) ++ [shD T s]) := Own.on hO (fun y hy => by
      rcases hy with hy | hy
      · exact hy.elim
      · exact hne y (by have := hy.1; omega)) fun g e => hne g (by have := (hO.lt g e).1; omega)
    refine Own.up O2 (fun y hy => hy.imp id fun q => ⟨q.1, by rw [hsz]; exact q.2.1, q.2.2⟩) fun y hy e => ?_
    rcases hy with hy | hy
    · exact hy
    · exact hy.2.2 e
set_option maxHeartbeats 8000000 in
set_option maxRecDepth 10000 in
theorem number_any {B0 K mb B : Nat} {v : Value} {T : Tbl} {w : World} (h : KW B0 K mb B v T w) (s : Sh) (hs : ShV T s) (ho : ShOk s) (hT : T.length ≤ 90000) :
    Calls Tryz.prog 56 #[.pointer (some ⟨K, 0, none⟩), shv s, .func (.func 57) #[.pointer (some ⟨K, 0, none⟩)] #[]] w fun r w' => ∃ (idx : Nat) (v' : Value) (R : Tbl), r = .returned (.int .i64 (idx : Int)) ∧ Hid (KW B0 K mb B v' (T ++ R) w') ∧ Hid (R.length ≤ 1 ∧ valD (T ++ R) idx = shD T s ∧ idx < (T ++ R).length) ∧ Hid (Kn K mb v v' w w') := by
  obtain ⟨a, b, c⟩ := s
  have HSV : Hid (shv (a, b, c) = .agg #[.int .i64 (a : Int), .int .i64 (b : Int), .int .i64 (c : Int)]) := rfl
  rw [HSV.out]
  obtain ⟨W, hW⟩ : ∃ W, W = w.alloc (.cells #[.int .i64 (a : Int), .int .i64 (b : Int), .int .i64 (c : Int)] 90) := ⟨_, rfl⟩
  obtain ⟨X, hX⟩ : ∃ X, X = w.heap.size := ⟨_, rfl⟩
  have hBW : Below w.heap.size w W := by rw [hW]; exact (Below.refl _ _).alloc (Nat.le_refl _) _
  have hXW : W.heap[X]? = some (.cells #[.int .i64 (a : Int), .int .i64 (b : Int), .int .i64 (c : Int)] 90 (0, 0)) := by rw [hW, hX]; exact new_blk _ _
  have HKW : Hid (KW B0 K mb B v T W.drew) := (h.on hBW).on ((Below.refl _ _).drew)
  have HBW : Hid (Below w.heap.size w W.drew) := hBW.drew
  have HB0 : Hid (B0 ≤ w.heap.size) := Nat.le_trans h.b0k (Nat.le_of_lt (lt_heap h.blk))
  have HXE : Hid (X = w.heap.size) := hX
  have HXW : Hid (W.drew.heap[X]? = some (.cells #[.int .i64 (a : Int), .int .i64 (b : Int), .int .i64 (c : Int)] 90 (0, 0))) := hXW
  have HWK : Hid (Calls Tryz.prog 57 #[.pointer (some ⟨K, 0, none⟩), .agg #[.int .i64 (a : Int), .int .i64 (b : Int), .int .i64 (c : Int)]] W.drew fun r w' => ∃ pv, r = .returned pv ∧ Hid (Below W.drew.heap.size W.drew w') ∧ Hid (EOr.C w' (Nwr (fun _ => False) B w' v) [pv] (shD T (a, b, c)))) := work_any (w := W.drew) HKW.out (a, b, c) hs
  have HLK : Hid ((Instr.lookup 71 (.map (some mb)) (shv (a, b, c)) true).run Tryz.prog W.drew = .ok (.tuple #[.int .i64 (((numT T (a, b, c)).getD 0 : Nat) : Int), .bool (numT T (a, b, c)).isSome]) W.drew) := HKW.out.map.look (a, b, c) ho
  have HS : Hid (ShV T (a, b, c)) := hs
  have HO : Hid (ShOk (a, b, c)) := ho
  clear h hs ho hBW hXW hX
  obtain ⟨no, hno⟩ : ∃ no, no = (numT T (a, b, c)).getD 0 := ⟨_, rfl⟩
  obtain ⟨is, his⟩ : ∃ is, is = (numT T (a, b, c)).isSome := ⟨_, rfl⟩
  replace HLK : Hid ((Instr.lookup 71 (.map (some mb)) (.agg #[.int .i64 (a : Int), .int .i64 (b : Int), .int .i64 (c : Int)]) true).run Tryz.prog W.drew = .ok (.tuple #[.int .i64 (no : Int), .bool is]) W.drew) := by
    rw [hno, his]
    exact HLK.out
  replace hno : Hid _ := hno
  replace his : Hid _ := his
  have hS0 : (fun w' : World => w'.cell? ⟨K, 0, none⟩ = some (.map (some mb)) ∧ w'.cell? ⟨X, 0, none⟩ = some (.int .i64 (a : Int)) ∧ w'.cell? ⟨X, 1, none⟩ = some (.int .i64 (b : Int)) ∧ w'.cell? ⟨X, 2, none⟩ = some (.int .i64 (c : Int)) ∧ (Instr.lookup 71 (.map (some mb)) (.agg #[.int .i64 (a : Int), .int .i64 (b : Int), .int .i64 (c : Int)]) true).run Tryz.prog w' = .ok (.tuple #[.int .i64 (no : Int), .bool is]) w') W.drew := ⟨heap_cl HKW.out.blk rfl, heap_cl HXW.out rfl, heap_cl HXW.out rfl, heap_cl HXW.out rfl, HLK.out⟩
  go_enter Tryz.func56, Tryz.ntmps56
  go_upto_region 1 with fail
  rw [← hW, ← HXE.out]
  clear hW
  refine wp_region_M (S := (fun w' : World => w'.cell? ⟨K, 0, none⟩ = some (.map (some mb)) ∧ w'.cell? ⟨X, 0, none⟩ = some (.int .i64 (a : Int)) ∧ w'.cell? ⟨X, 1, none⟩ = some (.int .i64 (b : Int)) ∧ w'.cell? ⟨X, 2, none⟩ = some (.int .i64 (c : Int)) ∧ (Instr.lookup 71 (.map (some mb)) (.agg #[.int .i64 (a : Int), .int .i64 (b : Int), .int .i64 (c : Int)]) true).run Tryz.prog w' = .ok (.tuple #[.int .i64 (no : Int), .bool is]) w')) (L := 11) (n := 11) (by kernel_rfl) rfl (by kernel_rfl) ?_
  refine wpAnyK_go (i := 0) (m' := 1) (some 11) (v := .pointer (some ⟨K, 0, none⟩)) rfl rfl (by kernel_rfl) (by kernel_rfl) (by kernel_rfl) (by kernel_rfl) (by kernel_rfl) (fun _ _ _ h => h) (Or.inl ⟨by rfl, ?_⟩) hS0 ?_
  · intro w' hSw
    go_simp
  simp only [Act.put, List.setIfInBounds_toArray, List.set_cons_zero, List.set_cons_succ]
  refine wpAnyK_go (i := 1) (m' := 3) (some 12) (v := .pointer (some ⟨K, 0, none⟩)) rfl rfl (by kernel_rfl) (by kernel_rfl) (by kernel_rfl) (by kernel_rfl) (by kernel_rfl) (fun _ _ _ h => h) (Or.inl ⟨by rfl, ?_⟩) hS0 ?_
  · intro w' hSw
    go_simp
  simp only [Act.put, List.setIfInBounds_toArray, List.set_cons_zero, List.set_cons_succ]
  refine wpAnyK_go (i := 2) (m' := 7) (some 13) (v := .pointer (some ⟨K, 0, none⟩)) rfl rfl (by kernel_rfl) (by kernel_rfl) (by kernel_rfl) (by kernel_rfl) (by kernel_rfl) (fun _ _ _ h => h) (Or.inl ⟨by rfl, ?_⟩) hS0 ?_
  · intro w' hSw
    go_simp
  simp only [Act.put, List.setIfInBounds_toArray, List.set_cons_zero, List.set_cons_succ]
  refine wpAnyK_go (i := 3) (m' := 15) (some 14) (v := .map (some mb)) rfl rfl (by kernel_rfl) (by kernel_rfl) (by kernel_rfl) (by kernel_rfl) (by kernel_rfl) (fun _ _ _ h => h) (Or.inl ⟨by rfl, ?_⟩) hS0 ?_
  · intro w' hSw
    obtain ⟨s1, s2, s3, s4, s5⟩ := hSw
    go_simp
  simp only [Act.put, List.setIfInBounds_toArray, List.set_cons_zero, List.set_cons_succ]
  refine wpAnyK_go (i := 4) (m' := 31) (some 15) (v := .agg #[.int .i64 (a : Int), .int .i64 (b : Int), .int .i64 (c : Int)]) rfl rfl (by kernel_rfl) (by kernel_rfl) (by kernel_rfl) (by kernel_rfl) (by kernel_rfl) (fun _ _ _ h => h) (Or.inl ⟨by rfl, ?_⟩) hS0 ?_
  · intro w' hSw
    obtain ⟨s1, s2, s3, s4, s5⟩ := hSw
    go_simp
  simp only [Act.put, List.setIfInBounds_toArray, List.set_cons_zero, List.set_cons_succ]
  refine wpAnyK_go (i := 5) (m' := 63) (some 16) (v := .tuple #[.int .i64 (no : Int), .bool is]) rfl rfl (by kernel_rfl) (by kernel_rfl) (by kernel_rfl) (by kernel_rfl) (by kernel_rfl) (fun _ _ _ h => h) (Or.inl ⟨by rfl, ?_⟩) hS0 ?_
  · intro w' hSw
    obtain ⟨s1, s2, s3, s4, s5⟩ := hSw
    go_simp
  simp only [Act.put, List.setIfInBounds_toArray, List.set_cons_zero, List.set_cons_succ]
  refine wpAnyK_go (i := 6) (m' := 127) (some 10) (v := .tuple #[.int .i64 (no : Int), .bool is]) rfl rfl (by kernel_rfl) (by kernel_rfl) (by kernel_rfl) (by kernel_rfl) (by kernel_rfl) (fun _ _ _ h => h) (Or.inl ⟨by rfl, ?_⟩) hS0 ?_
  · intro w' hSw
    go_simp
  simp only [Act.put, List.setIfInBounds_toArray, List.set_cons_zero, List.set_cons_succ]
  refine wpAnyK_go (i := 7) (m' := 255) (some 17) (v := .int .i64 (no : Int)) rfl rfl (by kernel_rfl) (by kernel_rfl) (by kernel_rfl) (by kernel_rfl) (by kernel_rfl) (fun _ _ _ h => h) (Or.inl ⟨by rfl, ?_⟩) hS0 ?_
  · intro w' hSw
    go_simp
  simp only [Act.put, List.setIfInBounds_toArray, List.set_cons_zero, List.set_cons_succ]
  refine wpAnyK_go (i := 8) (m' := 511) (some 18) (v := .bool is) rfl rfl (by kernel_rfl) (by kernel_rfl) (by kernel_rfl) (by kernel_rfl) (by kernel_rfl) (fun _ _ _ h => h) (Or.inl ⟨by rfl, ?_⟩) hS0 ?_
  · intro w' hSw
    go_simp
  simp only [Act.put, List.setIfInBounds_toArray, List.set_cons_zero, List.set_cons_succ]
  refine wpAnyK_go (i := 9) (m' := 1023) (some 7) (v := .int .i64 (no : Int)) rfl rfl (by kernel_rfl) (by kernel_rfl) (by kernel_rfl) (by kernel_rfl) (by kernel_rfl) (fun _ _ _ h => h) (Or.inl ⟨by rfl, ?_⟩) hS0 ?_
  · intro w' hSw
    go_simp
  simp only [Act.put, List.setIfInBounds_toArray, List.set_cons_zero, List.set_cons_succ]
  refine wpAnyK_go (i := 10) (m' := 2047) (some 8) (v := .bool is) rfl rfl (by kernel_rfl) (by kernel_rfl) (by kernel_rfl) (by kernel_rfl) (by kernel_rfl) (fun _ _ _ h => h) (Or.inl ⟨by rfl, ?_⟩) hS0 ?_
  · intro w' hSw
    go_simp
  simp only [Act.put, List.setIfInBounds_toArray, List.set_cons_zero, List.set_cons_succ]
  refine wpAnyK_done (by kernel_rfl) ?_ _
  clear hS0 HLK
  cases hnum : numT T (a, b, c) with
  | some i =>
    rw [hnum] at hno his
    obtain rfl : no = i := hno.out
    obtain rfl : is = true := his.out
    obtain ⟨hi, hsi⟩ := numT_some hnum
    have HEND : Hid (valD T no = shD T (a, b, c) ∧ no < T.length) := by
      refine ⟨?_, hi⟩
      have := (HKW.out.ok no hi).1
      rw [hsi] at this
      rw [← this]
      unfold valD
      rw [List.getElem?_eq_getElem hi]
      rfl
    clear hno his hnum hsi hi HWK
    go_wp2
    go_ret
    refine ⟨no, v, [], rfl, ?_, ⟨by simp, ?_, ?_⟩, Kn.of HBW.out⟩
    · rw [List.append_nil]; exact HKW.out
    · rw [List.append_nil]; exact HEND.out.1
    · rw [List.append_nil]; exact HEND.out.2
  | none =>
    rw [hnum] at hno his
    obtain rfl : no = 0 := hno.out
    obtain rfl : is = false := his.out
    have HNUM : Hid (numT T (a, b, c) = none) := hnum
    have CW := HWK.out
    have d0 : W.drew.cell? ⟨X, 0, none⟩ = some (.int .i64 (a : Int)) := heap_cl HXW.out rfl
    have d1 : W.drew.cell? ⟨X, 1, none⟩ = some (.int .i64 (b : Int)) := heap_cl HXW.out rfl
    have d2 : W.drew.cell? ⟨X, 2, none⟩ = some (.int .i64 (c : Int)) := heap_cl HXW.out rfl
    obtain ⟨ad, cap, rfl⟩ := HKW.out.own.len
    rw [List.length_map] at HKW CW
    clear hno his hnum HWK
    have HTL : Hid (T.length ≤ 90000) := hT
    go_upto_region 4 with (first | (go_at_call 57; (with_reducible refine Calls.mono CW ?_); rintro e' w2 ⟨pv, rfl, HB2, HC2⟩; obtain ⟨q, rfl⟩ := ptr_of HC2.out))
    clear d0 d1 d2 CW
    obtain ⟨pv, hpv⟩ : ∃ pv, pv = Value.pointer q := ⟨_, rfl⟩
    replace HC2 : Hid (EOr.C w2 (Nwr (fun _ => False) B w2 (.slice ad T.length cap)) [.pointer q] (shD T (a, b, c))) := HC2
    clear hpv pv
    have HKW2 : Hid (KW B0 K mb B (.slice ad T.length cap) T w2) := HKW.out.on HB2.out
    have HXW2 : Hid (w2.heap[X]? = some (.cells #[.int .i64 (a : Int), .int .i64 (b : Int), .int .i64 (c : Int)] 90 (0, 0))) := (HB2.out.block X (lt_heap HXW.out)).trans HXW.out
    have d3 : w2.cell? ⟨K, 1, none⟩ = some (.slice ad T.length cap) := heap_cl HKW2.out.blk rfl
    go_upto_region 5 with fail
    clear d3
    have hS2 : (fun w' : World => w'.cell? ⟨K, 0, none⟩ = some (.map (some mb)) ∧ w'.cell? ⟨X, 0, none⟩ = some (.int .i64 (a : Int)) ∧ w'.cell? ⟨X, 1, none⟩ = some (.int .i64 (b : Int)) ∧ w'.cell? ⟨X, 2, none⟩ = some (.int .i64 (c : Int))) w2.drew := ⟨heap_cl HKW2.out.blk rfl, heap_cl HXW2.out rfl, heap_cl HXW2.out rfl, heap_cl HXW2.out rfl⟩
    have HKW3 : Hid (KW B0 K mb B (.slice ad T.length cap) T w2.drew) := HKW2.out.on ((Below.refl _ _).drew)
    obtain ⟨w3, hup, hm3, hg3⟩ := HKW3.out.map.put (a, b, c) HO.out (by have := HTL.out; omega) HNUM.out T.length
    rw [HSV.out] at hup
    refine wp_region_M (S := (fun w' : World => w'.cell? ⟨K, 0, none⟩ = some (.map (some mb)) ∧ w'.cell? ⟨X, 0, none⟩ = some (.int .i64 (a : Int)) ∧ w'.cell? ⟨X, 1, none⟩ = some (.int .i64 (b : Int)) ∧ w'.cell? ⟨X, 2, none⟩ = some (.int .i64 (c : Int)))) (L := 6) (n := 7) (by kernel_rfl) rfl (by kernel_rfl) ?_
    refine wpAnyK_go (i := 0) (m' := 1) (some 29) (v := .pointer (some ⟨K, 0, none⟩)) rfl rfl (by kernel_rfl) (by kernel_rfl) (by kernel_rfl) (by kernel_rfl) (by kernel_rfl) (fun _ _ _ h => h) (Or.inl ⟨by rfl, ?_⟩) hS2 ?_
    · intro w' hSw
      go_simp
    simp only [Act.put, List.setIfInBounds_toArray, List.set_cons_zero, List.set_cons_succ]
    refine wpAnyK_go (i := 1) (m' := 3) (some 30) (v := .pointer (some ⟨K, 0, none⟩)) rfl rfl (by kernel_rfl) (by kernel_rfl) (by kernel_rfl) (by kernel_rfl) (by kernel_rfl) (fun _ _ _ h => h) (Or.inl ⟨by rfl, ?_⟩) hS2 ?_
    · intro w' hSw
      go_simp
    simp only [Act.put, List.setIfInBounds_toArray, List.set_cons_zero, List.set_cons_succ]
    refine wpAnyK_go (i := 2) (m' := 7) (some 31) (v := .pointer (some ⟨K, 0, none⟩)) rfl rfl (by kernel_rfl) (by kernel_rfl) (by kernel_rfl) (by kernel_rfl) (by kernel_rfl) (fun _ _ _ h => h) (Or.inl ⟨by rfl, ?_⟩) hS2 ?_
    · intro w' hSw
      go_simp
    simp only [Act.put, List.setIfInBounds_toArray, List.set_cons_zero, List.set_cons_succ]
    refine wpAnyK_go (i := 3) (m' := 15) (some 32) (v := .map (some mb)) rfl rfl (by kernel_rfl) (by kernel_rfl) (by kernel_rfl) (by kernel_rfl) (by kernel_rfl) (fun _ _ _ h => h) (Or.inl ⟨by rfl, ?_⟩) hS2 ?_
    · intro w' hSw
      obtain ⟨s1, s2, s3, s4⟩ := hSw
      go_simp
    simp only [Act.put, List.setIfInBounds_toArray, List.set_cons_zero, List.set_cons_succ]
    refine wpAnyK_go (i := 4) (m' := 31) (some 33) (v := .agg #[.int .i64 (a : Int), .int .i64 (b : Int), .int .i64 (c : Int)]) rfl rfl (by kernel_rfl) (by kernel_rfl) (by kernel_rfl) (by kernel_rfl) (by kernel_rfl) (fun _ _ _ h => h) (Or.inl ⟨by rfl, ?_⟩) hS2 ?_
    · intro w' hSw
      obtain ⟨s1, s2, s3, s4⟩ := hSw
      go_simp
    simp only [Act.put, List.setIfInBounds_toArray, List.set_cons_zero, List.set_cons_succ]
    refine wpAnyK_go (i := 5) (m' := 63) (some 34) (v := .int .i64 (T.length : Int)) rfl rfl (by kernel_rfl) (by kernel_rfl) (by kernel_rfl) (by kernel_rfl) (by kernel_rfl) (fun _ _ _ h => h) (Or.inl ⟨by rfl, ?_⟩) hS2 ?_
    · intro w' hSw
      go_simp
    simp only [Act.put, List.setIfInBounds_toArray, List.set_cons_zero, List.set_cons_succ]
    refine wpAnyK_only (i := 6) (m' := 127) (by kernel_rfl) rfl (by kernel_rfl) fun K2 hK => ?_
    go_simp
    refine hK.out _ _ (fun h => absurd rfl h) ?_
    clear hK K2
    refine wpAnyK_done (by kernel_rfl) ?_ _
    have hmb := HKW3.out.mbb
    have HO3 : Hid (OwnN EOr 50 B (fun _ => False) w3 (.slice ad T.length cap) (T.map fun e => e.2)) := OwnN.grown HKW3.out.own hg3 hmb
    have HC3 : Hid (EOr.C w3 (Nwr (fun _ => False) B w3 (.slice ad T.length cap)) [.pointer q] (shD T (a, b, c))) := by
      refine EOr.on (w := w2) (S := Nwr (fun _ => False) B w2 (.slice ad T.length cap)) (fun y hy => ?_) (fun y hy => hy.imp id fun q => ⟨q.1, Nat.lt_of_lt_of_le q.2.1 hg3.size, q.2.2⟩) HC2.out
      rcases hy with hy | hy
      · exact hy.elim
      · exact hg3.block y hy.2.1 fun q => by
          have h1 : y = mb := Option.some.inj q
          have := hy.1
          omega
    have HK3 : Hid (w3.heap[K]? = some (.cells #[.map (some mb), .slice ad T.length cap] 76 (0, 0))) := (hg3.block K (lt_heap HKW3.out.blk) (fun e => HKW3.out.ne (by injection e with e; exact e.symm))).trans HKW3.out.blk
    have d4 : w3.cell? ⟨K, 1, none⟩ = some (.slice ad T.length cap) := heap_cl HK3.out rfl
    have HM3 : Hid (Ms w3 mb (T.length + 1) (fun y => if y = (a, b, c) then some T.length else numT T y)) := hm3
    have HG3 : Hid (w2.drew.grownBy w3 (some mb)) := hg3
    have HBB : Hid (B ≤ w3.heap.size) := Nat.le_trans HKW3.out.bw hg3.size
    have HLN : Hid ((T.map fun e => e.2).length + 1 ≤ 10000000) := by
      show _ ≤ _
      rw [List.length_map]
      have := HTL.out
      omega
    clear hS2 hup hm3 hg3
    go_wp2_with (at_builtin; refine wpList_append_K1 (E := EOr) (v := .slice ad T.length cap) (l := T.map fun e => e.2) (p := shD T (a, b, c)) (cs := [.pointer q]) (w2 := w3) (cap := 1) Tryz.ty53 rfl _ _ rfl rfl HO3.out HBB.out rfl HC3.out (Nat.le_refl _) HLN.out ?_; intro v4 w4 O4 B4 F4 N4; obtain ⟨ad4, cap4, rfl⟩ := len_of O4; have y4 : w4.cell? ⟨K, 1, none⟩ = some (.slice ad T.length cap) := heap_cl ((B4.block K HKW3.out.kb).trans HK3.out) rfl; have z4 : w4.frozen? ⟨K, 1, none⟩ = false := heap_frozen ((B4.block K HKW3.out.kb).trans HK3.out))
    have HKN : Hid (KW B0 K mb B (.slice ad4 (T.length + 1) cap4) (T ++ [((a, b, c), shD T (a, b, c))]) (w4.setCell ⟨K, 1, none⟩ (.slice ad4 (T.length + 1) cap4))) := HKW3.out.snoc HS.out HNUM.out HM3.out HG3.out O4 B4
    have HBN : Hid (Kn K mb (.slice ad T.length cap) (.slice ad4 (T.length + 1) cap4) w (w4.setCell ⟨K, 1, none⟩ (.slice ad4 (T.length + 1) cap4))) := by
      have h4 : Below w.heap.size w w2.drew := HBW.out.trans ((HB2.out.mono HBW.out.size).drew)
      refine (Kn.of h4).trans ⟨B4.os.trans HG3.out.os, B4.tape.trans HG3.out.tape, B4.output.trans HG3.out.output, ?_, fun y h1 h2 h3 h5 => ?_, fun y e => ?_⟩
      · rw [World.size_setCell]
        exact Nat.le_trans HG3.out.size B4.size
      · rw [Below.heap_setCell _ _ _ _ (by show y ≠ K; exact h2), F4.out y (Nat.lt_of_lt_of_le h1 HG3.out.size) h5]
        exact HG3.out.block y h1 fun q => h3 (Option.some.inj q)
      · rcases N4.out y e with e | e
        · exact .inl e
        · exact .inr (Nat.le_trans HG3.out.size e)
    clear O4 B4 y4 z4 F4 N4
    go_ret
    refine ⟨T.length, _, [((a, b, c), shD T (a, b, c))], rfl, HKN.out, ⟨by simp, ?_, by simp⟩, by show Kn _ _ _ _ _ _; rw [List.length_map]; exact HBN.out⟩
    unfold valD
    simp
end Go.Proofs.YtgdflaapgfpdeaaGreatDoor

namespace Go.Proofs.YtgdflaapgfpdeaaGreatDoor
open Go.RowKit

/-- A type's order. -/
def ordD : (d : Nat) → Tn d → Option OrdD
  | 0, _ => none
  | d + 1, t => if t.1.1 = 3 then (match t.2 with
      | a :: b :: _ => (ordD d a).bind fun x => (ordD d b).bind fun y => fnD x.1 y.1
      | _ => none)
    else if t.1.1 = 4 ∧ t.1.2 = [76, 105, 115, 116] then (if t.2.length = 1 then some (chainP 4, none) else none) else some (chainP 2, none)
/-- Functions have two sides. -/
def GndT : (d : Nat) → Tn d → Prop
  | 0, _ => False
  | d + 1, t => t.1.1 = 3 → ∃ a b, t.2 = [a, b] ∧ GndT d a ∧ GndT d b
def OfPost (B0 K mb B : Nat) (v : Value) (T : Tbl) (n : Nat) (od : Option OrdD) (w : World) (r : Ending) (w' : World) : Prop :=
  ∃ (idx : Nat) (ok : Bool) (v' : Value) (R : Tbl), r = .returned (.tuple #[.int .i64 (idx : Int), .bool ok]) ∧ KW B0 K mb B v' (T ++ R) w' ∧ R.length ≤ n ∧ Kn K mb v v' w w' ∧ (ok = true → valD (T ++ R) idx = od ∧ od.isSome = true) ∧ (ok = false → od = none)
def OfC (f : Nat) (d : Nat) (t : Tn d) : Prop := ∀ (x : Value) (w : World) (B0 K mb B : Nat) (v : Value) (T : Tbl), TyAt w B0 d x t → KW B0 K mb B v T w → T.length + (flat d t).length ≤ 80000 → Calls Tryz.prog f #[.pointer (some ⟨K, 0, none⟩), x] w fun r w' => Hid (OfPost B0 K mb B v T (flat d t).length (ordD d t) w r w')
set_option maxHeartbeats 8000000 in
set_option maxRecDepth 10000 in
theorem of_step {d : Nat} {k : Int} {n : List UInt8} {ts : List (Tn d)} (hfn : k = 3 → OfC 55 (d + 1) ((k, n), ts)) : OfC 44 (d + 1) ((k, n), ts) := by
  intro x w B0 K mb B v T hx h hl
  have HX : Hid (TyAt w B0 (d + 1) x ((k, n), ts)) := hx
  obtain ⟨u, rfl, hn1, hn2, hrow⟩ := hx
  obtain ⟨ad, cap, rfl⟩ := hrow.len
  obtain ⟨W, hW⟩ : ∃ W, W = w.alloc (.cells #[.int .i64 k, .string ⟨n.toArray⟩, .slice ad ts.length cap] 24) := ⟨_, rfl⟩
  obtain ⟨X, hX⟩ : ∃ X, X = w.heap.size := ⟨_, rfl⟩
  have hBW : Below w.heap.size w W := by rw [hW]; exact (Below.refl _ _).alloc (Nat.le_refl _) _
  have hXW : W.heap[X]? = some (.cells #[.int .i64 k, .string ⟨n.toArray⟩, .slice ad ts.length cap] 24 (0, 0)) := by rw [hW, hX]; exact new_blk _ _
  have c0 : W.cell? ⟨X, 0, none⟩ = some (.int .i64 k) := heap_cl hXW rfl
  have c1 : W.cell? ⟨X, 1, none⟩ = some (.string ⟨n.toArray⟩) := heap_cl hXW rfl
  have c2 : W.cell? ⟨X, 2, none⟩ = some (.slice ad ts.length cap) := heap_cl hXW rfl
  have HKW : Hid (KW B0 K mb B v T W) := h.on hBW
  have HB0 : Hid (Below B0 w W) := hBW.mono (by have := h.b0k; have := h.kb; have := h.bw; omega)
  have HKN : Hid (Kn K mb v v w W) := Kn.of hBW
  have HXE : Hid (X = w.heap.size) := hX
  have HL : Hid (T.length + (flat (d + 1) ((k, n), ts)).length ≤ 80000) := hl
  have HFN : Hid (k = 3 → OfC 55 (d + 1) ((k, n), ts)) := hfn
  have HF1 : Hid (1 ≤ (flat (d + 1) ((k, n), ts)).length) := by
    show 1 ≤ (_ :: _ : List _).length
    simp
  have HEX : Hid (∀ s : Sh, ShV T s → ShOk s → Calls Tryz.prog 56 #[.pointer (some ⟨K, 0, none⟩), shv s, .func (.func 57) #[.pointer (some ⟨K, 0, none⟩)] #[]] W fun r w' => ∃ (idx : Nat) (v' : Value) (R : Tbl), r = .returned (.int .i64 (idx : Int)) ∧ Hid (KW B0 K mb B v' (T ++ R) w') ∧ Hid (R.length ≤ 1 ∧ valD (T ++ R) idx = shD T s ∧ idx < (T ++ R).length) ∧ Hid (Kn K mb v v' W w')) := fun s hs ho => number_any HKW.out s hs ho (by omega)
  have HOD : Hid (ordD (d + 1) ((k, n), ts) = if k = 3 then (match ts with
      | a :: b :: _ => (ordD d a).bind fun x => (ordD d b).bind fun y => fnD x.1 y.1
      | _ => none)
    else if k = 4 ∧ n = [76, 105, 115, 116] then (if ts.length = 1 then some (chainP 4, none) else none) else some (chainP 2, none)) := rfl
  clear hn1 hn2 hrow h hl hX hXW hBW hfn
  by_cases hk3 : k = 3
  · have CF := HFN.out hk3 (.agg #[.int .i64 k, .string ⟨n.toArray⟩, .slice ad ts.length cap]) W B0 K mb B v T (HX.out.on HB0.out) HKW.out HL.out
    have e3 : (k == 3) = true := by simp [hk3]
    generalize ordD (d + 1) ((k, n), ts) = od at *
    generalize (flat (d + 1) ((k, n), ts)).length = fl at *
    clear hk3 HEX
    go_enter Tryz.func44, Tryz.ntmps44
    go_upto_region 1 with fail
    rw [← hW, ← HXE.out]
    clear hW
    go_wp2_with (first | (go_at_call 55; (with_reducible refine Calls.mono CF ?_); rintro e' w2 ⟨idx, ok, v', R, rfl, q1, q2, q3, q4, q5⟩))
    have HE : Hid (OfPost B0 K mb B v T fl od w (.returned (.tuple #[.int .i64 (idx : Int), .bool ok])) w2) := ⟨idx, ok, v', R, rfl, q1, q2, HKN.out.trans q3, q4, q5⟩
    clear q1 q2 q3 q4 q5 CF
    refine bodyPost_ret (v := .tuple #[.int .i64 (idx : Int), .bool ok]) (by simp [results, Tryz.results44, go_sem]) rfl ?_
    exact HE.out
  · have e3 : (k == 3) = false := by simp [hk3]
    rw [if_neg hk3] at HOD
    have C2 : Calls Tryz.prog 56 #[.pointer (some ⟨K, 0, none⟩), .agg #[.int .i64 2, .int .i64 0, .int .i64 0], .func (.func 57) #[.pointer (some ⟨K, 0, none⟩)] #[]] W fun r w' => ∃ (idx : Nat) (v' : Value) (R : Tbl), r = .returned (.int .i64 (idx : Int)) ∧ Hid (KW B0 K mb B v' (T ++ R) w') ∧ Hid (R.length ≤ 1 ∧ valD (T ++ R) idx = some (chainP 2, none) ∧ idx < (T ++ R).length) ∧ Hid (Kn K mb v v' W w') := HEX.out (2, 0, 0) (.inl ⟨.inl rfl, rfl⟩) ⟨by decide, by decide, by decide⟩
    have C4 : Calls Tryz.prog 56 #[.pointer (some ⟨K, 0, none⟩), .agg #[.int .i64 4, .int .i64 0, .int .i64 0], .func (.func 57) #[.pointer (some ⟨K, 0, none⟩)] #[]] W fun r w' => ∃ (idx : Nat) (v' : Value) (R : Tbl), r = .returned (.int .i64 (idx : Int)) ∧ Hid (KW B0 K mb B v' (T ++ R) w') ∧ Hid (R.length ≤ 1 ∧ valD (T ++ R) idx = some (chainP 4, none) ∧ idx < (T ++ R).length) ∧ Hid (Kn K mb v v' W w') := HEX.out (4, 0, 0) (.inl ⟨.inr rfl, rfl⟩) ⟨by decide, by decide, by decide⟩
    generalize ordD (d + 1) ((k, n), ts) = od at *
    generalize (flat (d + 1) ((k, n), ts)).length = fl at *
    clear HEX hk3 HFN HX
    by_cases hk4 : k = 4
    · have e4 : (k != 4) = false := by simp [hk4]
      by_cases hnm : n = [76, 105, 115, 116]
      · rw [if_pos ⟨hk4, hnm⟩] at HOD
        by_cases hl1 : ts.length = 1
        · rw [if_pos hl1] at HOD
          subst hnm
          have i1 : ((ts.length : Int) == 1) = true := by simp [hl1]
          clear hk4 hl1 C2
          go_enter Tryz.func44, Tryz.ntmps44
          go_upto_region 1 with fail
          rw [← hW, ← HXE.out]
          clear hW
          go_wp2_with (first | (go_at_call 56; (with_reducible refine Calls.mono C4 ?_); rintro e' w2 ⟨idx, v', R, rfl, q1, q2, q3⟩))
          have HE : Hid (OfPost B0 K mb B v T fl od w (.returned (.tuple #[.int .i64 (idx : Int), .bool true])) w2) := ⟨idx, true, v', R, rfl, q1.out, Nat.le_trans q2.out.1 HF1.out, HKN.out.trans q3.out, fun _ => by rw [HOD.out]; exact ⟨q2.out.2.1, rfl⟩, fun h => by cases h⟩
          clear q1 q2 q3 C4
          refine bodyPost_ret (v := .tuple #[.int .i64 (idx : Int), .bool true]) (by simp [results, Tryz.results44, go_sem]) rfl ?_
          exact HE.out
        · rw [if_neg hl1] at HOD
          subst hnm
          have i1 : ((ts.length : Int) == 1) = false := by simp; omega
          have HE : Hid (OfPost B0 K mb B v T fl od w (.returned (.tuple #[.int .i64 0, .bool false])) W) := ⟨0, false, v, [], rfl, by rw [List.append_nil]; exact HKW.out, by simp, HKN.out, (fun h => (by cases h)), fun _ => HOD.out⟩
          clear hk4 hl1 C2 C4
          go_enter Tryz.func44, Tryz.ntmps44
          go_upto_region 1 with fail
          rw [← hW, ← HXE.out]
          clear hW
          go_wp2
          refine bodyPost_ret (v := .tuple #[.int .i64 0, .bool false]) (by simp [results, Tryz.results44, go_sem]) rfl ?_
          exact HE.out
      · rw [if_neg (fun h => hnm h.2)] at HOD
        have i1 : (n == [76, 105, 115, 116]) = false := by simp [hnm]
        clear hk4 hnm C4
        go_enter Tryz.func44, Tryz.ntmps44
        go_upto_region 1 with fail
        rw [← hW, ← HXE.out]
        clear hW
        go_wp2_with (first | (go_at_call 56; (with_reducible refine Calls.mono C2 ?_); rintro e' w2 ⟨idx, v', R, rfl, q1, q2, q3⟩))
        have HE : Hid (OfPost B0 K mb B v T fl od w (.returned (.tuple #[.int .i64 (idx : Int), .bool true])) w2) := ⟨idx, true, v', R, rfl, q1.out, Nat.le_trans q2.out.1 HF1.out, HKN.out.trans q3.out, fun _ => by rw [HOD.out]; exact ⟨q2.out.2.1, rfl⟩, fun h => by cases h⟩
        clear q1 q2 q3 C2
        refine bodyPost_ret (v := .tuple #[.int .i64 (idx : Int), .bool true]) (by simp [results, Tryz.results44, go_sem]) rfl ?_
        exact HE.out
    · have e4 : (k != 4) = true := by simp [hk4]
      rw [if_neg (fun h => hk4 h.1)] at HOD
      clear hk4 C4
      go_enter Tryz.func44, Tryz.ntmps44
      go_upto_region 1 with fail
      rw [← hW, ← HXE.out]
      clear hW
      go_wp2_with (first | (go_at_call 56; (with_reducible refine Calls.mono C2 ?_); rintro e' w2 ⟨idx, v', R, rfl, q1, q2, q3⟩))
      have HE : Hid (OfPost B0 K mb B v T fl od w (.returned (.tuple #[.int .i64 (idx : Int), .bool true])) w2) := ⟨idx, true, v', R, rfl, q1.out, Nat.le_trans q2.out.1 HF1.out, HKN.out.trans q3.out, fun _ => by rw [HOD.out]; exact ⟨q2.out.2.1, rfl⟩, fun h => by cases h⟩
      clear q1 q2 q3 C2
      refine bodyPost_ret (v := .tuple #[.int .i64 (idx : Int), .bool true]) (by simp [results, Tryz.results44, go_sem]) rfl ?_
      exact HE.out
end Go.Proofs.YtgdflaapgfpdeaaGreatDoor

namespace Go.Proofs.YtgdflaapgfpdeaaGreatDoor
open Go.RowKit

theorem Kn.cells {K mb : Nat} {v v' : Value} {w w' : World} (h : Kn K mb v v' w w') {y : Nat} {o : Obj} (hy : w.heap[y]? = some o) (h1 : y ≠ K) (h2 : y ≠ mb) (h3 : v.ownBlock ≠ some y) : w'.heap[y]? = some o := (h.block y (lt_heap hy) h1 h2 h3).trans hy
set_option maxHeartbeats 16000000 in
set_option maxRecDepth 10000 in
theorem fn_step {d : Nat} {n : List UInt8} {a b : Tn d} (ha : OfC 44 d a) (hb : OfC 44 d b) : OfC 55 (d + 1) ((3, n), [a, b]) := by
  intro x w B0 K mb B v T hx h hl
  obtain ⟨u, rfl, hn1, hn2, hrow⟩ := hx
  obtain ⟨ad, cap, rfl, hc⟩ := RowP.cells hrow
  obtain ⟨g, o, rfl, hcap, hgB, hel⟩ := hc (by simp)
  obtain ⟨k0, n0, ad0, len0, cap0, hc0, ht0⟩ := hel 0 (by simp)
  obtain ⟨k1, n1, ad1, len1, cap1, hc1, ht1⟩ := hel 1 (by simp)
  replace ht0 : TyAt w B0 d (.agg #[.int .i64 k0, .string n0, .slice ad0 len0 cap0]) a := ht0
  replace ht1 : TyAt w B0 d (.agg #[.int .i64 k1, .string n1, .slice ad1 len1 cap1]) b := ht1
  obtain ⟨W, hW⟩ : ∃ W, W = w.alloc (.cells #[.int .i64 3, .string ⟨n.toArray⟩, .slice (some ⟨g, o, none⟩) 2 cap] 24) := ⟨_, rfl⟩
  obtain ⟨X, hX⟩ : ∃ X, X = w.heap.size := ⟨_, rfl⟩
  have hBW : Below w.heap.size w W := by rw [hW]; exact (Below.refl _ _).alloc (Nat.le_refl _) _
  have hXW : W.heap[X]? = some (.cells #[.int .i64 3, .string ⟨n.toArray⟩, .slice (some ⟨g, o, none⟩) 2 cap] 24 (0, 0)) := by rw [hW, hX]; exact new_blk _ _
  have hB0 : Below B0 w W := hBW.mono (by have := h.b0k; have := h.kb; have := h.bw; omega)
  have hkw := h.on hBW
  have hfl : (flat (d + 1) ((3, n), [a, b])).length = 1 + ((flat d a).length + (flat d b).length) := by
    rw [flat_succ, flats_cons, flats_cons, flats_nil]
    simp
    omega
  have hXne : X ≠ K ∧ X ≠ mb ∧ v.ownBlock ≠ some X := by
    have h1 := h.kb
    have h2 := h.mbb
    have h3 := h.bw
    exact ⟨by omega, by omega, fun e => by have := (h.own.lt X e).2; omega⟩
  have HOD : Hid (ordD (d + 1) ((3, n), [a, b]) = (ordD d a).bind fun x => (ordD d b).bind fun y => fnD x.1 y.1) := by
    show (if (3 : Int) = 3 then _ else _) = _
    rw [if_pos rfl]
  have CA := ha (.agg #[.int .i64 k0, .string n0, .slice ad0 len0 cap0]) W B0 K mb B v T (ht0.on hB0) hkw (by omega)
  have HB : Hid (∀ (w2 : World) (v2 : Value) (R : Tbl), KW B0 K mb B v2 (T ++ R) w2 → Kn K mb v v2 W w2 → R.length ≤ (flat d a).length → W.heap.size ≤ w2.heap.size ∧ w2.heap[X]? = some (.cells #[.int .i64 3, .string ⟨n.toArray⟩, .slice (some ⟨g, o, none⟩) 2 cap] 24 (0, 0)) ∧ (w2.cell? ⟨g, o + 3, none⟩ = some (.int .i64 k1) ∧ w2.cell? ⟨g, o + 4, none⟩ = some (.string n1) ∧ w2.cell? ⟨g, o + 5, none⟩ = some (.slice ad1 len1 cap1)) ∧ Calls Tryz.prog 44 #[.pointer (some ⟨K, 0, none⟩), .agg #[.int .i64 k1, .string n1, .slice ad1 len1 cap1]] w2 fun r w' => Hid (OfPost B0 K mb B v2 (T ++ R) (flat d b).length (ordD d b) w2 r w')) := fun w2 v2 R q1 q2 q3 => by
    have hb2 : Below B0 w w2 := hB0.trans (q2.below hkw)
    obtain ⟨e1, e2, e3⟩ := hc1 w2 hb2
    refine ⟨q2.size, q2.cells hXW hXne.1 hXne.2.1 hXne.2.2, ⟨by simpa using e1, by simpa using e2, by simpa using e3⟩, hb _ w2 B0 K mb B v2 (T ++ R) (ht1.on hb2) q1 (by rw [List.length_append]; omega)⟩
  have HN3 : Hid (∀ (w3 : World) (v3 : Value) (R2 : Tbl) (i1 i2 : Nat) (A C : OrdD), KW B0 K mb B v3 (T ++ R2) w3 → R2.length ≤ (flat d a).length + (flat d b).length → valD (T ++ R2) i1 = some A → valD (T ++ R2) i2 = some C → Calls Tryz.prog 56 #[.pointer (some ⟨K, 0, none⟩), .agg #[.int .i64 0, .int .i64 (i1 : Int), .int .i64 (i2 : Int)], .func (.func 57) #[.pointer (some ⟨K, 0, none⟩)] #[]] w3 fun r w' => ∃ (idx : Nat) (v' : Value) (R3 : Tbl), r = .returned (.int .i64 (idx : Int)) ∧ Hid (KW B0 K mb B v' (T ++ R2 ++ R3) w') ∧ Hid (R3.length ≤ 1 ∧ valD (T ++ R2 ++ R3) idx = fnD A.1 C.1 ∧ idx < (T ++ R2 ++ R3).length) ∧ Hid (Kn K mb v3 v' w3 w')) := fun w3 v3 R2 i1 i2 A C q1 q2 q3 q4 => by
    obtain ⟨p1, _⟩ := valD_lt q3
    obtain ⟨p2, _⟩ := valD_lt q4
    have hlen : (T ++ R2).length ≤ 80000 := by rw [List.length_append]; omega
    have := number_any q1 (0, i1, i2) (.inr ⟨rfl, by rw [show valD (T ++ R2) i1 = some A from q3]; rfl, by rw [show valD (T ++ R2) i2 = some C from q4]; rfl⟩) ⟨by show 0 ≤ _; omega, by show i1 ≤ _; omega, by show i2 ≤ _; omega⟩ (by omega)
    rw [show shD (T ++ R2) (0, i1, i2) = fnD A.1 C.1 by
      show (if 0 < 0 then _ else (valD (T ++ R2) i1).bind _) = _
      rw [if_neg (by omega), show valD (T ++ R2) i1 = some A from q3]
      show (valD (T ++ R2) i2).bind _ = _
      rw [show valD (T ++ R2) i2 = some C from q4]
      rfl] at this
    exact this
  have HKN : Hid (Kn K mb v v w W) := Kn.of hBW
  have HXE : Hid (X = w.heap.size) := hX
  have c2 : W.cell? ⟨X, 2, none⟩ = some (.slice (some ⟨g, o, none⟩) 2 cap) := heap_cl hXW rfl
  obtain ⟨e0, e1, e2⟩ := hc0 W hB0
  rw [show o + 0 * 3 = o by omega] at e0 e1 e2
  have HFL : Hid _ := hfl
  replace HFL : Hid ((flat (d + 1) ((3, n), [a, b])).length = 1 + ((flat d a).length + (flat d b).length)) := hfl
  replace hcap : 2 ≤ cap := hcap
  clear hel hc hc0 hc1 ht0 ht1 hrow hn1 hn2 ha hb hkw hB0 hBW hXW hX hXne hfl h hl
  generalize ordD (d + 1) ((3, n), [a, b]) = od at *
  generalize (flat (d + 1) ((3, n), [a, b])).length = fl at *
  generalize (flat d a).length = la at *
  generalize (flat d b).length = lb at *
  generalize ordD d a = oa at *
  generalize ordD d b = ob at *
  show Calls Tryz.prog 55 #[.pointer (some ⟨K, 0, none⟩), .agg #[.int .i64 3, .string ⟨n.toArray⟩, .slice (some ⟨g, o, none⟩) 2 cap]] w fun r w' => Hid (OfPost B0 K mb B v T fl od w r w')
  clear a b
  go_enter Tryz.func55, Tryz.ntmps55
  go_upto_region 1 with fail
  rw [← hW, ← HXE.out]
  clear hW
  go_upto_region 2 with (first | (go_at_call 44; (with_reducible refine Calls.mono CA ?_); rintro e' w2 ⟨i1, ok1, v2, R, rfl, q1, q2, q3, q4, q5⟩))
  clear e0 e1 e2 c2 CA
  have HQ1 : Hid (KW B0 K mb B v2 (T ++ R) w2 ∧ R.length ≤ la ∧ Kn K mb v v2 W w2) := ⟨q1, q2, q3⟩
  have HQ4 : Hid (ok1 = true → valD (T ++ R) i1 = oa ∧ oa.isSome = true) := q4
  have HQ5 : Hid (ok1 = false → oa = none) := q5
  clear q1 q2 q3 q4 q5
  cases ok1 with
  | false =>
    have HE : Hid (OfPost B0 K mb B v T fl od w (.returned (.tuple #[.int .i64 0, .bool false])) w2) := ⟨0, false, v2, R, rfl, HQ1.out.1, by rw [HFL.out]; have := HQ1.out.2.1; omega, HKN.out.trans HQ1.out.2.2, (fun h => (by cases h)), fun _ => by rw [HOD.out, HQ5.out rfl]; rfl⟩
    clear HQ1 HQ4 HQ5 HB HN3
    go_wp2
    refine bodyPost_ret (v := .tuple #[.int .i64 0, .bool false]) (by simp [results, Tryz.results55, go_sem]) rfl ?_
    exact HE.out
  | true =>
    obtain ⟨hA1, hA2⟩ := HQ4.out rfl
    obtain ⟨A, hA⟩ := Option.isSome_iff_exists.1 hA2
    rw [hA] at hA1 HOD
    replace HOD : Hid (od = ob.bind fun y => fnD A.1 y.1) := HOD
    replace hA1 : Hid (valD (T ++ R) i1 = some A) := hA1
    obtain ⟨p1, p2, ⟨p3, p4, p5⟩, CB⟩ := HB.out w2 v2 R HQ1.out.1 HQ1.out.2.2 HQ1.out.2.1
    have c2 : w2.cell? ⟨X, 2, none⟩ = some (.slice (some ⟨g, o, none⟩) 2 cap) := heap_cl p2 rfl
    clear p1 p2 hA hA2 HB HQ4 HQ5
    go_upto_region 5 with (first | (go_at_call 44; (with_reducible refine Calls.mono CB ?_); rintro e' w3 ⟨i2, ok2, v3, R2, rfl, q1, q2, q3, q4, q5⟩))
    clear p3 p4 p5 c2 CB
    have HR1 : Hid (KW B0 K mb B v3 (T ++ (R ++ R2)) w3 ∧ R2.length ≤ lb ∧ Kn K mb v2 v3 w2 w3) := ⟨by rw [← List.append_assoc]; exact q1, q2, q3⟩
    have HR4 : Hid (ok2 = true → valD (T ++ R ++ R2) i2 = ob ∧ ob.isSome = true) := q4
    have HR5 : Hid (ok2 = false → ob = none) := q5
    clear q1 q2 q3 q4 q5
    cases ok2 with
    | false =>
      have HE : Hid (OfPost B0 K mb B v T fl od w (.returned (.tuple #[.int .i64 0, .bool false])) w3) := ⟨0, false, v3, R ++ R2, rfl, HR1.out.1, by rw [HFL.out, List.length_append]; have := HQ1.out.2.1; have := HR1.out.2.1; omega, (HKN.out.trans HQ1.out.2.2).trans HR1.out.2.2, (fun h => (by cases h)), fun _ => by rw [HOD.out, HR5.out rfl]; rfl⟩
      clear HQ1 HR1 HR4 HR5 HN3
      go_wp2
      refine bodyPost_ret (v := .tuple #[.int .i64 0, .bool false]) (by simp [results, Tryz.results55, go_sem]) rfl ?_
      exact HE.out
    | true =>
      obtain ⟨hC1, hC2⟩ := HR4.out rfl
      obtain ⟨C, hC⟩ := Option.isSome_iff_exists.1 hC2
      rw [hC] at hC1 HOD
      replace HOD : Hid (od = fnD A.1 C.1) := HOD
      have CN := HN3.out w3 v3 (R ++ R2) i1 i2 A C HR1.out.1 (by rw [List.length_append]; have := HQ1.out.2.1; have := HR1.out.2.1; omega) (by rw [← List.append_assoc]; exact valD_mono hA1.out) (by rw [← List.append_assoc]; exact hC1)
      clear hC1 hC2 hC HR4 HR5 HN3 hA1
      go_upto_region 8 with (first | (go_at_call 56; (with_reducible refine Calls.mono CN ?_); rintro e' w4 ⟨i3, v4, R3, rfl, q1, q2, q3⟩))
      clear CN
      have HKW4 : Hid (KW B0 K mb B v4 (T ++ (R ++ R2) ++ R3) w4.drew) := q1.out.on ((Below.refl _ _).drew)
      obtain ⟨g3, cap3, rfl, hcap3, hB3, hg3, hel3⟩ := HKW4.out.at (fun e => by have := q2.out.2.2; rw [e] at this; simp at this)
      obtain ⟨pv, hpv, hC3⟩ := hel3 i3 q2.out.2.2
      have hi3 := q2.out.2.2
      have hval : ((T ++ (R ++ R2) ++ R3)[i3]'hi3).2 = od := by
        have h := q2.out.2.1
        unfold valD at h
        rw [List.getElem?_eq_getElem q2.out.2.2] at h
        rw [HOD.out]
        exact h
      rw [hval] at hC3
      have HEND : Hid (∀ ok : Bool, (ok = true → od.isSome = true) → (ok = false → od = none) → OfPost B0 K mb B v T fl od w (.returned (.tuple #[.int .i64 (i3 : Int), .bool ok])) w4.drew) := fun ok h1 h2 => ⟨i3, ok, .slice (some ⟨g3, 0, none⟩) (T ++ (R ++ R2) ++ R3).length cap3, R ++ R2 ++ R3, rfl, by rw [show T ++ (R ++ R2 ++ R3) = T ++ (R ++ R2) ++ R3 by simp]; exact HKW4.out, by rw [HFL.out, List.length_append, List.length_append]; have := HQ1.out.2.1; have := HR1.out.2.1; have := q2.out.1; omega, ((HKN.out.trans HQ1.out.2.2).trans HR1.out.2.2).trans (q3.out.trans (Kn.of ((Below.refl _ _).drew))), fun h => ⟨by rw [← List.append_assoc]; rw [q2.out.2.1, HOD.out], h1 h⟩, h2⟩
      have j1 : (0 : Int) ≤ (i3 : Int) := by omega
      have j2 : (i3 : Int) < ((T ++ (R ++ R2) ++ R3).length : Int) := by have := q2.out.2.2; omega
      have d1 : w4.drew.cell? ⟨K, 1, none⟩ = some (.slice (some ⟨g3, 0, none⟩) (T ++ (R ++ R2) ++ R3).length cap3) := heap_cl HKW4.out.blk rfl
      clear hel3 hval hi3 q1 q2 q3 HKW4 HQ1 HR1 hB3 hg3
      generalize (T ++ (R ++ R2) ++ R3).length = n3 at *
      rcases hC3 with ⟨ho, hp⟩ | ⟨D, p, ho, hp, _⟩
      · obtain rfl : pv = .pointer none := List.head_eq_of_cons_eq hp
        have HF : Hid _ := HEND.out false (fun h => by cases h) (fun _ => ho)
        have hS0 : (fun w' : World => w'.cell? ⟨K, 1, none⟩ = some (.slice (some ⟨g3, 0, none⟩) n3 cap3) ∧ w'.cell? ⟨g3, i3, none⟩ = some (.pointer none)) w4.drew := ⟨d1, hpv⟩
        clear ho hp HEND HOD hpv d1
        refine wp_region_M (S := (fun w' : World => w'.cell? ⟨K, 1, none⟩ = some (.slice (some ⟨g3, 0, none⟩) n3 cap3) ∧ w'.cell? ⟨g3, i3, none⟩ = some (.pointer none))) (L := 12) (n := 12) (by kernel_rfl) rfl (by kernel_rfl) ?_
        refine wpAnyK_go (i := 0) (m' := 1) (some 41) (v := .int .i64 (i3 : Int)) rfl rfl (by kernel_rfl) (by kernel_rfl) (by kernel_rfl) (by kernel_rfl) (by kernel_rfl) (fun _ _ _ h => h) (Or.inl ⟨by rfl, ?_⟩) hS0 ?_
        · intro w' hSw
          go_simp
        simp only [Act.put, List.setIfInBounds_toArray, List.set_cons_zero, List.set_cons_succ]
        refine wpAnyK_go (i := 1) (m' := 3) (some 42) (v := .pointer (some ⟨K, 0, none⟩)) rfl rfl (by kernel_rfl) (by kernel_rfl) (by kernel_rfl) (by kernel_rfl) (by kernel_rfl) (fun _ _ _ h => h) (Or.inl ⟨by rfl, ?_⟩) hS0 ?_
        · intro w' hSw
          go_simp
        simp only [Act.put, List.setIfInBounds_toArray, List.set_cons_zero, List.set_cons_succ]
        refine wpAnyK_go (i := 2) (m' := 7) (some 43) (v := .pointer (some ⟨K, 0, none⟩)) rfl rfl (by kernel_rfl) (by kernel_rfl) (by kernel_rfl) (by kernel_rfl) (by kernel_rfl) (fun _ _ _ h => h) (Or.inl ⟨by rfl, ?_⟩) hS0 ?_
        · intro w' hSw
          go_simp
        simp only [Act.put, List.setIfInBounds_toArray, List.set_cons_zero, List.set_cons_succ]
        refine wpAnyK_go (i := 3) (m' := 15) (some 44) (v := .pointer (some ⟨K, 0, none⟩)) rfl rfl (by kernel_rfl) (by kernel_rfl) (by kernel_rfl) (by kernel_rfl) (by kernel_rfl) (fun _ _ _ h => h) (Or.inl ⟨by rfl, ?_⟩) hS0 ?_
        · intro w' hSw
          go_simp
        simp only [Act.put, List.setIfInBounds_toArray, List.set_cons_zero, List.set_cons_succ]
        refine wpAnyK_go (i := 4) (m' := 31) (some 45) (v := .pointer (some ⟨K, 1, none⟩)) rfl rfl (by kernel_rfl) (by kernel_rfl) (by kernel_rfl) (by kernel_rfl) (by kernel_rfl) (fun _ _ _ h => h) (Or.inl ⟨by rfl, ?_⟩) hS0 ?_
        · intro w' hSw
          go_simp
        simp only [Act.put, List.setIfInBounds_toArray, List.set_cons_zero, List.set_cons_succ]
        refine wpAnyK_go (i := 5) (m' := 63) (some 46) (v := .slice (some ⟨g3, 0, none⟩) n3 cap3) rfl rfl (by kernel_rfl) (by kernel_rfl) (by kernel_rfl) (by kernel_rfl) (by kernel_rfl) (fun _ _ _ h => h) (Or.inl ⟨by rfl, ?_⟩) hS0 ?_
        · intro w' hSw
          obtain ⟨s1, s2⟩ := hSw
          go_simp
        simp only [Act.put, List.setIfInBounds_toArray, List.set_cons_zero, List.set_cons_succ]
        refine wpAnyK_go (i := 6) (m' := 127) (some 47) (v := .int .i64 (i3 : Int)) rfl rfl (by kernel_rfl) (by kernel_rfl) (by kernel_rfl) (by kernel_rfl) (by kernel_rfl) (fun _ _ _ h => h) (Or.inl ⟨by rfl, ?_⟩) hS0 ?_
        · intro w' hSw
          go_simp
        simp only [Act.put, List.setIfInBounds_toArray, List.set_cons_zero, List.set_cons_succ]
        refine wpAnyK_go (i := 7) (m' := 255) (some 48) (v := .pointer (some ⟨g3, i3, none⟩)) rfl rfl (by kernel_rfl) (by kernel_rfl) (by kernel_rfl) (by kernel_rfl) (by kernel_rfl) (fun _ _ _ h => h) (Or.inl ⟨by rfl, ?_⟩) hS0 ?_
        · intro w' hSw
          go_simp
        simp only [Act.put, List.setIfInBounds_toArray, List.set_cons_zero, List.set_cons_succ]
        refine wpAnyK_go (i := 8) (m' := 511) (some 49) (v := .pointer none) rfl rfl (by kernel_rfl) (by kernel_rfl) (by kernel_rfl) (by kernel_rfl) (by kernel_rfl) (fun _ _ _ h => h) (Or.inl ⟨by rfl, ?_⟩) hS0 ?_
        · intro w' hSw
          obtain ⟨s1, s2⟩ := hSw
          go_simp
        simp only [Act.put, List.setIfInBounds_toArray, List.set_cons_zero, List.set_cons_succ]
        refine wpAnyK_go (i := 9) (m' := 1023) (some 50) (v := .bool false) rfl rfl (by kernel_rfl) (by kernel_rfl) (by kernel_rfl) (by kernel_rfl) (by kernel_rfl) (fun _ _ _ h => h) (Or.inl ⟨by rfl, ?_⟩) hS0 ?_
        · intro w' hSw
          go_simp
        simp only [Act.put, List.setIfInBounds_toArray, List.set_cons_zero, List.set_cons_succ]
        refine wpAnyK_go (i := 10) (m' := 2047) (some 4) (v := .int .i64 (i3 : Int)) rfl rfl (by kernel_rfl) (by kernel_rfl) (by kernel_rfl) (by kernel_rfl) (by kernel_rfl) (fun _ _ _ h => h) (Or.inl ⟨by rfl, ?_⟩) hS0 ?_
        · intro w' hSw
          go_simp
        simp only [Act.put, List.setIfInBounds_toArray, List.set_cons_zero, List.set_cons_succ]
        refine wpAnyK_go (i := 11) (m' := 4095) (some 5) (v := .bool false) rfl rfl (by kernel_rfl) (by kernel_rfl) (by kernel_rfl) (by kernel_rfl) (by kernel_rfl) (fun _ _ _ h => h) (Or.inl ⟨by rfl, ?_⟩) hS0 ?_
        · intro w' hSw
          go_simp
        simp only [Act.put, List.setIfInBounds_toArray, List.set_cons_zero, List.set_cons_succ]
        refine wpAnyK_done (by kernel_rfl) ?_ _
        go_wp2
        refine bodyPost_ret (v := .tuple #[.int .i64 (i3 : Int), .bool false]) (by simp [results, Tryz.results55, go_sem]) rfl ?_
        exact HF.out
      · obtain rfl : pv = .pointer (some ⟨p, 0, none⟩) := List.head_eq_of_cons_eq hp
        have HF : Hid _ := HEND.out true (fun _ => by rw [ho]; rfl) (fun h => by cases h)
        have hS0 : (fun w' : World => w'.cell? ⟨K, 1, none⟩ = some (.slice (some ⟨g3, 0, none⟩) n3 cap3) ∧ w'.cell? ⟨g3, i3, none⟩ = some (.pointer (some ⟨p, 0, none⟩))) w4.drew := ⟨d1, hpv⟩
        clear ho hp HEND HOD hpv d1
        refine wp_region_M (S := (fun w' : World => w'.cell? ⟨K, 1, none⟩ = some (.slice (some ⟨g3, 0, none⟩) n3 cap3) ∧ w'.cell? ⟨g3, i3, none⟩ = some (.pointer (some ⟨p, 0, none⟩)))) (L := 12) (n := 12) (by kernel_rfl) rfl (by kernel_rfl) ?_
        refine wpAnyK_go (i := 0) (m' := 1) (some 41) (v := .int .i64 (i3 : Int)) rfl rfl (by kernel_rfl) (by kernel_rfl) (by kernel_rfl) (by kernel_rfl) (by kernel_rfl) (fun _ _ _ h => h) (Or.inl ⟨by rfl, ?_⟩) hS0 ?_
        · intro w' hSw
          go_simp
        simp only [Act.put, List.setIfInBounds_toArray, List.set_cons_zero, List.set_cons_succ]
        refine wpAnyK_go (i := 1) (m' := 3) (some 42) (v := .pointer (some ⟨K, 0, none⟩)) rfl rfl (by kernel_rfl) (by kernel_rfl) (by kernel_rfl) (by kernel_rfl) (by kernel_rfl) (fun _ _ _ h => h) (Or.inl ⟨by rfl, ?_⟩) hS0 ?_
        · intro w' hSw
          go_simp
        simp only [Act.put, List.setIfInBounds_toArray, List.set_cons_zero, List.set_cons_succ]
        refine wpAnyK_go (i := 2) (m' := 7) (some 43) (v := .pointer (some ⟨K, 0, none⟩)) rfl rfl (by kernel_rfl) (by kernel_rfl) (by kernel_rfl) (by kernel_rfl) (by kernel_rfl) (fun _ _ _ h => h) (Or.inl ⟨by rfl, ?_⟩) hS0 ?_
        · intro w' hSw
          go_simp
        simp only [Act.put, List.setIfInBounds_toArray, List.set_cons_zero, List.set_cons_succ]
        refine wpAnyK_go (i := 3) (m' := 15) (some 44) (v := .pointer (some ⟨K, 0, none⟩)) rfl rfl (by kernel_rfl) (by kernel_rfl) (by kernel_rfl) (by kernel_rfl) (by kernel_rfl) (fun _ _ _ h => h) (Or.inl ⟨by rfl, ?_⟩) hS0 ?_
        · intro w' hSw
          go_simp
        simp only [Act.put, List.setIfInBounds_toArray, List.set_cons_zero, List.set_cons_succ]
        refine wpAnyK_go (i := 4) (m' := 31) (some 45) (v := .pointer (some ⟨K, 1, none⟩)) rfl rfl (by kernel_rfl) (by kernel_rfl) (by kernel_rfl) (by kernel_rfl) (by kernel_rfl) (fun _ _ _ h => h) (Or.inl ⟨by rfl, ?_⟩) hS0 ?_
        · intro w' hSw
          go_simp
        simp only [Act.put, List.setIfInBounds_toArray, List.set_cons_zero, List.set_cons_succ]
        refine wpAnyK_go (i := 5) (m' := 63) (some 46) (v := .slice (some ⟨g3, 0, none⟩) n3 cap3) rfl rfl (by kernel_rfl) (by kernel_rfl) (by kernel_rfl) (by kernel_rfl) (by kernel_rfl) (fun _ _ _ h => h) (Or.inl ⟨by rfl, ?_⟩) hS0 ?_
        · intro w' hSw
          obtain ⟨s1, s2⟩ := hSw
          go_simp
        simp only [Act.put, List.setIfInBounds_toArray, List.set_cons_zero, List.set_cons_succ]
        refine wpAnyK_go (i := 6) (m' := 127) (some 47) (v := .int .i64 (i3 : Int)) rfl rfl (by kernel_rfl) (by kernel_rfl) (by kernel_rfl) (by kernel_rfl) (by kernel_rfl) (fun _ _ _ h => h) (Or.inl ⟨by rfl, ?_⟩) hS0 ?_
        · intro w' hSw
          go_simp
        simp only [Act.put, List.setIfInBounds_toArray, List.set_cons_zero, List.set_cons_succ]
        refine wpAnyK_go (i := 7) (m' := 255) (some 48) (v := .pointer (some ⟨g3, i3, none⟩)) rfl rfl (by kernel_rfl) (by kernel_rfl) (by kernel_rfl) (by kernel_rfl) (by kernel_rfl) (fun _ _ _ h => h) (Or.inl ⟨by rfl, ?_⟩) hS0 ?_
        · intro w' hSw
          go_simp
        simp only [Act.put, List.setIfInBounds_toArray, List.set_cons_zero, List.set_cons_succ]
        refine wpAnyK_go (i := 8) (m' := 511) (some 49) (v := .pointer (some ⟨p, 0, none⟩)) rfl rfl (by kernel_rfl) (by kernel_rfl) (by kernel_rfl) (by kernel_rfl) (by kernel_rfl) (fun _ _ _ h => h) (Or.inl ⟨by rfl, ?_⟩) hS0 ?_
        · intro w' hSw
          obtain ⟨s1, s2⟩ := hSw
          go_simp
        simp only [Act.put, List.setIfInBounds_toArray, List.set_cons_zero, List.set_cons_succ]
        refine wpAnyK_go (i := 9) (m' := 1023) (some 50) (v := .bool true) rfl rfl (by kernel_rfl) (by kernel_rfl) (by kernel_rfl) (by kernel_rfl) (by kernel_rfl) (fun _ _ _ h => h) (Or.inl ⟨by rfl, ?_⟩) hS0 ?_
        · intro w' hSw
          go_simp
        simp only [Act.put, List.setIfInBounds_toArray, List.set_cons_zero, List.set_cons_succ]
        refine wpAnyK_go (i := 10) (m' := 2047) (some 4) (v := .int .i64 (i3 : Int)) rfl rfl (by kernel_rfl) (by kernel_rfl) (by kernel_rfl) (by kernel_rfl) (by kernel_rfl) (fun _ _ _ h => h) (Or.inl ⟨by rfl, ?_⟩) hS0 ?_
        · intro w' hSw
          go_simp
        simp only [Act.put, List.setIfInBounds_toArray, List.set_cons_zero, List.set_cons_succ]
        refine wpAnyK_go (i := 11) (m' := 4095) (some 5) (v := .bool true) rfl rfl (by kernel_rfl) (by kernel_rfl) (by kernel_rfl) (by kernel_rfl) (by kernel_rfl) (fun _ _ _ h => h) (Or.inl ⟨by rfl, ?_⟩) hS0 ?_
        · intro w' hSw
          go_simp
        simp only [Act.put, List.setIfInBounds_toArray, List.set_cons_zero, List.set_cons_succ]
        refine wpAnyK_done (by kernel_rfl) ?_ _
        go_wp2
        refine bodyPost_ret (v := .tuple #[.int .i64 (i3 : Int), .bool true]) (by simp [results, Tryz.results55, go_sem]) rfl ?_
        exact HF.out
theorem of_any : ∀ (d : Nat) (t : Tn d), GndT d t → OfC 44 d t
  | 0, t, h => h.elim
  | d + 1, ((k, n), ts), h => of_step fun hk => by
    subst hk
    obtain ⟨a, b, e, h1, h2⟩ := h rfl
    have e : ts = [a, b] := e
    subst e
    exact fn_step (of_any d a h1) (of_any d b h2)
end Go.Proofs.YtgdflaapgfpdeaaGreatDoor
