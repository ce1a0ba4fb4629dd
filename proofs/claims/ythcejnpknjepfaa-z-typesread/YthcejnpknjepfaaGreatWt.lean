/- What is wrong with a type: contracts of wrongType and wrong. -/
import Derived.Test.YthcejnpknjepfaaGreatFo
import Derived.Test.YthcejnpknjepfaaGreatOw
import Derived.Laws.OwnMore
import Derived.Deep.RegionHeldLaw
import Derived.Deep.Onto
namespace Go.Proofs.YthcejnpknjepfaaGreat
open Go.RowKit

theorem run_append_zero {P : Program} {w : World} (base : Nat) (t ty e : TypeId) (i : TypeInfo) (size : Nat) (ht : P.underlying t = some (.slice e)) (hi : P.info? e = some i)
    (v : Value) (n : Nat) (xs : List Value) (hown : w.ownsRow base e size v n xs) (ad : Option Addr) (c : Nat) :
    (Builtin.append_ #[t, t] ty #[v, .slice ad 0 c]).run P w = .ok v w := by
  rcases hown.2 with ⟨rfl, rfl⟩ | ⟨g, cap, cur, rfl, _, _, hnc, _⟩
  · cases ad <;> simp [Builtin.append_, run_underlying ht, sizeOf, typeInfo, hi, Builtin.lenOf, Builtin.firstCells, loadCells, loadCellsFrom]
  · cases ad <;> simp [Builtin.append_, run_underlying ht, sizeOf, typeInfo, hi, Builtin.lenOf, Builtin.firstCells, hnc, storeCells, loadCells, loadCellsFrom]
theorem step_append_zero {P : Program} {w : World} {ops : Array Oper} {o : Oper} {a : Act} {K : Act → World → Prop} {Q : Exit → Act → World → Prop} {E : Prop} (hgd : o.guard = none) (s x : Operand) (t : TypeId)
    (ho : o.op = .call { callee := .builtin .append, args := #[s, x], argTypes := #[t, t] })
    (base : Nat) (e : TypeId) (i : TypeInfo) (size : Nat) (ht : P.underlying t = some (.slice e)) (hi : P.info? e = some i)
    (v : Value) (n : Nat) (xs : List Value) (hs : a.eval s = v) (hown : w.ownsRow base e size v n xs) (ad : Option Addr) (c : Nat) (hx : a.eval x = .slice ad 0 c)
    (h : K (a.put o.dst v) w) : if Region.wanted o (yielded ops a.tmps) = true then Oper.wp P o a w K Q else E := by
  have hw : Region.wanted o (yielded ops a.tmps) = true := by simp [Region.wanted, hgd]
  rw [if_pos hw]
  have hr := run_append_zero (P := P) (w := w) base t o.type e i size ht hi v n xs hown ad c
  unfold Oper.wp execOp
  simp only [ho, resolve, invoke, builtin, Sem.run_bind, Sem.run_pure, Result.andThen_ok, List.map_toArray, List.map_cons, List.map_nil, hs, hx, hr]
  exact h
theorem lt_of_heap {W : World} {b : Nat} {o : Obj} (h : W.heap[b]? = some o) : b < W.heap.size := by
  rcases Nat.lt_or_ge b W.heap.size with hlt | hge
  · exact hlt
  · rw [Array.getElem?_eq_none hge] at h; cases h
/-- A row without its last element. -/
theorem own_but {w : World} {base g m cap : Nat} {es : List El} (h : w.ownsRow base 25 3 (.slice (some ⟨g, 0, none⟩) (m + 1) cap) (m + 1) (es.flatMap elCells)) : w.ownsRow base 25 3 (.slice (some ⟨g, 0, none⟩) m cap) m ((es.take m).flatMap elCells) := by
  have hl := h.1
  rw [elCells_len] at hl
  refine ⟨by rw [elCells_len, List.length_take]; omega, ?_⟩
  rcases h.2 with ⟨h0, _⟩ | ⟨g', cap', cur, hv, hb, hh, hc, hm, hs, ht⟩
  · cases h0
  · simp only [Value.slice.injEq, Option.some.injEq, Addr.mk.injEq, and_true] at hv
    obtain ⟨e1, _, e3⟩ := hv
    subst e1
    subst e3
    refine .inr ⟨g, cap, cur, rfl, hb, hh, by omega, hm, hs, ?_⟩
    have e : es.flatMap elCells = (es.take m).flatMap elCells ++ (es.drop m).flatMap elCells := by rw [← List.flatMap_append, List.take_append_drop]
    have := congrArg (List.take (m * 3)) ht
    rw [List.take_take, Nat.min_eq_left (by omega), e] at this
    rw [this, List.take_left' (by rw [elCells_len, List.length_take]; omega)]
/-- The elements of a row of trees. -/
theorem row_els {w : World} {B d g o cap : Nat} {ts : List (Tn d)} (h : RowP w B (TyAt w B d) (.slice (some ⟨g, o, none⟩) ts.length cap) ts) (h0 : ts ≠ []) : g < B ∧ ∃ al : List El, al.length = ts.length ∧ (∀ w', Below B w w' → ∀ j u, (al.flatMap elCells)[j]? = some u → w'.cell? ((⟨g, o, none⟩ : Addr).add j) = some u) ∧ ∀ j (h : j < al.length) (h' : j < ts.length), TyAt w B d (elV al[j]) ts[j] := by
  rcases h with ⟨h1, _⟩ | ⟨g', o', cap', hv, _, _, hg, h⟩
  · exact absurd h1 h0
  · simp only [Value.slice.injEq, Option.some.injEq, Addr.mk.injEq, and_true, true_and] at hv
    obtain ⟨⟨rfl, rfl⟩, rfl⟩ := hv
    refine ⟨hg, ?_⟩
    have key : ∀ (ts : List (Tn d)) (o : Nat), (∀ j (h : j < ts.length), ∃ k n u, w.cell? ⟨g, o + j * 3, none⟩ = some (.int .i64 k) ∧ w.cell? ⟨g, o + j * 3 + 1, none⟩ = some (.string n) ∧ w.cell? ⟨g, o + j * 3 + 2, none⟩ = some u ∧ TyAt w B d (.agg #[.int .i64 k, .string n, u]) ts[j]) →
        ∃ al : List El, al.length = ts.length ∧ (∀ j u, (al.flatMap elCells)[j]? = some u → w.cell? ⟨g, o + j, none⟩ = some u) ∧ ∀ j (h : j < al.length) (h' : j < ts.length), TyAt w B d (elV al[j]) ts[j] := by
      intro ts
      induction ts with
      | nil => exact fun o _ => ⟨[], rfl, fun j u h => by simp at h, fun j h => by simp at h⟩
      | cons t ts ih =>
        intro o h
        obtain ⟨k, n, u, c0, c1, c2, ht⟩ := h 0 (by simp)
        obtain ⟨al, hl, hc, he⟩ := ih (o + 3) fun j hj => by
          have := h (j + 1) (by simpa using hj)
          rw [show o + (j + 1) * 3 = o + 3 + j * 3 by omega] at this
          simpa using this
        refine ⟨(k, n, u) :: al, by simp [hl], fun j v hv => ?_, fun j hj hj' => ?_⟩
        · match j with
          | 0 => simp [elCells] at hv; rw [← hv]; simpa using c0
          | 1 => simp [elCells] at hv; rw [← hv]; simpa using c1
          | 2 => simp [elCells] at hv; rw [← hv]; simpa using c2
          | j + 3 =>
            simp [elCells] at hv
            have := hc j v hv
            rw [show o + 3 + j = o + (j + 3) by omega] at this
            exact this
        · cases j with
          | zero => exact ht
          | succ j => simpa using he j (by simpa using hj) (by simpa using hj')
    obtain ⟨al, hl, hc, he⟩ := key ts o h
    refine ⟨al, hl, fun w' hb j u hu => ?_, he⟩
    have e : (⟨g, o, none⟩ : Addr).add j = ⟨g, o + j, none⟩ := by
      unfold Addr.add
      split
      · rename_i h0; rw [h0]; rfl
      · simp
    rw [e, hb.cell (p := ⟨g, o + j, none⟩) hg]
    exact hc j u hu
/-- Trees of any depth. -/
abbrev Un := (d : Nat) × Tn d
def unL (us : List Un) : Nat := (us.map fun u => (flat u.1 u.2).length).sum
def unB (us : List Un) : Bool := us.all fun u => formB u.1 u.2
theorem unL_flats (d : Nat) (ts : List (Tn d)) : unL (ts.map fun t => (⟨d, t⟩ : Un)) = (flats d ts).length := by
  induction ts with
  | nil => rfl
  | cons t ts ih =>
    rw [flats_cons, List.length_append, ← ih]
    simp [unL]
theorem unB_all (d : Nat) (ts : List (Tn d)) : unB (ts.map fun t => (⟨d, t⟩ : Un)) = ts.all (formB d) := by
  unfold unB
  rw [List.all_map]
  rfl
theorem unL_app (a b : List Un) : unL (a ++ b) = unL a + unL b := by simp [unL]
theorem unB_app (a b : List Un) : unB (a ++ b) = (unB a && unB b) := by simp [unB]
/-- A stack of trees: the elements that lie in it, and what they are. -/
structure Stk (w : World) (B : Nat) (es : List El) (us : List Un) : Prop where
  len : es.length = us.length
  each : ∀ j (h : j < es.length) (h' : j < us.length), TyAt w B us[j].1 (elV es[j]) us[j].2
theorem Stk.app {w : World} {B : Nat} {es es' : List El} {us us' : List Un} (h : Stk w B es us) (h' : Stk w B es' us') : Stk w B (es ++ es') (us ++ us') := by
  refine ⟨by simp [h.len, h'.len], fun j hj hj' => ?_⟩
  by_cases hlt : j < es.length
  · rw [List.getElem_append_left hlt, List.getElem_append_left (by have := h.len; omega)]
    exact h.each j hlt (by have := h.len; omega)
  · have h1 := h.len
    rw [List.getElem_append_right (by omega), List.getElem_append_right (by omega)]
    have key : ∀ k l (hk : k < es'.length) (hl : l < us'.length), k = l → TyAt w B us'[l].1 (elV es'[k]) us'[l].2 := by
      rintro k _ hk hl rfl
      exact h'.each k hk hl
    exact key _ _ _ _ (by omega)
theorem Stk.take {w : World} {B : Nat} {es : List El} {us : List Un} (h : Stk w B es us) (m : Nat) : Stk w B (es.take m) (us.take m) := by
  refine ⟨by simp [h.len], fun j hj hj' => ?_⟩
  rw [List.getElem_take, List.getElem_take]
  exact h.each j (by simp at hj; omega) (by simp at hj'; omega)
theorem els_one {w : World} {B d : Nat} {al : List El} {ts : List (Tn d)} (hl : al.length = ts.length) (h : ∀ j (h : j < al.length) (h' : j < ts.length), TyAt w B d (elV al[j]) ts[j]) : ∀ u ∈ al.flatMap elCells, u.oneCell' = true := by
  intro u hu
  rw [List.mem_flatMap] at hu
  obtain ⟨e, he, hu⟩ := hu
  obtain ⟨j, hj, rfl⟩ := List.mem_iff_getElem.1 he
  obtain ⟨ad, len, cap, hs⟩ := (h j hj (by omega)).slice
  simp only [elCells, List.mem_cons, List.not_mem_nil, or_false] at hu
  rcases hu with rfl | rfl | rfl
  · rfl
  · rfl
  · rw [hs]; rfl
/-- The trees of a row, as a stack. -/
theorem els_stk {w : World} {B d : Nat} {al : List El} {ts : List (Tn d)} (hl : al.length = ts.length) (h : ∀ j (h : j < al.length) (h' : j < ts.length), TyAt w B d (elV al[j]) ts[j]) : Stk w B al (ts.map fun t => (⟨d, t⟩ : Un)) := by
  refine ⟨by simpa using hl, fun j hj hj' => ?_⟩
  have hj2 : j < ts.length := by simpa using hj'
  have e : (ts.map fun t => (⟨d, t⟩ : Un))[j] = ⟨d, ts[j]⟩ := by simp
  rw [e]
  exact h j hj hj2
end Go.Proofs.YthcejnpknjepfaaGreat
