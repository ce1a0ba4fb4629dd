/- What is wrong with a type: contracts of wrongType and wrong. What is wrong with a type: the contract of wrongType. What is wrong with the first of some types: the contract of wrong. -/
import Derived.Test.YtgdflaapgfpdeaaGreatDoorFo
import Derived.Test.YtgdflaapgfpdeaaGreatDoorOw
import Derived.Laws.OwnMore
import Derived.Deep.RegionHeldLaw
import Derived.Deep.Onto
namespace Go.Proofs.YtgdflaapgfpdeaaGreatDoor
open Go.RowKit

theorem run_append_zero {P : Program} {w : World} (base : Nat) (t ty e : TypeId) (i : TypeInfo) (size : Nat) (ht : P.underlying t = some (.slice e)) (hi : P.info? e = some i)
    (v : Value) (n : Nat) (xs : List Value) (hown : w.ownsRow base e size v n xs) (ad : Option Addr) (c : Nat) :
    (Builtin.append_ #[t, t] ty #[v, .slice ad 0 c]).run P w = .ok v w := by
  rcases hown.2 with ⟨rfl, rfl⟩ | ⟨g, cap, cur, rfl, _, _, hnc, _⟩
  · cases ad <;> simp [Builtin.append_, run_underlying ht, sizeOf, typeInfo, hi, Builtin.lenOf, Builtin.firstCells, loadCells, loadCellsFrom]
  · cases ad <;> simp [Builtin.append_, run_underlying ht, sizeOf, typeInfo, hi, Builtin.lenOf, Builtin.firstCells, hnc, storeCells, loadCells, loadCellsFrom]
theorem step_append_zero {P : Program} {w : World} {ops : Array Oper} {o : Oper} {a : Act} {K : Act → World → Prop} {Q : Exit → Act → World → Prop} {E : Prop} (hgd : o.guard = none) (s x : Operand) (t : TypeId)
    (ho : o.op = .call { callee := .builtin .append, args := #[s, x], argTypes := #[t, t] })
    (base : Nat) (e : TypeId) (i : TypeInfo) (size : Nat) (ht : P.underlying t = some (.slice e)) (hi : P.info? e = some i)
    (v : Value) (n : Nat) (xs : List Value) (hs : a.eval s = v) (hown : w.ownsRow base e size v n xs) (ad : Option Addr) (c : Nat) (hx : a.eval x = .slice ad 0 c)
    (h : K (a.put o.dst v) w) : if Region.wanted o (yielded ops a.tmps) = true then Oper.wp P o a w K Q else E := by
  have hw : Region.wanted o (yielded ops a.tmps) = true := by simp [Region.wanted, hgd]
  rw [if_pos hw]
  have hr := run_append_zero (P := P) (w := w) base t o.type e i size ht hi v n xs hown ad c
  unfold Oper.wp execOp
  simp only [ho, resolve, invoke, builtin, Sem.run_bind, Sem.run_pure, Result.andThen_ok, List.map_toArray, List.map_cons, List.map_nil, hs, hx, hr]
  exact h
theorem lt_of_heap {W : World} {b : Nat} {o : Obj} (h : W.heap[b]? = some o) : b < W.heap.size := by
  rcases Nat.lt_or_ge b W.heap.size with hlt | hge
  · exact hlt
  · rw [Array.getElem?_eq_none hge] at h; cases h
/-- A row without its last element. -/
theorem own_but {w : World} {base g m cap : Nat} {es : List El} (h : w.ownsRow base 24 3 (.slice (some ⟨g, 0, none⟩) (m + 1) cap) (m + 1) (es.flatMap elCells)) : w.ownsRow base 24 3 (.slice (some ⟨g, 0, none⟩) m cap) m ((es.take m).flatMap elCells) := by
  have hl := h.1
  rw [elCells_len] at hl
  refine ⟨by rw [elCells_len, List.length_take]; omega, ?_⟩
  rcases h.2 with ⟨h0, _⟩ | ⟨g', cap', cur, hv, hb, hh, hc, hm, hs, ht⟩
  · cases h0
  · simp only [Value.slice.injEq, Option.some.injEq, Addr.mk.injEq, and_true] at hv
    obtain ⟨e1, _, e3⟩ := hv
    subst e1
    subst e3
    refine .inr ⟨g, cap, cur, rfl, hb, hh, by omega, hm, hs, ?_⟩
    have e : es.flatMap elCells = (es.take m).flatMap elCells ++ (es.drop m).flatMap elCells := by rw [← List.flatMap_append, List.take_append_drop]
    have := congrArg (List.take (m * 3)) ht
    rw [List.take_take, Nat.min_eq_left (by omega), e] at this
    rw [this, List.take_left' (by rw [elCells_len, List.length_take]; omega)]
/-- The elements of a row of trees. -/
theorem row_els {w : World} {B d g o cap : Nat} {ts : List (Tn d)} (h : RowP w B (TyAt w B d) (.slice (some ⟨g, o, none⟩) ts.length cap) ts) (h0 : ts ≠ []) : g < B ∧ ∃ al : List El, al.length = ts.length ∧ (∀ w', Below B w w' → ∀ j u, (al.flatMap elCells)[j]? = some u → w'.cell? ((⟨g, o, none⟩ : Addr).add j) = some u) ∧ ∀ j (h : j < al.length) (h' : j < ts.length), TyAt w B d (elV al[j]) ts[j] := by
  rcases h with ⟨h1, _⟩ | ⟨g', o', cap', hv, _, _, hg, h⟩
  · exact absurd h1 h0
  · simp only [Value.slice.injEq, Option.some.injEq, Addr.mk.injEq, and_true, true_and] at hv
    obtain ⟨⟨rfl, rfl⟩, rfl⟩ := hv
    refine ⟨hg, ?_⟩
    have key : ∀ (ts : List (Tn d)) (o : Nat), (∀ j (h : j < ts.length), ∃ k n u, w.cell? ⟨g, o + j * 3, none⟩ = some (.int .i64 k) ∧ w.cell? ⟨g, o + j * 3 + 1, none⟩ = some (.string n) ∧ w.cell? ⟨g, o + j * 3 + 2, none⟩ = some u ∧ TyAt w B d (.agg #[.int .i64 k, .string n, u]) ts[j]) →
        ∃ al : List El, al.length = ts.length ∧ (∀ j u, (al.flatMap elCells)[j]? = some u → w.cell? ⟨g, o + j, none⟩ = some u) ∧ ∀ j (h : j < al.length) (h' : j < ts.length), TyAt w B d (elV al[j]) ts[j] := by
      intro ts
      induction ts with
      | nil => exact fun o _ => ⟨[], rfl, fun j u h => by simp at h, fun j h => by simp at h⟩
      | cons t ts ih =>
        intro o h
        obtain ⟨k, n, u, c0, c1, c2, ht⟩ := h 0 (by simp)
        obtain ⟨al, hl, hc, he⟩ := ih (o + 3) fun j hj => by
          have := h (j + 1) (by simpa using hj)
          rw [show o + (j + 1) * 3 = o + 3 + j * 3 by omega] at this
          simpa using this
        refine ⟨(k, n, u) :: al, by simp [hl], fun j v hv => ?_, fun j hj hj' => ?_⟩
        · match j with
          | 0 => simp [elCells] at hv; rw [← hv]; simpa using c0
          | 1 => simp [elCells] at hv; rw [← hv]; simpa using c1
          | 2 => simp [elCells] at hv; rw [← hv]; simpa using c2
          | j + 3 =>
            simp [elCells] at hv
            have := hc j v hv
            rw [show o + 3 + j = o + (j + 3) by omega] at this
            exact this
        · cases j with
          | zero => exact ht
          | succ j => simpa using he j (by simpa using hj) (by simpa using hj')
    obtain ⟨al, hl, hc, he⟩ := key ts o h
    refine ⟨al, hl, fun w' hb j u hu => ?_, he⟩
    have e : (⟨g, o, none⟩ : Addr).add j = ⟨g, o + j, none⟩ := by
      unfold Addr.add
      split
      · rename_i h0; rw [h0]; rfl
      · simp
    rw [e, hb.cell (p := ⟨g, o + j, none⟩) hg]
    exact hc j u hu
/-- Trees of any depth. -/
abbrev Un := (d : Nat) × Tn d
def unL (us : List Un) : Nat := (us.map fun u => (flat u.1 u.2).length).sum
def unB (us : List Un) : Bool := us.all fun u => formB u.1 u.2
theorem unL_flats (d : Nat) (ts : List (Tn d)) : unL (ts.map fun t => (⟨d, t⟩ : Un)) = (flats d ts).length := by
  induction ts with
  | nil => rfl
  | cons t ts ih =>
    rw [flats_cons, List.length_append, ← ih]
    simp [unL]
theorem unB_all (d : Nat) (ts : List (Tn d)) : unB (ts.map fun t => (⟨d, t⟩ : Un)) = ts.all (formB d) := by
  unfold unB
  rw [List.all_map]
  rfl
theorem unL_app (a b : List Un) : unL (a ++ b) = unL a + unL b := by simp [unL]
theorem unB_app (a b : List Un) : unB (a ++ b) = (unB a && unB b) := by simp [unB]
/-- A stack of trees: the elements that lie in it, and what they are. -/
structure Stk (w : World) (B : Nat) (es : List El) (us : List Un) : Prop where
  len : es.length = us.length
  each : ∀ j (h : j < es.length) (h' : j < us.length), TyAt w B us[j].1 (elV es[j]) us[j].2
theorem Stk.app {w : World} {B : Nat} {es es' : List El} {us us' : List Un} (h : Stk w B es us) (h' : Stk w B es' us') : Stk w B (es ++ es') (us ++ us') := by
  refine ⟨by simp [h.len, h'.len], fun j hj hj' => ?_⟩
  by_cases hlt : j < es.length
  · rw [List.getElem_append_left hlt, List.getElem_append_left (by have := h.len; omega)]
    exact h.each j hlt (by have := h.len; omega)
  · have h1 := h.len
    rw [List.getElem_append_right (by omega), List.getElem_append_right (by omega)]
    have key : ∀ k l (hk : k < es'.length) (hl : l < us'.length), k = l → TyAt w B us'[l].1 (elV es'[k]) us'[l].2 := by
      rintro k _ hk hl rfl
      exact h'.each k hk hl
    exact key _ _ _ _ (by omega)
theorem Stk.take {w : World} {B : Nat} {es : List El} {us : List Un} (h : Stk w B es us) (m : Nat) : Stk w B (es.take m) (us.take m) := by
  refine ⟨by simp [h.len], fun j hj hj' => ?_⟩
  rw [List.getElem_take, List.getElem_take]
  exact h.each j (by simp at hj; omega) (by simp at hj'; omega)
theorem els_one {w : World} {B d : Nat} {al : List El} {ts : List (Tn d)} (hl : al.length = ts.length) (h : ∀ j (h : j < al.length) (h' : j < ts.length), TyAt w B d (elV al[j]) ts[j]) : ∀ u ∈ al.flatMap elCells, u.oneCell' = true := by
  intro u hu
  rw [List.mem_flatMap] at hu
  obtain ⟨e, he, hu⟩ := hu
  obtain ⟨j, hj, rfl⟩ := List.mem_iff_getElem.1 he
  obtain ⟨ad, len, cap, hs⟩ := (h j hj (by omega)).slice
  simp only [elCells, List.mem_cons, List.not_mem_nil, or_false] at hu
  rcases hu with rfl | rfl | rfl
  · rfl
  · rfl
  · rw [hs]; rfl
/-- The trees of a row, as a stack. -/
theorem els_stk {w : World} {B d : Nat} {al : List El} {ts : List (Tn d)} (hl : al.length = ts.length) (h : ∀ j (h : j < al.length) (h' : j < ts.length), TyAt w B d (elV al[j]) ts[j]) : Stk w B al (ts.map fun t => (⟨d, t⟩ : Un)) := by
  refine ⟨by simpa using hl, fun j hj hj' => ?_⟩
  have hj2 : j < ts.length := by simpa using hj'
  have e : (ts.map fun t => (⟨d, t⟩ : Un))[j] = ⟨d, ts[j]⟩ := by simp
  rw [e]
  exact h j hj hj2
end Go.Proofs.YtgdflaapgfpdeaaGreatDoor

namespace Go.Proofs.YtgdflaapgfpdeaaGreatDoor
open Go.RowKit

theorem formN_zero {k : Int} {n : List UInt8} {len : Nat} (h : formN k n len = 0) : okB k n len = false := by
  cases ho : okB k n len
  · rfl
  · unfold formN at h
    rw [if_pos ho] at h
    subst h
    unfold okB at ho
    simp at ho
theorem formN_ne {k : Int} {n : List UInt8} {len : Nat} (h : formN k n len ≠ 0) : okB k n len = true := by
  cases ho : okB k n len
  · unfold formN at h
    rw [ho] at h
    simp at h
  · rfl
/-- The last of a stack. -/
theorem Stk.last {w : World} {B m : Nat} {es : List El} {us : List Un} (h : Stk w B es us) (hm : es.length = m + 1) : ∃ (d : Nat) (k : Int) (n : List UInt8) (ts : List (Tn d)) (ad : Option Addr) (cap : Nat) (us' : List Un), us = us' ++ [⟨d + 1, ((k, n), ts)⟩] ∧ us'.length = m ∧ Stk w B (es.take m) us' ∧ es.flatMap elCells = (es.take m).flatMap elCells ++ [.int .i64 k, .string ⟨n.toArray⟩, .slice ad ts.length cap] ∧
    n.length < 140737488355328 ∧ ts.length < 140737488355328 ∧ RowP w B (TyAt w B d) (.slice ad ts.length cap) ts := by
  have hl := h.len
  have hm' : m < us.length := by omega
  have hT := h.each m (by omega) hm'
  have hu : us = us.take m ++ [us[m]] := by
    have := List.take_append_drop m us
    rw [List.drop_eq_getElem_cons hm', List.drop_eq_nil_of_le (by omega)] at this
    exact this.symm
  have he : es = es.take m ++ [es[m]] := by
    have := List.take_append_drop m es
    rw [List.drop_eq_getElem_cons (by omega), List.drop_eq_nil_of_le (by omega)] at this
    exact this.symm
  generalize us[m] = u at hT hu
  generalize es[m] = e at hT he
  obtain ⟨d, t⟩ := u
  cases d with
  | zero => exact hT.elim
  | succ d =>
    obtain ⟨v, hx, h1, h2, hr⟩ := hT
    obtain ⟨ad, cap, rfl⟩ := hr.len
    obtain ⟨a, b, c⟩ := e
    simp only [Value.agg.injEq, Array.mk.injEq, List.cons.injEq, and_true, Value.int.injEq, Value.string.injEq, true_and] at hx
    obtain ⟨rfl, rfl, rfl⟩ := hx
    refine ⟨d, t.1.1, t.1.2, t.2, ad, cap, us.take m, hu, by simp; omega, ?_, ?_, h1, h2, hr⟩
    · exact h.take m
    · conv => lhs; rw [he]
      rw [List.flatMap_append]
      rfl
theorem own_zero {w : World} {base e size : Nat} {v : Value} {xs : List Value} (h : w.ownsRow base e size v 0 xs) : ∃ ad cap, v = .slice ad 0 cap := by
  rcases h.2 with ⟨h, _⟩ | ⟨g, c, _, h, _⟩
  · exact ⟨none, 0, h⟩
  · exact ⟨_, c, h⟩
set_option maxHeartbeats 16000000 in
set_option maxRecDepth 10000 in
theorem wrongType_any (d : Nat) (x : Value) (t : Tn d) (w : World) (B : Nat) (hB : B ≤ w.heap.size) (h : TyAt w B d x t) (hN : (flat d t).length ≤ 4194304) :
    Calls Tryz.prog 72 #[x] w fun r w' => r = .returned (.int .i64 (wrongT d t)) ∧ Below w.heap.size w w' := by
  obtain ⟨d, rfl⟩ : ∃ e, d = e + 1 := by
    cases d with
    | zero => exact h.elim
    | succ e => exact ⟨e, rfl⟩
  generalize hR : wrongT (d + 1) t = R
  have HR : Hid ((if formB (d + 1) t = true then (if 500 < (flat (d + 1) t).length then 4 else 0) else 53) = R) := hR
  clear hR
  have HT : Hid (TyAt w B (d + 1) x t) := h
  obtain ⟨v, hx, h1, h2, hrow⟩ := h
  subst hx
  obtain ⟨ad, cap, rfl⟩ := hrow.len
  have S0 : Hid (Stk w B [(t.1.1, ⟨t.1.2.toArray⟩, .slice ad t.2.length cap)] [⟨d + 1, t⟩]) := ⟨rfl, fun j hj hj' => by
    have : j = 0 := by simp at hj; omega
    subst this
    exact HT.out⟩
  have L0 : Hid (0 + unL [⟨d + 1, t⟩] = (flat (d + 1) t).length ∧ unB [⟨d + 1, t⟩] = formB (d + 1) t) := by simp [Hid, unL, unB]
  clear HT hrow h1 h2
  generalize (flat (d + 1) t).length = tot at HR L0 hN
  generalize formB (d + 1) t = fb at HR L0
  generalize t.1.1 = k at *
  generalize t.1.2 = n at *
  generalize t.2.length = len at *
  obtain ⟨W, hW, hbW, hsW, b0, b1, b2, _, _, _⟩ := cells_boxes w (.int .i64 k) (.string ⟨n.toArray⟩) (.slice ad len cap) (.int .i64 k) (.string ⟨n.toArray⟩) (.slice ad len cap) 24
  have O0 : Hid (W.ownsRow w.heap.size 24 3 (.slice (some ⟨w.heap.size + 1, 0, none⟩) 1 1) 1 [.int .i64 k, .string ⟨n.toArray⟩, .slice ad len cap]) := by
    show W.ownsRow _ _ _ _ _ _
    have := World.ownsRow_lit (base := w.heap.size) (e := 24) (size := 3) (w.alloc (Obj.cells #[.int .i64 k, .string ⟨n.toArray⟩, .slice ad len cap] 24)) #[.int .i64 k, .string ⟨n.toArray⟩, .slice ad len cap] 1 (by simp) (by decide) rfl
    rw [hW]
    simpa using this
  have HW : Hid (Below w.heap.size w W) := hbW
  clear hbW hsW b1 b2
  go_enter Tryz.func72, Tryz.ntmps72
  go_wp2
  rw [← hW]
  generalize hz : w.heap.size = z at *
  have HZ : Hid (w.heap.size = z) := hz
  clear hW hz b0
  obtain ⟨i0, hi, hz0, hz1, hz2⟩ := info_parts Tryz.info24
  go_loopw [3, 4] (fun b v wr => ∃ (N : Nat) (es : List El) (us : List Un), b = .int .i64 N ∧ wr.ownsRow z 24 3 v es.length (es.flatMap elCells) ∧ Below z w wr ∧ Stk w B es us ∧ Hid (N + unL us = tot ∧ unB us = fb)) (fun b _ _ => 4194305 - (intOf b).toNat)
  case atStart => exact ⟨0, [(k, ⟨n.toArray⟩, .slice ad len cap)], [⟨d + 1, t⟩], by go_num, O0.out, HW.out, S0.out, L0.out⟩
  case round =>
    obtain ⟨N, es, us, rfl, hown, hbel, hS, HL⟩ := hrel
    clear S0 L0 O0 HW
    cases hl : es.length with
    | zero =>
      rw [hl] at hown
      have hu : us = [] := List.length_eq_zero_iff.1 (by rw [← hS.len, hl])
      have HE : Hid (N = tot ∧ fb = true) := by
        have := HL.out
        rw [hu] at this
        exact ⟨by simpa [unL] using this.1, by simpa [unB] using this.2.symm⟩
      obtain ⟨ad', cap', rfl⟩ := own_zero hown
      have hNl : N ≤ 4194304 := by rw [HE.out.1]; exact hN
      clear hown hS HL hi hz0 hz1 hz2 hu hl
      by_cases h5 : 500 < N
      · have h5' : (500 : Int) < (N : Int) := by omega
        go_wp2
        go_ret
        refine ⟨?_, by rw [HZ.out]; exact hbel⟩
        rw [← HR.out, HE.out.2, ← HE.out.1, if_pos rfl, if_pos h5]
        rfl
      · have h5' : ¬ (500 : Int) < (N : Int) := by omega
        go_wp2
        go_ret
        refine ⟨?_, by rw [HZ.out]; exact hbel⟩
        rw [← HR.out, HE.out.2, ← HE.out.1, if_pos rfl, if_neg h5]
        rfl
    | succ m =>
      rw [hl] at hown
      obtain ⟨d', k', n', ts', ad', cap', us', rfl, hlu, hS', hcells, q1, q2, hrow'⟩ := hS.last hl
      obtain ⟨g, cp, rfl, hzg, hgl⟩ := hown.form (by omega)
      have hlen := hown.1
      have hc : ∀ i u, ([.int .i64 k', .string ⟨n'.toArray⟩, .slice ad' ts'.length cap'] : List Value)[i]? = some u → wr.cell? ⟨g, m * 3 + i, none⟩ = some u := fun i u hu => by
        have hi3 : i < 3 := by
          rcases Nat.lt_or_ge i 3 with h | h
          · exact h
          · rw [List.getElem?_eq_none (by simpa using h)] at hu; cases hu
        rw [hown.cellAt (m * 3 + i) (by omega), hcells]
        have ht : ((es.take m).flatMap elCells).length = m * 3 := by rw [elCells_len, List.length_take]; omega
        rw [List.getElem?_append_right (by omega), ht, Nat.add_sub_cancel_left]
        exact hu
      have e0 := hc 0 _ rfl
      have e1 := hc 1 _ rfl
      have e2 := hc 2 _ rfl
      rw [Nat.add_zero] at e0
      have hsum : N + unL us' + (flats d' ts').length + 1 = tot ∧ (unB us' && (okB k' n' ts'.length && ts'.all (formB d'))) = fb := by
        have := HL.out
        rw [unL_app, unB_app] at this
        refine ⟨?_, ?_⟩
        · rw [← this.1]
          simp [unL, flat_succ]
          omega
        · rw [← this.2, ← form_succ]
          simp [unB]
      have O1 : Hid (wr.ownsRow z 24 3 (.slice (some ⟨g, 0, none⟩) m cp) m ((es.take m).flatMap elCells)) := own_but hown
      have HS : Hid (Stk w B (es.take m) us') := hS'
      have HSum : Hid (N + unL us' + (flats d' ts').length + 1 = tot ∧ (unB us' && (okB k' n' ts'.length && ts'.all (formB d'))) = fb) := hsum
      have HRow : Hid (RowP w B (TyAt w B d') (.slice ad' ts'.length cap') ts') := hrow'
      have hNm : N + m + ts'.length < 4194304 + 1 := by
        have h1 : ∀ l : List Un, l.length ≤ unL l := fun l => by
          induction l with
          | nil => simp [unL]
          | cons a l ih =>
            have := flat_pos a.1 a.2
            have e : unL (a :: l) = (flat a.1 a.2).length + unL l := rfl
            rw [e]
            simp
            omega
        have h2 : ts'.length ≤ (flats d' ts').length := by rw [← unL_flats]; have := h1 (ts'.map fun t => (⟨d', t⟩ : Un)); simpa using this
        have := h1 us'
        omega
      have hgW : g < wr.heap.size := hgl
      clear hS hS' hcells hc hlen hown hrow' hsum HL hl hlu hgl
      have CF := fun W => formOf_any k' n' ad' ts'.length cap' W q1 q2
      obtain ⟨U, hU, hbU, hsU, u0, u1, u2⟩ := cells_box wr (.int .i64 k') (.string ⟨n'.toArray⟩) (.slice ad' ts'.length cap') 24
      have HU : Hid (Below wr.heap.size wr U) := hbU
      have HSU : Hid (U.heap.size = wr.heap.size + 1) := hsU
      clear hbU hsU q1 q2
      have hm1 : (m : Int) < ((m + 1 : Nat) : Int) := by omega
      go_upto_region 7 with fail
      rw [← hU]
      generalize hq : wr.heap.size = z1 at u0 u1 u2 hgW ⊢
      have HQ : Hid (wr.heap.size = z1) := hq
      clear hU hq e0 e1 e2
      have X1 : ∀ w1, Below U.heap.size U w1 → w1.cell? ⟨z1, 0, none⟩ = some (.int .i64 k') ∧ w1.cell? ⟨z1, 1, none⟩ = some (.string ⟨n'.toArray⟩) ∧ w1.cell? ⟨z1, 2, none⟩ = some (.slice ad' ts'.length cap') := fun w1 hb => by
        have h1 := HSU.out
        have h2 := HQ.out
        exact ⟨(hb.cell (by simp; omega)).trans u0, (hb.cell (by simp; omega)).trans u1, (hb.cell (by simp; omega)).trans u2⟩
      have HB1 : Hid (∀ w1, Below U.heap.size U w1 → Below z w w1 ∧ w1.ownsRow z 24 3 (.slice (some ⟨g, 0, none⟩) m cp) m ((es.take m).flatMap elCells) ∧ wr.heap.size ≤ w1.heap.size) := fun w1 hb => by
        have h1 := HSU.out
        have h2 := HU.out
        have h3 := hbel.size
        have h4 := HZ.out
        have h5 : Below wr.heap.size wr w1 := h2.trans (hb.mono (by omega))
        refine ⟨hbel.trans (h5.mono (by omega)), ?_, h5.size⟩
        obtain ⟨o1, o2⟩ := O1.out
        refine ⟨o1, ?_⟩
        rcases o2 with o2 | ⟨g', c', cur, hv, hg', hh, r⟩
        · exact .inl o2
        · refine .inr ⟨g', c', cur, hv, hg', ?_, r⟩
          rw [h5.block g' (lt_of_heap hh)]
          exact hh
      cases hf0 : decide (formN k' n' ts'.length = 0) with
      | true =>
        have hf1 := of_decide_eq_true hf0
        have HF : Hid (R = 53) := by
          have h1 := HSum.out.2
          rw [formN_zero hf1] at h1
          have : fb = false := by rw [← h1]; simp
          rw [← HR.out, this]
          rfl
        rw [hf1] at CF
        clear hi hz0 hz1 hz2 O1 HS HSum HRow hf0 hf1
        go_wp2_with (go_at_call 83; (with_reducible refine Calls.mono (CF _) ?_); rintro e' w1 ⟨rfl, hb1⟩)
        go_ret
        exact ⟨by rw [HF.out]; rfl, by rw [HZ.out]; exact (HB1.out _ hb1).1⟩
      | false =>
        have hf1 := of_decide_eq_false hf0
        have HO : Hid (okB k' n' ts'.length = true) := formN_ne hf1
        have hf2 : (formN k' n' ts'.length == 0) = false := by simpa using hf1
        generalize formN k' n' ts'.length = fk at CF hf1 hf2
        clear hf0
        go_upto_region 9 with (first | (go_at_call 83; (with_reducible refine Calls.mono (CF _) ?_); rintro e' w1 ⟨rfl, hb1⟩; obtain ⟨y0, y1, y2⟩ := X1 _ hb1))
        obtain ⟨hbz, hown2, hsz1⟩ := HB1.out _ hb1
        have HSt : Hid (Stk w B (es.take m) us') := HS.out
        have HF : Hid (N + 1 + unL (us' ++ ts'.map fun t => (⟨d', t⟩ : Un)) = tot ∧ unB (us' ++ ts'.map fun t => (⟨d', t⟩ : Un)) = fb) := by
          rw [unL_app, unB_app, unL_flats, unB_all]
          have h1 := HSum.out
          rw [HO.out] at h1
          exact ⟨by omega, by simpa using h1.2⟩
        have hzs1 : z ≤ w1.heap.size := by have := hbz.size; have := HZ.out; omega
        have i1 : (0 : Int) ≤ (m : Int) := by omega
        have i2 : (m : Int) ≤ (cp : Int) := by
          rcases hown2.2 with ⟨h0, _⟩ | ⟨_, _, _, hv, _, _, hc, _⟩
          · cases h0
          · cases hv
            omega
        have hBz : B ≤ z := hB
        have hbzd : Below z w w1.drew := hbz.trans ⟨rfl, rfl, rfl, Nat.le_refl _, fun _ _ => rfl⟩
        have HtL : Hid ((es.take m).length = m) := by
          have := hown2.1
          rw [elCells_len] at this
          show _ = m
          omega
        clear HB1 X1 CF HU HSU HQ hb1 HSum HS HO O1 hm1 hf1 hf2
        generalize es.take m = ek at *
        have END : Hid (∀ (es' : List El) (v' : Value) (wc : World), wc.ownsRow z 24 3 v' es'.length (es'.flatMap elCells) → Below z w wc → Stk w B es' (us' ++ ts'.map fun t => (⟨d', t⟩ : Un)) → ∃ (N' : Nat) (es : List El) (us : List Un), Value.int .i64 (N + 1 : Nat) = .int .i64 N' ∧ wc.ownsRow z 24 3 v' es.length (es.flatMap elCells) ∧ Below z w wc ∧ Stk w B es us ∧ Hid (N' + unL us = tot ∧ unB us = fb)) := fun es' v' wc h1 h2 h3 => ⟨N + 1, es', _, rfl, h1, h2, h3, HF.out⟩
        cases hts : decide (ts' = []) with
        | true =>
          have hts := of_decide_eq_true hts
          subst hts
          go_region_law ((refine step_append_zero (by rfl) _ _ _ (by rfl) z 24 i0 3 Tryz.underlying22 hi (.slice (some ⟨g, 0, none⟩) m cp) m (ek.flatMap elCells) (by rfl) hown2.drew ad' cap' (by rfl) ?_))
          go_wp2
          have hmm : (N + 1 : Int) = ((N + 1 : Nat) : Int) := by omega
          go_roundw
          case rel =>
            obtain ⟨N', q⟩ := END.out ek (.slice (some ⟨g, 0, none⟩) m cp) w1.drew (by rw [HtL.out]; exact hown2.drew) hbzd (by simpa using HSt.out)
            exact ⟨N', q⟩
          case measure => simp [intOf]; omega
        | false =>
          have hts := of_decide_eq_false hts
          obtain ⟨g', o', cp', e0⟩ : ∃ g' o' cp', Value.slice ad' ts'.length cap' = .slice (some ⟨g', o', none⟩) ts'.length cp' := by
            rcases HRow.out with ⟨h1, _⟩ | ⟨g', o', cp', h1, _⟩
            · exact absurd h1 hts
            · exact ⟨g', o', cp', h1⟩
          cases e0
          obtain ⟨hgB, al, hal, hac, hat⟩ := row_els HRow.out hts
          have hlp : 0 < ts'.length := List.length_pos_iff.2 hts
          have hone := els_one hal hat
          have hcl := hac w1.drew (hbzd.mono hBz)
          have HSa : Hid (Stk w B (ek ++ al) (us' ++ ts'.map fun t => (⟨d', t⟩ : Un))) := HSt.out.app (els_stk hal hat)
          have HLa : Hid ((ek ++ al).length = m + ts'.length) := by rw [List.length_append, HtL.out, hal]; rfl
          clear hac hat
          go_region_law ((refine step_append_lies _ (by rfl) _ _ _ (by rfl) z 24 i0 _ 3 48 Tryz.underlying22 hi hz0 hz1 hz2 rfl (by omega) (.slice (some ⟨g, 0, none⟩) m cp) m (ek.flatMap elCells) (by rfl) hown2.drew ⟨g', o', none⟩ ts'.length cap' (al.flatMap elCells) (by rfl) (by rw [elCells_len, hal]) hcl hone hlp (by unfold maxLen; omega) (by omega) (by simpa using hzs1) w1.heap.size (by simp) ?_; intro g2 cap2 w5 hown5 hgrow _ _))
          go_wp2
          have hmm : (N + 1 : Int) = ((N + 1 : Nat) : Int) := by omega
          go_roundw
          case rel =>
            obtain ⟨N', q⟩ := END.out (ek ++ al) (.slice (some ⟨g2, 0, none⟩) (m + ts'.length) cap2) w5 (by rw [HLa.out, List.flatMap_append]; exact hown5) (hbzd.grown hgrow (by simpa using hzs1) (fun k hk => by cases hk; exact hzg)) HSa.out
            exact ⟨N', q⟩
          case measure => simp [intOf]; omega
end Go.Proofs.YtgdflaapgfpdeaaGreatDoor

namespace Go.Proofs.YtgdflaapgfpdeaaGreatDoor
open Go.RowKit

/-- What is wrong with the first of some trees with which something is. -/
def wrongs : List Un → Int
  | [] => 0
  | u :: us => if wrongT u.1 u.2 = 0 then wrongs us else wrongT u.1 u.2
/-- An element of a stack by its parts. -/
theorem Stk.at {w : World} {B j : Nat} {es : List El} {us : List Un} (h : Stk w B es us) (hj : j < es.length) (hj' : j < us.length) : ∃ (k : Int) (n : ByteArray) (ad : Option Addr) (len cap : Nat), es[j] = (k, n, .slice ad len cap) ∧ TyAt w B us[j].1 (.agg #[.int .i64 k, .string n, .slice ad len cap]) us[j].2 := by
  have hT := h.each j hj hj'
  generalize es[j] = e at hT
  obtain ⟨k, n, v⟩ := e
  obtain ⟨ad, len, cap, rfl⟩ := hT.slice
  exact ⟨k, n, ad, len, cap, rfl, hT⟩
set_option maxHeartbeats 8000000 in
set_option maxRecDepth 10000 in
theorem wrong_list (es : List El) (us : List Un) (g cap : Nat) (w : World) (B : Nat) (hB : B ≤ w.heap.size) (hg : g < w.heap.size) (hc : ∀ j u, (es.flatMap elCells)[j]? = some u → w.cell? ⟨g, j, none⟩ = some u) (hS : Stk w B es us) (hN : ∀ u ∈ us, (flat u.1 u.2).length ≤ 4194304) (hl : es.length ≤ 1000) :
    Calls Tryz.prog 63 #[.slice (some ⟨g, 0, none⟩) es.length cap] w fun r w' => r = .returned (.int .i64 (wrongs us)) ∧ Below w.heap.size w w' := by
  generalize hR : wrongs us = R
  have HR : Hid (wrongs (us.drop 0) = R) := hR
  have HS : Hid (Stk w B es us) := hS
  have HC : Hid (∀ j u, (es.flatMap elCells)[j]? = some u → w.cell? ⟨g, j, none⟩ = some u) := hc
  have HN : Hid (∀ u ∈ us, (flat u.1 u.2).length ≤ 4194304) := hN
  clear hR hS hc hN
  go_enter Tryz.func63, Tryz.ntmps63
  go_wp2
  go_loopw [8] (fun i wr => ∃ j : Nat, j ≤ es.length ∧ i = .int .i64 j ∧ Below w.heap.size w wr ∧ Hid (wrongs (us.drop j) = R)) (fun i _ => es.length - (intOf i).toNat)
  case atStart => exact ⟨0, by omega, by go_num, Below.refl _ _, HR.out⟩
  case round =>
    obtain ⟨j, hj, rfl, hbel, HJ⟩ := hrel
    by_cases hlt : j < es.length
    · have hlu : j < us.length := by have := HS.out.len; omega
      obtain ⟨k, n, ad, len, cp, he, hT⟩ := HS.out.at hlt hlu
      have hcel : ∀ i u, ([.int .i64 k, .string n, .slice ad len cp] : List Value)[i]? = some u → wr.cell? ⟨g, j * 3 + i, none⟩ = some u := fun i u hu => by
        have hi3 : i < 3 := by
          rcases Nat.lt_or_ge i 3 with h | h
          · exact h
          · rw [List.getElem?_eq_none (by simpa using h)] at hu; cases hu
        rw [hbel.cell (p := ⟨g, j * 3 + i, none⟩) hg]
        refine HC.out _ _ ?_
        rw [elCells_get es j i hlt hi3, he]
        exact hu
      have e0 := hcel 0 _ rfl
      have e1 := hcel 1 _ rfl
      have e2 := hcel 2 _ rfl
      rw [Nat.add_zero] at e0
      have HT : Hid (TyAt w B us[j].1 (.agg #[.int .i64 k, .string n, .slice ad len cp]) us[j].2) := hT
      have hnj := HN.out us[j] (List.getElem_mem hlu)
      have HD : Hid ((if wrongT us[j].1 us[j].2 = 0 then wrongs (us.drop (j + 1)) else wrongT us[j].1 us[j].2) = R) := by
        have := HJ.out
        rw [List.drop_eq_getElem_cons hlu] at this
        exact this
      generalize us[j] = u at HT hnj HD hT
      clear hcel he HR HJ
      have HWr : Hid (Below w.heap.size w wr) := hbel
      have CW : ∀ W, Below wr.heap.size wr W → Calls Tryz.prog 72 #[.agg #[.int .i64 k, .string n, .slice ad len cp]] W fun r w' => r = .returned (.int .i64 (wrongT u.1 u.2)) ∧ Below W.heap.size W w' := fun W hb => by
        have h1 : Below w.heap.size w W := hbel.trans (hb.mono hbel.size)
        exact wrongType_any u.1 _ u.2 W B (Nat.le_trans hB h1.size) (hT.on (h1.mono hB)) hnj
      obtain ⟨U, hU, hbU, hsU, u0, u1, u2⟩ := cells_box wr (.int .i64 k) (.string n) (.slice ad len cp) 24
      have CU := CW U hbU
      have HX : Hid (∀ w1, Below U.heap.size U w1 → Below w.heap.size w w1) := fun w1 hb => HWr.out.trans ((hbU.trans (hb.mono hbU.size)).mono HWr.out.size)
      generalize wrongT u.1 u.2 = e at CU HD
      clear hT hbU hsU CW HT hnj
      go_upto_region 4 with fail
      rw [← hU]
      generalize wr.heap.size = z1 at u0 u1 u2 ⊢
      clear hU e0 e1 e2
      by_cases h0 : e = 0
      · subst h0
        rw [if_pos rfl] at HD
        go_wp2_with (go_at_call 72; (with_reducible refine Calls.mono CU ?_); rintro e' w1 ⟨rfl, hb1⟩)
        have hb2 := HX.out _ hb1
        go_roundw
        case rel => exact ⟨j + 1, by omega, by go_num, hb2, HD.out⟩
        case measure => simp [intOf]; omega
      · rw [if_neg h0] at HD
        have h0' : (e != 0) = true := by simpa using h0
        have h0'' : (e == 0) = false := by simpa using h0
        go_wp2_with (go_at_call 72; (with_reducible refine Calls.mono CU ?_); rintro e' w1 ⟨rfl, hb1⟩)
        go_ret
        exact ⟨by rw [← HD.out]; rfl, HX.out _ hb1⟩
    · have HE : Hid (R = 0) := by
        have := HJ.out
        rw [List.drop_eq_nil_of_le (by have := HS.out.len; omega)] at this
        exact this.symm
      clear HR HJ
      go_wp2
      go_ret
      exact ⟨by rw [HE.out]; rfl, hbel⟩
end Go.Proofs.YtgdflaapgfpdeaaGreatDoor
