/- Names of variables in their order; a tree renamed is a tree with the names put in. -/
import Derived.Test.YtgdflaapgfpdeaaGreatDoorMox
import Derived.Test.YtgdflaapgfpdeaaGreatDoorPw
import Derived.Test.YtgdflaapgfpdeaaGreatDoorMjx
import Derived.Test.YtgdflaapgfpdeaaGreatDoorMdx
import Derived.Test.YtgdflaapgfpdeaaGreatDoorMmx
namespace Go.Proofs.YtgdflaapgfpdeaaGreatDoor

theorem named_var (d : Nat) (ns : Nms) (n : List UInt8) (ts : List (Tn d)) : namedT (d + 1) ns ((2, n), ts) = (addN ns n, ((2, letB (idxN (addN ns n) n)), [])) := by
  rw [namedT, if_pos rfl]
  unfold addN
  split
  · rfl
  · rename_i h
    have : idxN (ns ++ [n]) n = ns.length := by
      refine idxOf_at (by simp) (by simp) fun i hi e => h ?_
      have hi' : i < ns.length := hi
      rw [List.getElem_append_left hi'] at e
      exact idx_lt hi' e
    rw [this]
    rfl
theorem named_node (d : Nat) (ns : Nms) (k : Int) (n : List UInt8) (ts : List (Tn d)) (h : k ≠ 2) : namedT (d + 1) ns ((k, n), ts) = ((namedArgs (namedT d) ns ts).1, ((k, n), (namedArgs (namedT d) ns ts).2)) := by
  rw [namedT, if_neg h]
  rfl
theorem named_fold : ∀ (d : Nat) (t : Tn d) (ns : Nms), (namedT d ns t).1 = (namesT d t).foldl addN ns
  | 0, t, _ => t.elim
  | d + 1, ((k, n), ts), ns => by
    by_cases h : k = 2
    · subst h
      rw [named_var, names_var]
      rfl
    · rw [named_node _ _ _ _ _ h, names_node _ _ _ _ h]
      have : ∀ (ts : List (Tn d)) (ns : Nms), (namedArgs (namedT d) ns ts).1 = (ts.flatMap (namesT d)).foldl addN ns := fun ts => by
        induction ts with
        | nil => intro ns; rfl
        | cons a r ih =>
          intro ns
          rw [namedArgs, List.flatMap_cons, List.foldl_append]
          show (namedArgs (namedT d) (namedT d ns a).1 r).1 = _
          rw [ih, named_fold d a ns]
      exact this ts ns
/-- What stands for a name, if NS are the names in their order. -/
def canonOf (NS : Nms) (n : List UInt8) : Option (Tn 1) := if idxN NS n < NS.length then some ((2, letB (idxN NS n)), []) else none
theorem flat_upN (e : Nat) (u : Tn e) : ∀ d, flat (e + d) (upN e u d) = flat e u
  | 0 => rfl
  | d + 1 => (flat_up _ _).trans (flat_upN e u d)
theorem canon_flat (NS : Nms) : ∀ (d : Nat) (t : Tn d) (ns : Nms), (namesT d t).foldl addN ns <+: NS → flat (1 + d) (subT 1 (canonOf NS) d t) = flat d (namedT d ns t).2
  | 0, t, _, _ => t.elim
  | d + 1, ((k, n), ts), ns, h => by
    by_cases hk : k = 2
    · subst hk
      rw [names_var] at h
      have h : addN ns n <+: NS := h
      have h1 := addN_mem ns n
      have h2 := idx_pre h h1
      have h3 : canonOf NS n = some ((2, letB (idxN (addN ns n) n)), []) := by
        unfold canonOf
        rw [h2, if_pos (Nat.lt_of_lt_of_le h1 h.length_le)]
        rfl
      rw [subT_var h3, named_var]
      exact flat_upN 1 _ (d + 1)
    · rw [subT_node hk, named_node _ _ _ _ _ hk]
      rw [names_node _ _ _ _ hk] at h
      show flat (1 + d + 1) ((k, n), ts.map (subT 1 (canonOf NS) d)) = flat (d + 1) ((k, n), (namedArgs (namedT d) ns ts).2)
      rw [flat_succ, flat_succ, List.length_map, namedArgs_two]
      have : ∀ (ts : List (Tn d)) (ns : Nms), (ts.flatMap (namesT d)).foldl addN ns <+: NS → flats (1 + d) (ts.map (subT 1 (canonOf NS) d)) = flats d (namedArgs (namedT d) ns ts).2 := fun ts => by
        induction ts with
        | nil => intro ns _; rfl
        | cons a r ih =>
          intro ns h
          rw [List.flatMap_cons, List.foldl_append] at h
          rw [namedArgs, List.map_cons, flats_cons, canon_flat NS d a ns ((fold_pre _ _).trans h)]
          show _ = flats d ((namedT d ns a).2 :: (namedArgs (namedT d) (namedT d ns a).1 r).2)
          rw [flats_cons, named_fold d a ns, ih _ h]
      rw [this ts ns h]
theorem names_len : ∀ (d : Nat) (t : Tn d), (namesT d t).length ≤ (flat d t).length
  | 0, t => t.elim
  | d + 1, ((k, n), ts) => by
    rw [flat_succ, List.length_cons]
    by_cases h : k = 2
    · subst h
      rw [names_var]
      simp
    · rw [names_node _ _ _ _ h]
      have : ∀ ts : List (Tn d), (ts.flatMap (namesT d)).length ≤ (flats d ts).length := fun ts => by
        induction ts with
        | nil => simp
        | cons a r ih =>
          rw [List.flatMap_cons, List.length_append, flats_cons, List.length_append]
          have := names_len d a
          omega
      have := this ts
      omega
theorem digit_sign (m : Nat) (h : m < 10) : signB (48 + m).toUInt8 = true := by
  have e : (48 + m).toUInt8.toNat = 48 + m := by simp; omega
  unfold signB
  rw [e]
  simp
  omega
theorem let_var (n : Nat) (h : n < 2600) : varB (letB n) = true := by
  have e : (97 + n % 26).toUInt8.toNat = 97 + n % 26 := by simp; omega
  have hs : smallB (97 + n % 26).toUInt8 = true := by
    unfold smallB
    rw [e]
    simp
    omega
  have hd : (digB (n / 26)).all signB = true ∧ (digB (n / 26)).length ≤ 2 := by
    unfold digB
    split
    · rename_i h1
      exact ⟨by simp only [List.all_cons, List.all_nil, Bool.and_true]; exact digit_sign _ h1, by simp⟩
    · exact ⟨by simp only [List.all_cons, List.all_nil, Bool.and_true, Bool.and_eq_true]; exact ⟨digit_sign _ (by omega), digit_sign _ (by omega)⟩, by simp⟩
  unfold letB varB
  simp only [Bool.and_eq_true, decide_eq_true_eq]
  by_cases h1 : n < 26
  · rw [if_pos h1]
    exact ⟨by simp, hs, by simp⟩
  · rw [if_neg h1]
    refine ⟨?_, hs, hd.1⟩
    have := hd.2
    simp
    omega
theorem named_form : ∀ (d : Nat) (t : Tn d) (ns : Nms), formB d t = true → ns.length + (flat d t).length ≤ 2600 → formB d (namedT d ns t).2 = true
  | 0, t, _, _, _ => t.elim
  | d + 1, ((k, n), ts), ns, h, hl => by
    rw [flat_succ, List.length_cons] at hl
    rw [form_succ, Bool.and_eq_true, List.all_eq_true] at h
    by_cases hk : k = 2
    · subst hk
      rw [named_var]
      show formB (d + 1) ((2, letB (idxN (addN ns n) n)), []) = true
      rw [form_succ]
      have h1 := addN_mem ns n
      have h2 := fold_len [n] ns
      have h2 : (addN ns n).length ≤ ns.length + 1 := h2
      have := let_var (idxN (addN ns n) n) (by omega)
      simp [okB, this]
    · rw [named_node _ _ _ _ _ hk]
      show formB (d + 1) ((k, n), (namedArgs (namedT d) ns ts).2) = true
      rw [form_succ, namedArgs_two, h.1]
      have : ∀ (ts : List (Tn d)) (ns : Nms), (∀ a ∈ ts, formB d a = true) → ns.length + (flats d ts).length ≤ 2600 → ((namedArgs (namedT d) ns ts).2.all (formB d)) = true := fun ts => by
        induction ts with
        | nil => intro ns _ _; rfl
        | cons a r ih =>
          intro ns ha hl
          rw [flats_cons, List.length_append] at hl
          rw [namedArgs]
          show (((namedT d ns a).2 :: (namedArgs (namedT d) (namedT d ns a).1 r).2).all (formB d)) = true
          rw [List.all_cons, named_form d a ns (ha a (by simp)) (by omega), Bool.true_and]
          have := namedT_len d ns a
          exact ih _ (fun b hb => ha b (by simp [hb])) (by omega)
      rw [this ts ns h.2 (by omega)]
      rfl
end Go.Proofs.YtgdflaapgfpdeaaGreatDoor
