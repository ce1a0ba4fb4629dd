/- Reads whose answers are their owner's read as the document says. -/
import Derived.Test.YthcejnpknjepfaaGreatDoorMo
namespace Go.Proofs.YthcejnpknjepfaaGreatDoor
open Go.RowKit

theorem flat_same : ∀ (d : Nat) (t : Tn d) (e : Nat) (u : Tn e), flat d t = flat e u → formB d t = formB e u ∧ textT d t = textT e u
  | 0, t, _, _, _ => Empty.elim t
  | d + 1, ((k, n), ts), 0, u, _ => Empty.elim u
  | d + 1, ((k, n), ts), e + 1, ((k', n'), us), h => by
    obtain ⟨rfl, rfl, hl, hj⟩ := (flat_eq_iff d e k k' n n' ts us).1 h
    have ih : ∀ j (h : j < ts.length) (h' : j < us.length), formB d ts[j] = formB e us[j] ∧ textT d ts[j] = textT e us[j] := fun j h h' => flat_same d _ e _ (hj j h h')
    have e1 : ts.map (formB d) = us.map (formB e) := List.ext_getElem (by simpa using hl) fun j h h' => by simpa using (ih j (by simpa using h) (by simpa using h')).1
    have e2 : ts.map (textT d) = us.map (textT e) := List.ext_getElem (by simpa using hl) fun j h h' => by simpa using (ih j (by simpa using h) (by simpa using h')).2
    have e3 : ts.all (formB d) = us.all (formB e) := by
      have a1 : ts.all (formB d) = (ts.map (formB d)).all id := by simp [List.all_map, Function.comp_def]
      have a2 : us.all (formB e) = (us.map (formB e)).all id := by simp [List.all_map, Function.comp_def]
      rw [a1, a2, e1]
    have e4 : ts.isEmpty = us.isEmpty := by cases ts <;> cases us <;> simp_all
    constructor
    · simp only [formB, e3, e4, hl]
    · have e5 : (ts.map fun a => 32 :: textT d a) = us.map fun a => 32 :: textT e a := by
        have a1 : (ts.map fun a => 32 :: textT d a) = (ts.map (textT d)).map (fun x => 32 :: x) := by simp
        have a2 : (us.map fun a => 32 :: textT e a) = (us.map (textT e)).map (fun x => 32 :: x) := by simp
        rw [a1, a2, e2]
      have e6 : (ts = []) = (us = []) := by cases ts <;> cases us <;> simp_all
      simp only [textT, e5, e6]
      split
      · rfl
      · split
        · match ts, us, hl, e2 with
          | [], [], _, _ => rfl
          | [_], [_], _, _ => rfl
          | [a, b], [a', b'], _, e2 =>
            simp at e2
            simp [e2]
          | _ :: _ :: _ :: _, _ :: _ :: _ :: _, _, _ => rfl
        · rfl
theorem reads_of (hR : ReadsO 23) : Reads 23 := by
  intro l w hl
  refine Calls.mono (hR l w hl) ?_
  rintro r w' ⟨hb, k, n, ad, len, cap, e, d, t, rws, rfl, hT, hS, _, _, hrel⟩
  refine ⟨hb, _, e, rfl, ?_⟩
  have hA : TyAt w' w'.heap.size d (.agg #[.int .i64 k, .string n, .slice ad len cap]) t := TyO.at d _ t rws (fun p hp g hg => by
    obtain ⟨g', e1, e2⟩ := hS.1 p hp
    rw [hg] at e1
    cases e1
    exact e2) hT
  rcases hrel with ⟨he, hl', d', t', f1, f2, f3, f4⟩ | ⟨he, hF, hrest⟩
  · obtain ⟨g1, g2⟩ := flat_same d t d' t' f4
    exact .inl ⟨he, hl', d, t, by rw [g1]; exact f1, by rw [g2]; exact f2, by rw [f4]; exact f3, hA⟩
  · refine .inr ⟨he, ?_, hrest⟩
    cases d with
    | zero => exact hA.elim
    | succ d =>
      obtain ⟨⟨k', n'⟩, ts⟩ := t
      rw [flat_succ] at hF
      injection hF with h1 h2
      have hk : k' = 0 := congrArg (fun x => x.1) h1
      have hn : n' = [] := congrArg (fun x => x.2.1) h1
      have ht : ts.length = 0 := congrArg (fun x => x.2.2) h1
      subst hk hn
      have ht := List.eq_nil_of_length_eq_zero ht
      subst ht
      obtain ⟨v, hx, _, _, hv⟩ := hA
      obtain ⟨ad', cap', rfl⟩ := hv.len
      exact ⟨ad', cap', hx⟩
end Go.Proofs.YthcejnpknjepfaaGreatDoor
