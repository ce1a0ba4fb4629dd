/- Rows of nodes with rows put in the variables' places; canonical rows. Two rows have one canonical row just if each is made of the other. -/
import Derived.Test.YthcejnpknjepfaaGreatDoorNm
import Derived.Test.YthcejnpknjepfaaGreatDoorMd
import Derived.Test.YthcejnpknjepfaaGreatDoorFt
namespace Go.Proofs.YthcejnpknjepfaaGreatDoor

/-- A row with what θ says in its variables' places. -/
def subF (θ : Sb) (L : List Nd) : List Nd := L.flatMap fun nd => if nd.1 = 2 then (θ nd.2.1).getD [nd] else [nd]
theorem subF_nil (θ : Sb) : subF θ [] = [] := rfl
theorem subF_cons (θ : Sb) (nd : Nd) (L : List Nd) : subF θ (nd :: L) = (if nd.1 = 2 then (θ nd.2.1).getD [nd] else [nd]) ++ subF θ L := rfl
theorem subF_app (θ : Sb) (A L : List Nd) : subF θ (A ++ L) = subF θ A ++ subF θ L := by unfold subF; rw [List.flatMap_append]
theorem subF_var (θ : Sb) (n : List UInt8) (l : Nat) : subF θ [(2, n, l)] = (θ n).getD [(2, n, l)] := by
  rw [subF_cons, subF_nil, List.append_nil]
  exact if_pos rfl
theorem form_var {d : Nat} {n : List UInt8} {ts : List (Tn d)} (h : formB (d + 1) ((2, n), ts) = true) : ts = [] := by
  rw [form_succ, Bool.and_eq_true] at h
  have h := h.1
  simp [okB] at h
  exact h.2
theorem form_args {d : Nat} {k : Int} {n : List UInt8} {ts : List (Tn d)} (h : formB (d + 1) ((k, n), ts) = true) : ∀ a ∈ ts, formB d a = true := by
  rw [form_succ, Bool.and_eq_true, List.all_eq_true] at h
  exact h.2
/-- The nodes of a tree with trees put in. -/
theorem sub_flat (e : Nat) (f : List UInt8 → Option (Tn e)) : ∀ (d : Nat) (t : Tn d), formB d t = true → flat (e + d) (subT e f d t) = subF (fun n => (f n).map (flat e)) (flat d t)
  | 0, t, _ => t.elim
  | d + 1, ((k, n), ts), h => by
    by_cases hk : k = 2
    · subst hk
      have h0 := form_var h
      subst h0
      rw [flat_succ, flats_nil]
      show _ = subF _ [(2, n, 0)]
      rw [subF_var]
      cases hf : f n with
      | none =>
        rw [subT_free hf]
        show flat (e + d + 1) ((2, n), []) = _
        rw [flat_succ, flats_nil]
        rfl
      | some u =>
        rw [subT_var hf]
        exact flat_upN e u (d + 1)
    · rw [subT_node hk]
      show flat (e + d + 1) ((k, n), ts.map (subT e f d)) = _
      rw [flat_succ, flat_succ, List.length_map, subF_cons, if_neg hk]
      have : ∀ ts : List (Tn d), (∀ a ∈ ts, formB d a = true) → flats (e + d) (ts.map (subT e f d)) = subF (fun n => (f n).map (flat e)) (flats d ts) := fun ts => by
        induction ts with
        | nil => intro _; rfl
        | cons a r ih =>
          intro ha
          rw [List.map_cons, flats_cons, flats_cons, subF_app, sub_flat e f d a (ha a (by simp)), ih fun b hb => ha b (by simp [hb])]
      rw [this ts (form_args h)]
      rfl
/-- Every name of the first says the same in the second. -/
def LeS (σ τ : Sb) : Prop := ∀ n r, σ n = some r → τ n = some r
theorem LeS.trans {a b c : Sb} (h : LeS a b) (k : LeS b c) : LeS a c := fun n r e => k n r (h n r e)
theorem sub_le {σ τ : Sb} (h : LeS σ τ) : ∀ (d : Nat) (t : Tn d), formB d t = true → (∀ n ∈ namesT d t, (σ n).isSome = true) → subF τ (flat d t) = subF σ (flat d t)
  | 0, t, _, _ => t.elim
  | d + 1, ((k, n), ts), hf, hn => by
    by_cases hk : k = 2
    · subst hk
      have h0 := form_var hf
      subst h0
      rw [flat_succ, flats_nil]
      show subF τ [(2, n, 0)] = subF σ [(2, n, 0)]
      rw [subF_var, subF_var]
      have := hn n (by rw [names_var]; simp)
      cases e : σ n with
      | none => rw [e] at this; cases this
      | some r => rw [h n r e]
    · rw [names_node _ _ _ _ hk] at hn
      rw [flat_succ, subF_cons, subF_cons, if_neg hk, if_neg hk]
      have : ∀ ts : List (Tn d), (∀ a ∈ ts, formB d a = true) → (∀ n ∈ ts.flatMap (namesT d), (σ n).isSome = true) → subF τ (flats d ts) = subF σ (flats d ts) := fun ts => by
        induction ts with
        | nil => intro _ _; rfl
        | cons a r ih =>
          intro ha hn
          rw [List.flatMap_cons] at hn
          rw [flats_cons, subF_app, subF_app, sub_le h d a (ha a (by simp)) fun n hm => hn n (List.mem_append.2 (.inl hm)), ih (fun b hb => ha b (by simp [hb])) fun n hm => hn n (List.mem_append.2 (.inr hm))]
      rw [this ts (form_args hf) hn]
/-- What is found makes the general tree the special one. -/
theorem fit_sound : ∀ (d : Nat) (t : Tn d) (e : Nat) (u : Tn e) (σ : Sb), formB d t = true → (fitT d t e u σ).2 = true → LeS σ (fitT d t e u σ).1 ∧ subF (fitT d t e u σ).1 (flat d t) = flat e u ∧ ∀ n ∈ namesT d t, ((fitT d t e u σ).1 n).isSome = true
  | 0, t, _, _, _, _, _ => t.elim
  | _ + 1, _, 0, u, _, _, _ => u.elim
  | d + 1, ((k, n), ts), e + 1, ((k', n'), us), σ, hf, h => by
    generalize hR : fitT (d + 1) ((k, n), ts) (e + 1) ((k', n'), us) σ = R at h ⊢
    by_cases hk : k = 2
    · subst hk
      have h0 := form_var hf
      subst h0
      have hR : fitV σ n (flat (e + 1) ((k', n'), us)) = R := (fit_var d n [] e ((k', n'), us) σ).symm.trans hR
      subst hR
      rw [names_var]
      show _ ∧ subF _ [(2, n, 0)] = _ ∧ _
      rw [subF_var]
      unfold fitV at h ⊢
      cases hσ : σ n with
      | none =>
        rw [hσ] at h
        refine ⟨fun m r hm => ?_, ?_, fun m hm => ?_⟩
        · show (if m = n then some _ else σ m) = some r
          rw [if_neg (fun e => by rw [e, hσ] at hm; cases hm)]
          exact hm
        · show (if n = n then some _ else σ n).getD _ = _
          rw [if_pos rfl]
          rfl
        · rw [List.mem_singleton.1 hm]
          show (if n = n then some _ else σ n).isSome = true
          rw [if_pos rfl]
          rfl
      | some r' =>
        rw [hσ] at h
        have h : r' = flat (e + 1) ((k', n'), us) := by simpa using h
        refine ⟨fun m r hm => hm, ?_, fun m hm => ?_⟩
        · show (σ n).getD _ = _
          rw [hσ, h]
          rfl
        · rw [List.mem_singleton.1 hm]
          show (σ n).isSome = true
          rw [hσ]
          rfl
    · by_cases hh : k = k' ∧ n = n'
      · obtain ⟨rfl, rfl⟩ := hh
        have hR : eqAll (fun s t u => fitT d t e u s) σ ts us = R := (fit_node d k n ts e us σ hk).symm.trans hR
        unfold eqAll at hR
        by_cases hl : ts.length = us.length
        · rw [if_pos hl] at hR
          subst hR
          rw [names_node _ _ _ _ hk, flat_succ, flat_succ, subF_cons, if_neg hk, hl]
          have key : ∀ (ts : List (Tn d)) (us : List (Tn e)) (σ : Sb), ts.length = us.length → (∀ a ∈ ts, formB d a = true) → (eqGo (fun s t u => fitT d t e u s) σ ts us).2 = true →
              LeS σ (eqGo (fun s t u => fitT d t e u s) σ ts us).1 ∧ subF (eqGo (fun s t u => fitT d t e u s) σ ts us).1 (flats d ts) = flats e us ∧ ∀ n ∈ ts.flatMap (namesT d), ((eqGo (fun s t u => fitT d t e u s) σ ts us).1 n).isSome = true := fun ts => by
            induction ts with
            | nil =>
              intro us σ hl _ _
              cases us with
              | nil => exact ⟨fun n r h => h, rfl, fun n hn => (by cases hn)⟩
              | cons u us => simp at hl
            | cons t ts ih =>
              intro us σ hl ha h
              cases us with
              | nil => simp at hl
              | cons u us =>
                rw [eqGo] at h ⊢
                by_cases hok : (fitT d t e u σ).2 = true
                · rw [if_pos hok] at h ⊢
                  obtain ⟨a1, a2, a3⟩ := fit_sound d t e u σ (ha t (by simp)) hok
                  obtain ⟨b1, b2, b3⟩ := ih us _ (by simpa using hl) (fun b hb => ha b (by simp [hb])) h
                  refine ⟨a1.trans b1, ?_, fun n hn => ?_⟩
                  · rw [flats_cons, flats_cons, subF_app, sub_le b1 d t (ha t (by simp)) a3, a2, b2]
                  · rw [List.flatMap_cons] at hn
                    rcases List.mem_append.1 hn with hn | hn
                    · have := a3 n hn
                      cases e0 : (fitT d t e u σ).1 n with
                      | none => rw [e0] at this; cases this
                      | some r => rw [b1 n r e0]; rfl
                    · exact b3 n hn
                · rw [if_neg hok] at h
                  cases h
          obtain ⟨c1, c2, c3⟩ := key ts us σ hl (form_args hf) h
          exact ⟨c1, by rw [c2]; rfl, c3⟩
        · rw [if_neg hl] at hR
          subst hR
          cases h
      · have hR : (σ, false) = R := (fit_no d k k' n n' ts e us σ hk hh).symm.trans hR
        subst hR
        cases h
/-- A row put together of rows of trees says where it ends. -/
theorem sub_inj (θ : List UInt8 → List Nd) (hθ : ∀ n, ∃ (d : Nat) (u : Tn d), θ n = flat d u) : ∀ (d : Nat) (t : Tn d), formB d t = true → ∀ (e : Nat) (u : Tn e) (r s : List Nd), subF (fun n => some (θ n)) (flat d t) ++ r = flat e u ++ s → subF (fun n => some (θ n)) (flat d t) = flat e u ∧ r = s
  | 0, t, _, _, _, _, _, _ => t.elim
  | _ + 1, _, _, 0, u, _, _, _ => u.elim
  | d + 1, ((k, n), ts), hf, e + 1, ((k', n'), us), r, s, h => by
    by_cases hk : k = 2
    · subst hk
      have h0 := form_var hf
      subst h0
      obtain ⟨d', u', hu⟩ := hθ n
      have e0 : subF (fun n => some (θ n)) (flat (d + 1) ((2, n), [])) = flat d' u' := by
        show subF _ [(2, n, 0)] = _
        rw [subF_var]
        exact hu
      rw [e0] at h ⊢
      exact flat_inj d' u' (e + 1) _ r s h
    · have e0 : subF (fun n => some (θ n)) (flat (d + 1) ((k, n), ts)) = (k, n, ts.length) :: subF (fun n => some (θ n)) (flats d ts) := by
        rw [flat_succ, subF_cons, if_neg hk]
        rfl
      rw [e0] at h ⊢
      rw [flat_succ, List.cons_append, List.cons_append] at h
      injection h with h1 h2
      have hl : ts.length = us.length := by simpa using congrArg (fun x => x.2.2) h1
      have key : ∀ (ts : List (Tn d)) (us : List (Tn e)) (r s : List Nd), ts.length = us.length → (∀ a ∈ ts, formB d a = true) → subF (fun n => some (θ n)) (flats d ts) ++ r = flats e us ++ s → subF (fun n => some (θ n)) (flats d ts) = flats e us ∧ r = s := fun ts => by
        induction ts with
        | nil =>
          intro us r s hl _ h
          cases us with
          | nil => exact ⟨rfl, h⟩
          | cons u us => simp at hl
        | cons t ts ih =>
          intro us r s hl ha h
          cases us with
          | nil => simp at hl
          | cons u us =>
            rw [flats_cons, flats_cons, subF_app, List.append_assoc, List.append_assoc] at h
            obtain ⟨a1, a2⟩ := sub_inj θ hθ d t (ha t (by simp)) e u _ _ h
            obtain ⟨b1, b2⟩ := ih us r s (by simpa using hl) (fun b hb => ha b (by simp [hb])) a2
            exact ⟨by rw [flats_cons, flats_cons, subF_app, a1, b1], b2⟩
      obtain ⟨c1, c2⟩ := key ts us r s hl (form_args hf) h2
      exact ⟨by rw [c1, h1, flat_succ], c2⟩
/-- If something makes the general tree the special one, it is found. -/
theorem fit_whole (θ : List UInt8 → List Nd) (hθ : ∀ n, ∃ (d : Nat) (u : Tn d), θ n = flat d u) : ∀ (d : Nat) (t : Tn d) (e : Nat) (u : Tn e) (σ : Sb), formB d t = true → LeS σ (fun n => some (θ n)) → subF (fun n => some (θ n)) (flat d t) = flat e u → (fitT d t e u σ).2 = true ∧ LeS (fitT d t e u σ).1 (fun n => some (θ n))
  | 0, t, _, _, _, _, _, _ => t.elim
  | _ + 1, _, 0, u, _, _, _, _ => u.elim
  | d + 1, ((k, n), ts), e + 1, ((k', n'), us), σ, hf, hle, h => by
    generalize hR : fitT (d + 1) ((k, n), ts) (e + 1) ((k', n'), us) σ = R
    by_cases hk : k = 2
    · subst hk
      have h0 := form_var hf
      subst h0
      have hR : fitV σ n (flat (e + 1) ((k', n'), us)) = R := (fit_var d n [] e ((k', n'), us) σ).symm.trans hR
      subst hR
      have h : subF (fun n => some (θ n)) [(2, n, 0)] = flat (e + 1) ((k', n'), us) := h
      rw [subF_var] at h
      have h : θ n = flat (e + 1) ((k', n'), us) := h
      unfold fitV
      cases hσ : σ n with
      | none =>
        refine ⟨rfl, fun m r hm => ?_⟩
        have hm : (if m = n then some (flat (e + 1) ((k', n'), us)) else σ m) = some r := hm
        by_cases e0 : m = n
        · rw [if_pos e0] at hm
          rw [e0, ← Option.some.inj hm, ← h]
        · rw [if_neg e0] at hm
          exact hle m r hm
      | some r' =>
        have := hle n r' hσ
        have : θ n = r' := Option.some.inj this
        refine ⟨?_, hle⟩
        show decide (r' = _) = true
        rw [← this, h]
        simp
    · have e0 : subF (fun n => some (θ n)) (flat (d + 1) ((k, n), ts)) = (k, n, ts.length) :: subF (fun n => some (θ n)) (flats d ts) := by
        rw [flat_succ, subF_cons, if_neg hk]
        rfl
      rw [e0, flat_succ] at h
      injection h with h1 h2
      have hl : ts.length = us.length := by simpa using congrArg (fun x => x.2.2) h1
      have hkk : k = k' := by simpa using congrArg (fun x => x.1) h1
      have hnn : n = n' := by simpa using congrArg (fun x => x.2.1) h1
      subst hkk hnn
      have hR : eqAll (fun s t u => fitT d t e u s) σ ts us = R := (fit_node d k n ts e us σ hk).symm.trans hR
      unfold eqAll at hR
      rw [if_pos hl] at hR
      subst hR
      have key : ∀ (ts : List (Tn d)) (us : List (Tn e)) (σ : Sb), ts.length = us.length → (∀ a ∈ ts, formB d a = true) → LeS σ (fun n => some (θ n)) → subF (fun n => some (θ n)) (flats d ts) = flats e us → (eqGo (fun s t u => fitT d t e u s) σ ts us).2 = true ∧ LeS (eqGo (fun s t u => fitT d t e u s) σ ts us).1 (fun n => some (θ n)) := fun ts => by
        induction ts with
        | nil =>
          intro us σ hl _ hle _
          cases us with
          | nil => exact ⟨rfl, hle⟩
          | cons u us => simp at hl
        | cons t ts ih =>
          intro us σ hl ha hle h
          cases us with
          | nil => simp at hl
          | cons u us =>
            rw [flats_cons, flats_cons, subF_app] at h
            obtain ⟨a1, a2⟩ := sub_inj θ hθ d t (ha t (by simp)) e u _ _ h
            obtain ⟨b1, b2⟩ := fit_whole θ hθ d t e u σ (ha t (by simp)) hle a1
            rw [eqGo, if_pos b1]
            exact ih us _ (by simpa using hl) (fun b hb => ha b (by simp [hb])) b2 a2
      exact key ts us σ hl (form_args hf) hle h2
/-- How many nodes more a name brings. -/
def lessN (θ : Sb) (n : List UInt8) : Nat := match θ n with | some r => r.length - 1 | none => 0
/-- How many nodes come. -/
theorem sub_len (θ : Sb) (hθ : ∀ n r, θ n = some r → 0 < r.length) : ∀ (d : Nat) (t : Tn d), formB d t = true → (subF θ (flat d t)).length = (flat d t).length + ((namesT d t).map (lessN θ)).sum
  | 0, t, _ => t.elim
  | d + 1, ((k, n), ts), hf => by
    by_cases hk : k = 2
    · subst hk
      have h0 := form_var hf
      subst h0
      rw [names_var]
      show (subF θ [(2, n, 0)]).length = [((2 : Int), n, 0)].length + _
      rw [subF_var]
      cases e : θ n with
      | none => simp [lessN, e]
      | some r =>
        have := hθ n r e
        rw [List.map_cons, List.map_nil, List.sum_cons, List.sum_nil, lessN, e]
        show r.length = 1 + (r.length - 1 + 0)
        omega
    · rw [names_node _ _ _ _ hk, flat_succ, subF_cons, if_neg hk]
      have key : ∀ ts : List (Tn d), (∀ a ∈ ts, formB d a = true) → (subF θ (flats d ts)).length = (flats d ts).length + ((ts.flatMap (namesT d)).map (lessN θ)).sum := fun ts => by
        induction ts with
        | nil => intro _; rfl
        | cons a r ih =>
          intro ha
          rw [flats_cons, subF_app, List.length_append, List.length_append, List.flatMap_cons, List.map_append, List.sum_append, sub_len θ hθ d a (ha a (by simp)), ih fun b hb => ha b (by simp [hb])]
          omega
      have := key ts (form_args hf)
      simp only [List.length_append, List.length_cons, List.length_nil]
      omega
/-- The names of a row's variables. -/
def varsL (L : List Nd) : List (List UInt8) := L.filterMap fun nd => if nd.1 = 2 then some nd.2.1 else none
theorem varsL_cons (nd : Nd) (L : List Nd) : varsL (nd :: L) = (if nd.1 = 2 then nd.2.1 :: varsL L else varsL L) := by
  unfold varsL
  rw [List.filterMap_cons]
  by_cases h : nd.1 = 2
  · simp [h]
  · simp [h]
theorem varsL_app (A L : List Nd) : varsL (A ++ L) = varsL A ++ varsL L := by unfold varsL; rw [List.filterMap_append]
theorem names_flat : ∀ (d : Nat) (t : Tn d), formB d t = true → varsL (flat d t) = namesT d t
  | 0, t, _ => t.elim
  | d + 1, ((k, n), ts), hf => by
    by_cases hk : k = 2
    · subst hk
      have h0 := form_var hf
      subst h0
      rw [names_var]
      rfl
    · rw [names_node _ _ _ _ hk, flat_succ, varsL_cons, if_neg hk]
      have key : ∀ ts : List (Tn d), (∀ a ∈ ts, formB d a = true) → varsL (flats d ts) = ts.flatMap (namesT d) := fun ts => by
        induction ts with
        | nil => intro _; rfl
        | cons a r ih =>
          intro ha
          rw [flats_cons, varsL_app, List.flatMap_cons, names_flat d a (ha a (by simp)), ih fun b hb => ha b (by simp [hb])]
      exact key ts (form_args hf)
/-- Variables have no arguments. -/
def VarOk (L : List Nd) : Prop := ∀ nd ∈ L, nd.1 = 2 → nd.2.2 = 0
theorem form_ok : ∀ (d : Nat) (t : Tn d), formB d t = true → VarOk (flat d t)
  | 0, t, _ => t.elim
  | d + 1, ((k, n), ts), hf => by
    have key : ∀ ts : List (Tn d), (∀ a ∈ ts, formB d a = true) → VarOk (flats d ts) := fun ts => by
      induction ts with
      | nil => intro _ nd hnd; cases hnd
      | cons a r ih =>
        intro ha nd hnd
        rw [flats_cons] at hnd
        rcases List.mem_append.1 hnd with hnd | hnd
        · exact form_ok d a (ha a (by simp)) nd hnd
        · exact ih (fun b hb => ha b (by simp [hb])) nd hnd
    intro nd hnd h2
    rw [flat_succ] at hnd
    rcases List.mem_cons.1 hnd with rfl | hnd
    · have h2 : k = 2 := h2
      subst h2
      have h0 := form_var hf
      subst h0
      rfl
    · exact key ts (form_args hf) nd hnd h2
/-- The names of a row in the order in which they come. -/
def nsL (L : List Nd) : List (List UInt8) := (varsL L).foldl addN []
/-- A node of the canonical row. -/
def canN (NS : List (List UInt8)) (nd : Nd) : Nd := if nd.1 = 2 then (2, letB (idxN NS nd.2.1), 0) else nd
/-- The canonical row. -/
def canL (L : List Nd) : List Nd := L.map (canN (nsL L))
theorem fold_mem : ∀ (l ns : List (List UInt8)) (x : List UInt8), (x ∈ l ∨ idxN ns x < ns.length) → idxN (l.foldl addN ns) x < (l.foldl addN ns).length
  | [], _, _, h => h.resolve_left (by simp)
  | a :: l, ns, x, h => by
    rw [List.foldl_cons]
    refine fold_mem l (addN ns a) x ?_
    rcases h with h | h
    · rcases List.mem_cons.1 h with rfl | h
      · exact .inr (addN_mem ns x)
      · exact .inl h
    · right
      have hp := addN_pre ns a
      rw [idx_pre hp h]
      exact Nat.lt_of_lt_of_le h hp.length_le
theorem var_mem {L : List Nd} {nd : Nd} (h : nd ∈ L) (h2 : nd.1 = 2) : nd.2.1 ∈ varsL L := List.mem_filterMap.2 ⟨nd, h, by rw [if_pos h2]⟩
theorem ns_mem {L : List Nd} {nd : Nd} (h : nd ∈ L) (h2 : nd.1 = 2) : idxN (nsL L) nd.2.1 < (nsL L).length := fold_mem _ _ _ (.inl (var_mem h h2))
theorem ns_len (L : List Nd) : (nsL L).length ≤ L.length := by
  have h1 := fold_len (varsL L) []
  have h2 : (varsL L).length ≤ L.length := List.length_filterMap_le _ _
  unfold nsL
  simp at h1
  omega
/-- What canonT makes. -/
theorem canon_row (d : Nat) (t : Tn d) (hf : formB d t = true) : flat d (canonT d t) = canL (flat d t) := by
  have h1 := canon_flat ((namesT d t).foldl addN []) d t [] (List.prefix_refl _)
  have h2 := sub_flat 1 (canonOf ((namesT d t).foldl addN [])) d t hf
  have e : flat d (canonT d t) = subF (fun n => (canonOf ((namesT d t).foldl addN []) n).map (flat 1)) (flat d t) := h1.symm.trans h2
  rw [e]
  unfold canL
  have hN : nsL (flat d t) = (namesT d t).foldl addN [] := by unfold nsL; rw [names_flat d t hf]
  rw [← hN]
  have key : ∀ L : List Nd, (∀ nd ∈ L, nd.1 = 2 → idxN (nsL (flat d t)) nd.2.1 < (nsL (flat d t)).length) → subF (fun n => (canonOf (nsL (flat d t)) n).map (flat 1)) L = L.map (canN (nsL (flat d t))) := fun L => by
    induction L with
    | nil => intro _; rfl
    | cons nd L ih =>
      intro hm
      rw [subF_cons, List.map_cons, ih fun x hx => hm x (by simp [hx])]
      by_cases h : nd.1 = 2
      · rw [if_pos h]
        have := hm nd (by simp) h
        unfold canonOf canN
        rw [if_pos this, if_pos h]
        rfl
      · rw [if_neg h]
        unfold canN
        rw [if_neg h]
        rfl
  exact key _ fun nd hnd h => ns_mem hnd h
end Go.Proofs.YthcejnpknjepfaaGreatDoor

namespace Go.Proofs.YthcejnpknjepfaaGreatDoor

theorem u8_inj {a b : Nat} (ha : a < 256) (hb : b < 256) (h : a.toUInt8 = b.toUInt8) : a = b := by
  have := congrArg UInt8.toNat h
  simp at this
  omega
theorem dig_inj {a b : Nat} (ha : a < 100) (hb : b < 100) (h : digB a = digB b) : a = b := by
  unfold digB at h
  by_cases h1 : a < 10
  · rw [if_pos h1] at h
    by_cases h2 : b < 10
    · rw [if_pos h2] at h
      have := u8_inj (by omega) (by omega) (List.cons.inj h).1
      omega
    · rw [if_neg h2] at h
      have := congrArg List.length h
      simp at this
  · rw [if_neg h1] at h
    by_cases h2 : b < 10
    · rw [if_pos h2] at h
      have := congrArg List.length h
      simp at this
    · rw [if_neg h2] at h
      have e1 := u8_inj (by omega) (by omega) (List.cons.inj h).1
      have e2 := u8_inj (by omega) (by omega) (List.cons.inj (List.cons.inj h).2).1
      omega
theorem dig_pos (a : Nat) : digB a ≠ [] := by
  unfold digB
  split <;> simp
theorem let_inj {a b : Nat} (ha : a < 2600) (hb : b < 2600) (h : letB a = letB b) : a = b := by
  unfold letB at h
  have e1 := u8_inj (by omega) (by omega) (List.cons.inj h).1
  have e2 := (List.cons.inj h).2
  by_cases h1 : a < 26
  · rw [if_pos h1] at e2
    by_cases h2 : b < 26
    · omega
    · rw [if_neg h2] at e2
      exact absurd e2.symm (dig_pos _)
  · rw [if_neg h1] at e2
    by_cases h2 : b < 26
    · rw [if_pos h2] at e2
      exact absurd e2 (dig_pos _)
    · rw [if_neg h2] at e2
      have := dig_inj (by omega) (by omega) e2
      omega
theorem idx_get : ∀ (ns : List (List UInt8)) (x z : List UInt8), idxN ns x < ns.length → ns.getD (idxN ns x) z = x
  | [], _, _, h => by simp at h
  | a :: r, x, z, h => by
    rw [idxN] at h ⊢
    by_cases e : a = x
    · rw [if_pos e]
      exact e
    · rw [if_neg e] at h ⊢
      rw [List.getD_cons_succ]
      exact idx_get r x z (by simpa using h)
theorem idx_eq {ns : List (List UInt8)} {x y : List UInt8} (hx : idxN ns x < ns.length) (hy : idxN ns y < ns.length) (h : idxN ns x = idxN ns y) : x = y := by
  rw [← idx_get ns x [] hx, h, idx_get ns y [] hy]
theorem idx_map (γ : List UInt8 → List UInt8) (x : List UInt8) : ∀ ns : List (List UInt8), (∀ a ∈ ns, γ a = γ x → a = x) → idxN (ns.map γ) (γ x) = idxN ns x
  | [], _ => rfl
  | a :: r, h => by
    rw [List.map_cons, idxN, idxN, idx_map γ x r fun b hb => h b (by simp [hb])]
    by_cases e : a = x
    · rw [if_pos e, if_pos (congrArg γ e)]
    · rw [if_neg e, if_neg fun q => e (h a (by simp) q)]
theorem fold_map (γ : List UInt8 → List UInt8) (S : List UInt8 → Prop) (hi : ∀ a b, S a → S b → γ a = γ b → a = b) : ∀ (l ns : List (List UInt8)), (∀ a ∈ l, S a) → (∀ a ∈ ns, S a) → (l.map γ).foldl addN (ns.map γ) = (l.foldl addN ns).map γ ∧ ∀ a ∈ l.foldl addN ns, S a
  | [], _, _, hn => ⟨rfl, hn⟩
  | x :: l, ns, hl, hn => by
    rw [List.map_cons, List.foldl_cons, List.foldl_cons]
    have hx := hl x (by simp)
    have e0 : addN (ns.map γ) (γ x) = (addN ns x).map γ := by
      unfold addN
      rw [idx_map γ x ns fun a ha => hi a x (hn a ha) hx, List.length_map]
      split
      · rfl
      · simp
    rw [e0]
    refine fold_map γ S hi l (addN ns x) (fun a ha => hl a (by simp [ha])) fun a ha => ?_
    unfold addN at ha
    split at ha
    · exact hn a ha
    · rcases List.mem_append.1 ha with ha | ha
      · exact hn a ha
      · rw [List.mem_singleton.1 ha]; exact hx
/-- Renamed one to one, a row has the same canonical row. -/
theorem can_map (g : Nd → Nd) (γ : List UInt8 → List UInt8) (L : List Nd) (h0 : ∀ nd ∈ L, nd.1 ≠ 2 → g nd = nd) (h2 : ∀ nd ∈ L, nd.1 = 2 → g nd = (2, γ nd.2.1, 0)) (hi : ∀ a b, a ∈ varsL L → b ∈ varsL L → γ a = γ b → a = b) : canL (L.map g) = canL L := by
  have hv : varsL (L.map g) = (varsL L).map γ := by
    have : ∀ M : List Nd, (∀ nd ∈ M, nd ∈ L) → varsL (M.map g) = (varsL M).map γ := fun M => by
      induction M with
      | nil => intro _; rfl
      | cons nd M ih =>
        intro hM
        rw [List.map_cons, varsL_cons, varsL_cons, ih fun x hx => hM x (by simp [hx])]
        by_cases h : nd.1 = 2
        · rw [if_pos h, h2 nd (hM nd (by simp)) h, if_pos rfl]
          rfl
        · rw [if_neg h, h0 nd (hM nd (by simp)) h, if_neg h]
    exact this L fun _ h => h
  have hf := fold_map γ (fun a => a ∈ varsL L) hi (varsL L) [] (fun a ha => ha) (fun a ha => (by cases ha))
  have hns : nsL (L.map g) = (nsL L).map γ := by
    unfold nsL
    rw [hv]
    exact hf.1
  have hsub : ∀ a ∈ nsL L, a ∈ varsL L := hf.2
  unfold canL
  rw [hns, List.map_map]
  apply List.map_congr_left
  intro nd hnd
  show canN ((nsL L).map γ) (g nd) = canN (nsL L) nd
  by_cases h : nd.1 = 2
  · rw [h2 nd hnd h]
    unfold canN
    rw [if_pos rfl, if_pos h]
    show ((2 : Int), letB (idxN ((nsL L).map γ) (γ nd.2.1)), 0) = _
    rw [idx_map γ nd.2.1 (nsL L) fun a ha => hi a _ (hsub a ha) (var_mem hnd h)]
  · rw [h0 nd hnd h]
    unfold canN
    rw [if_neg h, if_neg h]
/-- The canonical row of a canonical row. -/
theorem can_can (L : List Nd) (hl : L.length ≤ 500) : canL (canL L) = canL L := by
  refine can_map (canN (nsL L)) (fun n => letB (idxN (nsL L) n)) L (fun nd _ h => by unfold canN; rw [if_neg h]) (fun nd _ h => by unfold canN; rw [if_pos h]) fun a b ha hb h => ?_
  obtain ⟨na, ma, ea⟩ := List.mem_filterMap.1 ha
  obtain ⟨nb, mb, eb⟩ := List.mem_filterMap.1 hb
  have key : ∀ {n : Nd} {x : List UInt8}, n ∈ L → (if n.1 = 2 then some n.2.1 else none) = some x → idxN (nsL L) x < (nsL L).length := fun {n x} hn e => by
    by_cases h2 : n.1 = 2
    · rw [if_pos h2] at e
      rw [← Option.some.inj e]
      exact ns_mem hn h2
    · rw [if_neg h2] at e
      cases e
  have ia := key ma ea
  have ib := key mb eb
  have hn := ns_len L
  exact idx_eq ia ib (let_inj (by omega) (by omega) h)
/-- One canonical row: the one row is made of the other. -/
theorem can_make (La Lb : List Nd) (hb : VarOk Lb) (hla : La.length ≤ 500) (hlb : Lb.length ≤ 500) (h : canL La = canL Lb) : ∃ θ : List UInt8 → List Nd, (∀ n, ∃ (d : Nat) (u : Tn d), θ n = flat d u) ∧ subF (fun n => some (θ n)) La = Lb := by
  refine ⟨fun n => [(2, (nsL Lb).getD (idxN (nsL La) n) n, 0)], fun n => ⟨1, ((2, (nsL Lb).getD (idxN (nsL La) n) n), []), rfl⟩, ?_⟩
  have ha := ns_len La
  have hb' := ns_len Lb
  have key : ∀ (A B : List Nd), (∀ nd ∈ A, nd ∈ La) → (∀ nd ∈ B, nd ∈ Lb) → A.map (canN (nsL La)) = B.map (canN (nsL Lb)) → subF (fun n => some [(2, (nsL Lb).getD (idxN (nsL La) n) n, 0)]) A = B := fun A => by
    induction A with
    | nil =>
      intro B _ _ h
      cases B with
      | nil => rfl
      | cons b B => simp at h
    | cons a A ih =>
      intro B hA hB h
      cases B with
      | nil => simp at h
      | cons b B =>
        rw [List.map_cons, List.map_cons] at h
        injection h with h1 h2
        rw [subF_cons, ih B (fun x hx => hA x (by simp [hx])) (fun x hx => hB x (by simp [hx])) h2]
        by_cases ka : a.1 = 2
        · have ia := ns_mem (hA a (by simp)) ka
          by_cases kb : b.1 = 2
          · have ib := ns_mem (hB b (by simp)) kb
            unfold canN at h1
            rw [if_pos ka, if_pos kb] at h1
            have e1 : letB (idxN (nsL La) a.2.1) = letB (idxN (nsL Lb) b.2.1) := congrArg (fun x => x.2.1) h1
            have e2 := let_inj (by omega) (by omega) e1
            rw [if_pos ka]
            show [((2 : Int), (nsL Lb).getD (idxN (nsL La) a.2.1) a.2.1, 0)] ++ B = _
            rw [e2, idx_get _ _ _ ib]
            have e3 := hb b (hB b (by simp)) kb
            obtain ⟨bk, bn, bl⟩ := b
            have kb : bk = 2 := kb
            have e3 : bl = 0 := e3
            rw [kb, e3]
            rfl
          · exfalso
            unfold canN at h1
            rw [if_pos ka, if_neg kb] at h1
            exact kb (congrArg (fun x => x.1) h1).symm
        · by_cases kb : b.1 = 2
          · exfalso
            unfold canN at h1
            rw [if_neg ka, if_pos kb] at h1
            exact ka (congrArg (fun x => x.1) h1)
          · unfold canN at h1
            rw [if_neg ka, if_neg kb] at h1
            rw [if_neg ka, h1]
            rfl
  exact key La Lb (fun _ h => h) (fun _ h => h) h
/-- What stands in a node's place. -/
def pcF (σ : Sb) (nd : Nd) : List Nd := if nd.1 = 2 then (σ nd.2.1).getD [nd] else [nd]
/-- The first of it. -/
def hdF (σ : Sb) (nd : Nd) : Nd := (pcF σ nd).headD nd
theorem pc_pos {σ : Sb} (hσ : ∀ n r, σ n = some r → 0 < r.length) (nd : Nd) : 0 < (pcF σ nd).length := by
  unfold pcF
  split
  · cases e : σ nd.2.1 with
    | none => simp
    | some r => exact hσ _ r e
  · simp
theorem sub_long {σ : Sb} (hσ : ∀ n r, σ n = some r → 0 < r.length) : ∀ L : List Nd, L.length ≤ (subF σ L).length
  | [] => Nat.le_refl _
  | nd :: L => by
    have h1 := sub_long hσ L
    have h2 := pc_pos hσ nd
    rw [subF_cons, List.length_append, List.length_cons]
    show _ ≤ (pcF σ nd).length + _
    omega
theorem sub_each {σ : Sb} (hσ : ∀ n r, σ n = some r → 0 < r.length) : ∀ L : List Nd, (subF σ L).length = L.length → subF σ L = L.map (hdF σ)
  | [], _ => rfl
  | nd :: L, h => by
    have h1 := sub_long hσ L
    have h2 := pc_pos hσ nd
    rw [subF_cons, List.length_append, List.length_cons] at h
    have h : (pcF σ nd).length + (subF σ L).length = L.length + 1 := h
    rw [subF_cons, List.map_cons, sub_each hσ L (by omega)]
    show pcF σ nd ++ _ = _
    have h3 : (pcF σ nd).length = 1 := by omega
    obtain ⟨x, hx⟩ := List.length_eq_one_iff.1 h3
    have e : hdF σ nd = x := by unfold hdF; rw [hx]; rfl
    rw [e, hx]
    rfl
theorem map_self {α : Type} {f : α → α} : ∀ {L : List α}, L.map f = L → ∀ x ∈ L, f x = x
  | [], _, _, hx => by cases hx
  | a :: L, h, x, hx => by
    rw [List.map_cons] at h
    injection h with h1 h2
    rcases List.mem_cons.1 hx with rfl | hx
    · exact h1
    · exact map_self h2 x hx
/-- Each made of the other: one canonical row. -/
theorem sub_both {σ τ : Sb} (hσ : ∀ n r, σ n = some r → 0 < r.length) (hτ : ∀ n r, τ n = some r → 0 < r.length) {La Lb : List Nd} (ha : VarOk La) (hb : VarOk Lb) (h1 : subF σ La = Lb) (h2 : subF τ Lb = La) : canL La = canL Lb := by
  have l1 := sub_long hσ La
  have l2 := sub_long hτ Lb
  rw [h1] at l1
  rw [h2] at l2
  have g1 := sub_each hσ La (by rw [h1]; omega)
  have g2 := sub_each hτ Lb (by rw [h2]; omega)
  rw [h1] at g1
  rw [h2] at g2
  have hself : La.map (fun nd => hdF τ (hdF σ nd)) = La := by
    have e : La.map (fun nd => hdF τ (hdF σ nd)) = (La.map (hdF σ)).map (hdF τ) := by rw [List.map_map]; rfl
    rw [e, ← g1, ← g2]
  have hback : ∀ nd ∈ La, hdF τ (hdF σ nd) = nd := map_self hself
  have hg : ∀ nd ∈ La, hdF σ nd ∈ Lb := fun nd hnd => by rw [g1]; exact List.mem_map.2 ⟨nd, hnd, rfl⟩
  have hv : ∀ nd ∈ La, nd.1 = 2 → nd = (2, nd.2.1, 0) := fun nd hnd h => by
    have := ha nd hnd h
    obtain ⟨k, n, l⟩ := nd
    have h : k = 2 := h
    have this : l = 0 := this
    rw [h, this]
  have h2v : ∀ nd ∈ La, nd.1 = 2 → hdF σ nd = (2, (hdF σ (2, nd.2.1, 0)).2.1, 0) := fun nd hnd h => by
    have hb2 := hback nd hnd
    have hm := hg nd hnd
    rw [← hv nd hnd h]
    generalize hdF σ nd = y at hb2 hm
    by_cases hy : y.1 = 2
    · have := hb y hm hy
      obtain ⟨k, n, l⟩ := y
      have hy : k = 2 := hy
      have this : l = 0 := this
      rw [hy, this]
    · exfalso
      have e : hdF τ y = y := by
        unfold hdF pcF
        rw [if_neg hy]
        rfl
      have hb2 : hdF τ y = nd := hb2
      rw [e] at hb2
      exact hy (by rw [hb2]; exact h)
  have := can_map (hdF σ) (fun n => (hdF σ (2, n, 0)).2.1) La (fun nd _ h => by
      show hdF σ nd = nd
      unfold hdF pcF
      rw [if_neg h]
      rfl) h2v fun a b hav hbv h => by
    have key : ∀ {x : List UInt8}, x ∈ varsL La → (2, x, 0) ∈ La := fun {x} hx => by
      obtain ⟨nd, hnd, e⟩ := List.mem_filterMap.1 hx
      by_cases h : nd.1 = 2
      · rw [if_pos h] at e
        rw [← Option.some.inj e, ← hv nd hnd h]
        exact hnd
      · rw [if_neg h] at e
        cases e
    have ea := h2v _ (key hav) rfl
    have eb := h2v _ (key hbv) rfl
    have ba := hback _ (key hav)
    have bb := hback _ (key hbv)
    have eq : hdF σ (2, a, 0) = hdF σ (2, b, 0) := by
      rw [ea, eb]
      have h : (hdF σ (2, a, 0)).2.1 = (hdF σ (2, b, 0)).2.1 := h
      show ((2 : Int), (hdF σ (2, a, 0)).2.1, 0) = (2, (hdF σ (2, b, 0)).2.1, 0)
      rw [h]
    rw [eq, bb] at ba
    exact (congrArg (fun x : Nd => x.2.1) ba).symm
  rw [← g1] at this
  exact this.symm
end Go.Proofs.YthcejnpknjepfaaGreatDoor
