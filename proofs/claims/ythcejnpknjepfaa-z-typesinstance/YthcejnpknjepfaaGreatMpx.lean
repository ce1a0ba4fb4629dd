/- The reference's Instance: what it finds is what the program finds. The reference's Instance: its contract. -/
import Derived.Test.YthcejnpknjepfaaGreatSt
import Derived.Test.YthcejnpknjepfaaGreatMox
import Derived.Test.YthcejnpknjepfaaGreatMlx
namespace Go.Proofs.YthcejnpknjepfaaGreat
open Go.RowKit

theorem idx_find (n : List UInt8) : ∀ bs : List Bd, bs[idxN (bs.map (·.1)) n]? = bs.find? fun x => decide (x.1 = n)
  | [] => rfl
  | b :: bs => by
    rw [List.map_cons, idxN, List.find?_cons]
    by_cases h : b.1 = n
    · rw [if_pos h]
      simp [h]
    · rw [if_neg h, List.getElem?_cons_succ, idx_find n bs]
      simp [h]
/-- A row of bounds says what σ says. -/
def SaysB (bs : List Bd) (σ : Sb) : Prop := (bs.map (·.1)).Nodup ∧ ∀ n, σ n = (bdSays bs n).map fun u => flat u.1 u.2
theorem not_says {bs : List Bd} {n : List UInt8} (h : bs[idxN (bs.map (·.1)) n]? = none) : n ∉ bs.map (·.1) := fun hm => by
  rw [idx_find] at h
  obtain ⟨x, hx, e⟩ := List.mem_map.1 hm
  have := List.find?_eq_none.1 h x hx
  simp at this
  exact this e
theorem meets_fit : ∀ (d e : Nat) (bs : List Bd) (t : Tn d) (u : Tn e) (σ : Sb), SaysB bs σ → (fitT d t e u σ).2 = (meetsT d e bs t u).2 ∧ SaysB (meetsT d e bs t u).1 (fitT d t e u σ).1
  | 0, _, _, t, _, _, _ => t.elim
  | _ + 1, 0, _, _, u, _, _ => u.elim
  | d + 1, e + 1, bs, ((k, n), ts), ((k', n'), us), σ, hS => by
    generalize hR : fitT (d + 1) ((k, n), ts) (e + 1) ((k', n'), us) σ = R
    by_cases hk : k = 2
    · subst hk
      have hR : fitV σ n (flat (e + 1) ((k', n'), us)) = R := (fit_var d n ts e ((k', n'), us) σ).symm.trans hR
      subst hR
      unfold fitV
      cases hb : bs[idxN (bs.map (·.1)) n]? with
      | some b =>
        have hs : σ n = some (flat b.2.1 b.2.2) := by
          rw [hS.2 n, bdSays, ← idx_find, hb]
          rfl
        have hm : meetsT (d + 1) (e + 1) bs ((2, n), ts) ((k', n'), us) = (bs, decide (flat b.2.1 b.2.2 = flat (e + 1) ((k', n'), us))) := by
          rw [meetsT, if_pos rfl, hb]
        rw [hs, hm]
        exact ⟨rfl, hS⟩
      | none =>
        have hs : σ n = none := by
          rw [hS.2 n, bdSays, ← idx_find, hb]
          rfl
        have hn := not_says hb
        have hm : meetsT (d + 1) (e + 1) bs ((2, n), ts) ((k', n'), us) = (bs ++ [(n, ⟨e + 1, ((k', n'), us)⟩)], true) := by
          rw [meetsT, if_pos rfl, hb]
        rw [hs, hm]
        refine ⟨rfl, ?_, fun m => ?_⟩
        · show ((bs ++ [(n, (⟨e + 1, ((k', n'), us)⟩ : Sigma Tn))]).map (·.1)).Nodup
          rw [List.map_append, List.nodup_append]
          refine ⟨hS.1, by simp, fun a ha c hc => ?_⟩
          have : c = n := by simpa using hc
          rw [this]
          exact fun e => hn (e ▸ ha)
        · show (if m = n then some (flat (e + 1) ((k', n'), us)) else σ m) = (bdSays (bs ++ [(n, (⟨e + 1, ((k', n'), us)⟩ : Sigma Tn))]) m).map _
          rw [bdSays_snoc (x := (n, (⟨e + 1, ((k', n'), us)⟩ : Sigma Tn))) hn m]
          by_cases e0 : m = n
          · rw [if_pos e0, if_pos e0]
            rfl
          · rw [if_neg e0, if_neg e0]
            exact hS.2 m
    · by_cases hh : k = k' ∧ n = n'
      · obtain ⟨rfl, rfl⟩ := hh
        have hR : eqAll (fun s t u => fitT d t e u s) σ ts us = R := (fit_node d k n ts e us σ hk).symm.trans hR
        unfold eqAll at hR
        by_cases hl : ts.length = us.length
        · rw [if_pos hl] at hR
          subst hR
          have hm : meetsT (d + 1) (e + 1) bs ((k, n), ts) ((k, n), us) = meetsArgs (meetsT d e) bs ts us := by
            rw [meetsT, if_neg hk, if_pos ⟨rfl, rfl, hl⟩]
          rw [hm]
          have key : ∀ (ts : List (Tn d)) (us : List (Tn e)) (bs : List Bd) (σ : Sb), ts.length = us.length → SaysB bs σ → (eqGo (fun s t u => fitT d t e u s) σ ts us).2 = (meetsArgs (meetsT d e) bs ts us).2 ∧ SaysB (meetsArgs (meetsT d e) bs ts us).1 (eqGo (fun s t u => fitT d t e u s) σ ts us).1 := fun ts => by
            induction ts with
            | nil =>
              intro us bs σ hl hS
              cases us with
              | nil => exact ⟨rfl, hS⟩
              | cons u us => simp at hl
            | cons t ts ih =>
              intro us bs σ hl hS
              cases us with
              | nil => simp at hl
              | cons u us =>
                obtain ⟨a1, a2⟩ := meets_fit d e bs t u σ hS
                rw [eqGo, meetsArgs, ← a1]
                by_cases hok : (fitT d t e u σ).2 = true
                · rw [if_pos hok, if_pos hok]
                  exact ih us _ _ (by simpa using hl) a2
                · rw [if_neg hok, if_neg hok]
                  exact ⟨rfl, a2⟩
          exact key ts us bs σ hl hS
        · rw [if_neg hl] at hR
          subst hR
          have hm : meetsT (d + 1) (e + 1) bs ((k, n), ts) ((k, n), us) = (bs, false) := by
            rw [meetsT, if_neg hk, if_neg fun h => hl h.2.2]
          rw [hm]
          exact ⟨rfl, hS⟩
      · have hR : (σ, false) = R := (fit_no d k k' n n' ts e us σ hk hh).symm.trans hR
        subst hR
        have hm : meetsT (d + 1) (e + 1) bs ((k, n), ts) ((k', n'), us) = (bs, false) := by
          rw [meetsT, if_neg hk, if_neg fun h => hh ⟨h.1, h.2.1⟩]
        rw [hm]
        exact ⟨rfl, hS⟩
theorem says_of {bs : List Bd} (h : (bs.map (·.1)).Nodup) : ∀ x ∈ bs, bdSays bs x.1 = some x.2 := by
  induction bs with
  | nil => intro x hx; cases hx
  | cons b bs ih =>
    intro x hx
    rw [List.map_cons, List.nodup_cons] at h
    rw [bdSays_cons]
    rcases List.mem_cons.1 hx with rfl | hx
    · rw [if_pos rfl]
    · rw [if_neg (fun e => h.1 (by rw [e]; exact List.mem_map.2 ⟨x, hx, rfl⟩)), ih h.2 x hx]
/-- Two rows of bounds that say the same, in the order of their names, are the same. -/
theorem rows_one {al bs R : List Bd} {σ : Sb} {ks : List (List UInt8)} (hR : SaysB R σ) (hp : bs.Perm R) (hu : (bs.map (·.1)).Pairwise fun a b => leB a b = true) (k1 : ks.Nodup) (k3 : ∀ k, k ∈ ks ↔ (σ k).isSome = true) (k4 : al.map (·.1) = ks.mergeSort leB) (k5 : ∀ x ∈ al, σ x.1 = some (flat x.2.1 x.2.2)) : al.map bdF = bs.map bdF := by
  have hmem : ∀ n, n ∈ R.map (·.1) ↔ (σ n).isSome = true := fun n => by
    rw [hR.2 n]
    constructor
    · intro h
      obtain ⟨x, hx, rfl⟩ := List.mem_map.1 h
      rw [says_of hR.1 x hx]
      rfl
    · intro h
      cases e : bdSays R n with
      | none => rw [e] at h; cases h
      | some u =>
        unfold bdSays at e
        obtain ⟨x, hx, _⟩ := Option.map_eq_some_iff.1 e
        exact List.mem_map.2 ⟨x, List.mem_of_find?_eq_some hx, by simpa using List.find?_some hx⟩
  have hperm : (bs.map (·.1)).Perm ks := (hp.map _).trans ((List.perm_ext_iff_of_nodup hR.1 k1).2 fun n => by rw [hmem n, k3 n])
  have hnames : al.map (·.1) = bs.map (·.1) := by
    rw [k4]
    have tr : ∀ a b c : List UInt8, leB a b = true → leB b c = true → leB a c = true := fun a b c h1 h2 => le_tr h1 h2
    have tot : ∀ a b : List UInt8, (leB a b || leB b a) = true := fun a b => by simp only [leB, Bool.or_eq_true, decide_eq_true_eq]; exact List.le_total a b
    refine List.Perm.eq_of_pairwise (le := fun a b => leB a b = true) (fun a b _ _ h1 h2 => ?_) (List.pairwise_mergeSort tr tot ks) hu ((List.mergeSort_perm ks leB).trans hperm.symm)
    simp only [leB, decide_eq_true_eq] at h1 h2
    exact List.le_antisymm h1 h2
  have h1 : ∀ l : List Bd, (∀ x ∈ l, σ x.1 = some (flat x.2.1 x.2.2)) → l.map bdF = (l.map (·.1)).map fun n => (n, (σ n).getD []) := fun l => by
    induction l with
    | nil => intro _; rfl
    | cons a l ih =>
      intro h
      rw [List.map_cons, List.map_cons, List.map_cons, ih fun x hx => h x (by simp [hx]), h a (by simp)]
      rfl
  rw [h1 al k5, h1 bs fun x hx => by rw [hR.2, says_of hR.1 x (hp.mem_iff.1 hx)]; rfl, hnames]
theorem fit_in : ∀ (d : Nat) (t : Tn d) (e : Nat) (u : Tn e) (σ : Sb) (n : List UInt8), ((fitT d t e u σ).1 n).isSome = true → (σ n).isSome = true ∨ n ∈ namesT d t
  | 0, t, _, _, _, _, _ => t.elim
  | _ + 1, _, 0, u, _, _, _ => u.elim
  | d + 1, ((k, m), ts), e + 1, ((k', m'), us), σ, n, h => by
    by_cases hk : k = 2
    · subst hk
      have h : ((fitV σ m (flat (e + 1) ((k', m'), us))).1 n).isSome = true := by rw [← fit_var d m ts e ((k', m'), us) σ]; exact h
      rw [names_var]
      unfold fitV at h
      cases hm : σ m with
      | none =>
        rw [hm] at h
        have h : (if n = m then some (flat (e + 1) ((k', m'), us)) else σ n).isSome = true := h
        by_cases hn : n = m
        · exact .inr (by rw [hn]; simp)
        · rw [if_neg hn] at h
          exact .inl h
      | some r' =>
        rw [hm] at h
        exact .inl h
    · rw [names_node _ _ _ _ hk]
      by_cases hh : k = k' ∧ m = m'
      · obtain ⟨rfl, rfl⟩ := hh
        have h : ((eqAll (fun s t u => fitT d t e u s) σ ts us).1 n).isSome = true := by rw [← fit_node d k m ts e us σ hk]; exact h
        unfold eqAll at h
        split at h
        · have key : ∀ (ts : List (Tn d)) (us : List (Tn e)) (σ : Sb), ((eqGo (fun s t u => fitT d t e u s) σ ts us).1 n).isSome = true → (σ n).isSome = true ∨ n ∈ ts.flatMap (namesT d) := fun ts => by
            induction ts with
            | nil =>
              intro us σ h
              cases us with
              | nil => exact .inl h
              | cons u us => exact .inl h
            | cons t ts ih =>
              intro us σ h
              cases us with
              | nil => exact .inl h
              | cons u us =>
                rw [eqGo] at h
                rw [List.flatMap_cons]
                split at h
                · rcases ih us _ h with h | h
                  · rcases fit_in d t e u σ n h with h | h
                    · exact .inl h
                    · exact .inr (List.mem_append.2 (.inl h))
                  · exact .inr (List.mem_append.2 (.inr h))
                · rcases fit_in d t e u σ n h with h | h
                  · exact .inl h
                  · exact .inr (List.mem_append.2 (.inl h))
          exact key ts us σ h
        · exact .inl h
      · have h : (((σ, false) : Sb × Bool).1 n).isSome = true := by rw [← fit_no d k k' m m' ts e us σ hk hh]; exact h
        exact .inl h
/-- Bounds that can be read: the row's cells and the trees they lead to. -/
theorem Oc.at {w : World} {lo : Nat} {v : Value} {qs : List Be} (h : Oc w lo v qs) (hl : qs.length < 140737488355328) (hn : ∀ q ∈ qs, (nmB q).length < 140737488355328) (hT : ∀ q ∈ qs, ∃ ad len cap, q.2.2.2 = .slice ad len cap ∧ TyAt w w.heap.size q.1.2.1 (elV q.2) q.1.2.2) : BdAt w w.heap.size v (qs.map (·.1)) := by
  by_cases h0 : 0 < qs.length
  · obtain ⟨g, cap, hv, _, hg, hc, hcl⟩ := Oc.cells h h0
    refine ⟨_, cap, by rw [hv, List.length_map], by rw [List.length_map]; exact hl, fun _ => ⟨g, 0, rfl, by rw [List.length_map]; exact hc, hg, fun j hj => ?_⟩⟩
    have hj' : j < qs.length := by simpa using hj
    have e0 : (qs.map (·.1))[j] = qs[j].1 := List.getElem_map _
    obtain ⟨ad, len, cp, e1, hTj⟩ := hT qs[j] (List.getElem_mem hj')
    obtain ⟨m0, m1, m2, m3⟩ := hcl j hj'
    rw [e0]
    refine ⟨hn qs[j] (List.getElem_mem hj'), qs[j].2.1, qs[j].2.2.1, ad, len, cp, fun w' hb => ?_, ?_⟩
    · rw [Nat.zero_add]
      rw [e1] at m3
      exact ⟨(hb.cell (p := ⟨g, j * 4, none⟩) hg).trans m0, (hb.cell (p := ⟨g, j * 4 + 1, none⟩) hg).trans m1, (hb.cell (p := ⟨g, j * 4 + 2, none⟩) hg).trans m2, (hb.cell (p := ⟨g, j * 4 + 3, none⟩) hg).trans m3⟩
    · rw [← e1]
      exact hTj
  · have e : qs = [] := List.length_eq_zero_iff.1 (by omega)
    subst e
    rcases h.2 with ⟨h1, _⟩ | ⟨g, cap, cur, h1, _⟩
    · exact ⟨none, 0, h1, by simp, fun q => absurd rfl q⟩
    · exact ⟨_, cap, h1, by simp, fun q => absurd rfl q⟩
end Go.Proofs.YthcejnpknjepfaaGreat

namespace Go.Proofs.YthcejnpknjepfaaGreat
open Go.RowKit

/-- What the reference's Instance answers. -/
def InstRef (w : World) (d : Nat) (t : Tn d) (e : Nat) (u : Tn e) (r : Ending) (w' : World) : Prop :=
  Below w.heap.size w w' ∧ ∃ (va : Option Addr) (vl vc : Nat) (bs : List Bd),
    r = .returned (.tuple #[.slice va vl vc, .bool (decide (wrongs [⟨d, t⟩, ⟨e, u⟩] = 0) && (instR d t e u).2), .int .i64 (wrongs [⟨d, t⟩, ⟨e, u⟩])]) ∧ BdAt w' w'.heap.size (.slice va vl vc) bs ∧
    (((decide (wrongs [⟨d, t⟩, ⟨e, u⟩] = 0) && (instR d t e u).2) = false ∧ bs = []) ∨
     ((decide (wrongs [⟨d, t⟩, ⟨e, u⟩] = 0) && (instR d t e u).2) = true ∧ ∃ R : List Bd, SaysB R (instR d t e u).1 ∧ bs.Perm R ∧ (bs.map (·.1)).Pairwise fun a b => leB a b = true))
theorem BdAt.empty (w : World) (B : Nat) : BdAt w B (.slice none 0 0) [] := ⟨none, 0, rfl, by simp, fun h => absurd rfl h⟩
set_option maxHeartbeats 16000000 in
set_option maxRecDepth 10000 in
theorem inst_ref (d : Nat) (t : Tn d) (e : Nat) (u : Tn e) (x y : Value) (w : World) (hx : TyAt w w.heap.size d x t) (hy : TyAt w w.heap.size e y u) (hN : (flat d t).length ≤ 4194304) (hM : (flat e u).length ≤ 4194304) :
    Calls Tryz.prog 14 #[x, y] w (InstRef w d t e u) := by
  obtain ⟨k, n, ad, len, cap, rfl⟩ := tree_form hx
  obtain ⟨k', n', ad', len', cap', rfl⟩ := tree_form hy
  obtain ⟨W, hW⟩ : ∃ W, W = (w.alloc (Obj.cells #[.int .i64 k, .string n, .slice ad len cap] 25)).alloc (Obj.cells #[.int .i64 k', .string n', .slice ad' len' cap'] 25) := ⟨_, rfl⟩
  have hbW : Below w.heap.size w W := by rw [hW]; exact ((Below.refl _ _).alloc (Nat.le_refl _) _).alloc (by simp) _
  have hsW : W.heap.size = w.heap.size + 2 := by rw [hW]; simp
  have x1 : W.heap[w.heap.size]? = some (.cells #[.int .i64 k, .string n, .slice ad len cap] 25 (0, 0)) := by
    rw [hW, Below.heap_alloc _ _ _ (by simp)]
    show (w.heap.push _)[w.heap.size]? = _
    simp
  have x2 : W.heap[w.heap.size + 1]? = some (.cells #[.int .i64 k', .string n', .slice ad' len' cap'] 25 (0, 0)) := by
    rw [hW]
    show ((w.heap.push _).push _)[w.heap.size + 1]? = _
    rw [Array.getElem?_push, if_pos (by simp)]
  have HX : Hid (∀ w1, Below W.heap.size W w1 → Below w.heap.size w w1 ∧ w1.heap[w.heap.size]? = some (.cells #[.int .i64 k, .string n, .slice ad len cap] 25 (0, 0)) ∧ w1.heap[w.heap.size + 1]? = some (.cells #[.int .i64 k', .string n', .slice ad' len' cap'] 25 (0, 0))) := fun w1 hb => ⟨hbW.trans (hb.mono (by omega)), (hb.block _ (lt_of_heap x1)).trans x1, (hb.block _ (lt_of_heap x2)).trans x2⟩
  have C1 := wrong_any d _ t W w.heap.size hbW.size (hx.on hbW) hN
  have C2 : Hid (∀ w1, Below W.heap.size W w1 → Calls Tryz.prog 34 #[.agg #[.int .i64 k', .string n', .slice ad' len' cap']] w1 fun r w' => r = .returned (.int .i64 (wrongT e u)) ∧ Below W.heap.size W w') := fun w1 h1 => by
    have hb : Below w.heap.size w w1 := hbW.trans (h1.mono (by omega))
    refine Calls.mono (wrong_any e _ u w1 w.heap.size hb.size (hy.on hb) hM) ?_
    rintro r w' ⟨rfl, hb2⟩
    exact ⟨rfl, h1.trans (hb2.mono h1.size)⟩
  obtain ⟨p0, p1, p2⟩ := heap_cells x1
  have hws : wrongs [⟨d, t⟩, ⟨e, u⟩] = if wrongT d t = 0 then wrongT e u else wrongT d t := by
    unfold wrongs
    split
    · unfold wrongs
      split
      · rename_i h; rw [h]; rfl
      · rfl
    · rfl
  unfold InstRef
  rw [hws]
  by_cases h1 : wrongT d t = 0
  · rw [if_pos h1]
    rw [h1] at C1
    by_cases h2 : wrongT e u = 0
    · rw [h2] at C2 ⊢
      simp only [decide_true, Bool.true_and]
      obtain ⟨hF, hS⟩ := wrong_zero h1
      obtain ⟨hG, hT⟩ := wrong_zero h2
      have hmf := meets_fit d e [] t u (fun _ => none) ⟨List.nodup_nil, fun n => rfl⟩
      have hmf2 : (instR d t e u).2 = (meetsT d e [] t u).2 := hmf.1
      have hmf3 : SaysB (meetsT d e [] t u).1 (instR d t e u).1 := hmf.2
      have hlen := meetsT_len d e [] t u
      have HR : Hid (SaysB (meetsT d e [] t u).1 (instR d t e u).1 ∧ (meetsT d e [] t u).1.length ≤ 500 ∧ ∀ x ∈ (meetsT d e [] t u).1, x.1.length < 140737488355328) := by
        refine ⟨hmf3, by simp at hlen; omega, fun x hx' => ?_⟩
        have h3 : ((instR d t e u).1 x.1).isSome = true := by
          rw [hmf3.2, says_of hmf3.1 x hx']
          rfl
        rcases fit_in d t e u (fun _ => none) x.1 h3 with h | h
        · cases h
        · exact names_short d _ t hx x.1 h
      rw [hmf2]
      have CM : Hid (∀ w2, Below W.heap.size W w2 → Calls Tryz.prog 35 #[.slice none 0 0, .agg #[.int .i64 k, .string n, .slice ad len cap], .agg #[.int .i64 k', .string n', .slice ad' len' cap']] w2 (MtPost w2 w2.heap.size (.slice none 0 0) (meetsT d e [] t u))) := fun w2 hb2 => by
        have hb : Below w.heap.size w w2 := hbW.trans (hb2.mono (by omega))
        exact meets_any d e (.slice none 0 0) _ _ t u [] w2 w.heap.size w2.heap.size hb.size (Nat.le_refl _) (hx.on hb) (hy.on hb) (Ob.nil _ _) (by simp; omega) hM
      generalize meetsT d e [] t u = R at *
      clear hmf hmf2 hmf3 hlen hF hS hG hT h1 h2 hws hx hy hN hM
      cases hR : R.2 with
      | false =>
        go_enter Tryz.func14, Tryz.ntmps14
        go_upto_region 1 with fail
        rw [← hW]
        generalize hz : w.heap.size = z at p0 p1 p2 ⊢
        have HZ : Hid (w.heap.size = z) := hz
        clear hW hz
        go_wp2_with (first
          | (go_at_call 34; (with_reducible refine Calls.mono C1 ?_); rintro e' w1 ⟨rfl, hb1⟩; obtain ⟨hB1, y1, y2⟩ := HX.out w1 hb1; rw [HZ.out] at y2; obtain ⟨q0, q1, q2⟩ := heap_cells y2; have CC2 := C2.out w1 hb1)
          | (go_at_call 34; (with_reducible refine Calls.mono CC2 ?_); rintro e' w2 ⟨rfl, hb2⟩; obtain ⟨hB2, yy1, yy2⟩ := HX.out w2 hb2; rw [HZ.out] at yy1 yy2; obtain ⟨r0, r1, r2⟩ := heap_cells yy1; obtain ⟨s0, s1, s2⟩ := heap_cells yy2; have CC3 := CM.out w2 hb2)
          | (go_at_call 35; (with_reducible refine Calls.mono CC3 ?_); intro e' w3 hp; obtain ⟨mad, mcap, ps, hps, rfl, hOb, hgr, _⟩ := hp; rw [hR]))
        refine bodyPost_ret (v := .tuple #[.slice none 0 0, .bool false, .int .i64 0]) (by simp [results, Tryz.results14, go_sem]) rfl ?_
        have hb3 : Below w.heap.size w w3 := hB2.grown hgr hB2.size (fun g e => by cases e)
        exact ⟨hb3, none, 0, 0, [], rfl, BdAt.empty _ _, .inl ⟨trivial, rfl⟩⟩
      | true =>
        go_enter Tryz.func14, Tryz.ntmps14
        go_upto_region 1 with fail
        rw [← hW]
        generalize hz : w.heap.size = z at p0 p1 p2 ⊢
        have HZ : Hid (w.heap.size = z) := hz
        clear hW hz
        go_wp2_with (first
          | (go_at_call 34; (with_reducible refine Calls.mono C1 ?_); rintro e' w1 ⟨rfl, hb1⟩; obtain ⟨hB1, y1, y2⟩ := HX.out w1 hb1; rw [HZ.out] at y2; obtain ⟨q0, q1, q2⟩ := heap_cells y2; have CC2 := C2.out w1 hb1)
          | (go_at_call 34; (with_reducible refine Calls.mono CC2 ?_); rintro e' w2 ⟨rfl, hb2⟩; obtain ⟨hB2, yy1, yy2⟩ := HX.out w2 hb2; rw [HZ.out] at yy1 yy2; obtain ⟨r0, r1, r2⟩ := heap_cells yy1; obtain ⟨s0, s1, s2⟩ := heap_cells yy2; have CC3 := CM.out w2 hb2)
          | (go_at_call 35; (with_reducible refine Calls.mono CC3 ?_); intro e' w3 hp; obtain ⟨mad, mcap, ps, hps, rfl, hOb, hgr, _⟩ := hp; rw [hR])
          | (have hlp : ps.length ≤ 500 := by have h9 := HR.out.2.1; rw [← hps, List.length_map] at h9; exact h9
             have hnp : (ps.map nmB).Nodup := by have h9 := HR.out.1.1; rw [← hps, List.map_map] at h9; exact h9
             have hsp : ∀ p ∈ ps, ∃ ad len cap, p.2.2.2 = Value.slice ad len cap := fun p hp => by
               obtain ⟨j, hj, rfl⟩ := List.getElem_of_mem hp
               exact TyS.slice (hOb.each j hj)
             go_at_call 36; (with_reducible refine Calls.mono (sorted_any w2.heap.size (.slice mad ps.length mcap) ps w3 hOb.own hlp hnp hsp) ?_); intro e' w4 hp; obtain ⟨hb4, v4, qs, rfl, hOc, hperm, hup⟩ := hp; obtain ⟨fa, fc, rfl⟩ : ∃ fa fc, v4 = Value.slice fa qs.length fc := (by rcases id hOc.2 with ⟨h1, h2⟩ | ⟨g, cap, cur, h1, _⟩; exact ⟨none, 0, by rw [h1, h2]⟩; exact ⟨_, cap, h1⟩)))
        refine bodyPost_ret (v := .tuple #[.slice fa qs.length fc, .bool true, .int .i64 0]) (by simp [results, Tryz.results14, go_sem]) rfl ?_
        have hb3 : Below w.heap.size w w3 := hB2.grown hgr hB2.size (fun g e => by cases e)
        have hql : qs.length ≤ 500 := by rw [hperm.length_eq]; exact hlp
        have hqm : ∀ q ∈ qs, q.1 ∈ R.1 := fun q hq => by rw [← hps]; exact List.mem_map.2 ⟨q, hperm.mem_iff.1 hq, rfl⟩
        refine ⟨hb3.trans (hb4.mono hb3.size), fa, qs.length, fc, qs.map (·.1), rfl, Oc.at hOc (by omega) (fun q hq => HR.out.2.2 q.1 (hqm q hq)) (fun q hq => ?_), .inr ⟨trivial, R.1, HR.out.1, ?_, ?_⟩⟩
        · obtain ⟨j, hj, rfl⟩ := List.getElem_of_mem (hperm.mem_iff.1 hq)
          obtain ⟨ad9, len9, cap9, e9⟩ := TyS.slice (hOb.each j hj)
          exact ⟨ad9, len9, cap9, e9, TyAt.below hb4 hb4.size _ _ _ (TyS.at (B := w3.heap.size) (fun g q => q.2.1) _ _ _ (hOb.each j hj))⟩
        · rw [← hps]
          exact hperm.map _
        · rw [List.map_map]
          exact hup
    · have hd : decide (wrongT e u = 0) = false := by simpa using h2
      rw [hd]
      simp only [Bool.false_and]
      generalize wrongT e u = E at *
      have hneb : (E != 0) = true := by simpa using h2
      clear hx hy hN hM h2 hd hws
      go_enter Tryz.func14, Tryz.ntmps14
      go_upto_region 1 with fail
      rw [← hW]
      generalize hz : w.heap.size = z at p0 p1 p2 ⊢
      have HZ : Hid (w.heap.size = z) := hz
      clear hW hz
      go_wp2_with (first
        | (go_at_call 34; (with_reducible refine Calls.mono C1 ?_); rintro e' w1 ⟨rfl, hb1⟩; obtain ⟨hB1, y1, y2⟩ := HX.out w1 hb1; rw [HZ.out] at y2; obtain ⟨q0, q1, q2⟩ := heap_cells y2; have CC2 := C2.out w1 hb1)
        | (go_at_call 34; (with_reducible refine Calls.mono CC2 ?_); rintro e' w2 ⟨rfl, hb2⟩; obtain ⟨hB2, yy1, yy2⟩ := HX.out w2 hb2))
      refine bodyPost_ret (v := .tuple #[.slice none 0 0, .bool false, .int .i64 E]) (by simp [results, Tryz.results14, go_sem]) rfl ?_
      exact ⟨hB2, none, 0, 0, [], rfl, BdAt.empty _ _, .inl ⟨trivial, rfl⟩⟩
  · rw [if_neg h1]
    have hd : decide (wrongT d t = 0) = false := by simpa using h1
    rw [hd]
    simp only [Bool.false_and]
    generalize wrongT d t = E at *
    have hneb : (E != 0) = true := by simpa using h1
    clear hx hy hN hM h1 hd hws C2
    go_enter Tryz.func14, Tryz.ntmps14
    go_upto_region 1 with fail
    rw [← hW]
    generalize hz : w.heap.size = z at p0 p1 p2 ⊢
    have HZ : Hid (w.heap.size = z) := hz
    clear hW hz
    go_wp2_with (go_at_call 34; (with_reducible refine Calls.mono C1 ?_); rintro e' w1 ⟨rfl, hb1⟩; obtain ⟨hB1, y1, y2⟩ := HX.out w1 hb1)
    refine bodyPost_ret (v := .tuple #[.slice none 0 0, .bool false, .int .i64 E]) (by simp [results, Tryz.results14, go_sem]) rfl ?_
    exact ⟨hB1, none, 0, 0, [], rfl, BdAt.empty _ _, .inl ⟨trivial, rfl⟩⟩
end Go.Proofs.YthcejnpknjepfaaGreat
