/- The program's graph of types, plain: what its nodes stand for, and how that turns when one is led to another. Nothing of the program stands here. The rounds of agree, plain: what waits, and what comes of each. Pairs one behind the other, plain. A walk through the graph that looks for a variable, plain. How many variables lead nowhere, plain. How many tasks wait, plain. Rows of nodes that may be: what is bound is made of such. -/
import Derived.Test.YtikpipenhamdbaaMnx
namespace Go.Proofs.Ytikpipenhamdbaa

theorem mem_long (dn : Nat → List Nd) : ∀ (aL : List Nat) (a : Nat), a ∈ aL → (dn a).length ≤ (aL.flatMap dn).length
  | [], _, h => by simp at h
  | b :: aL, a, h => by
    rw [List.flatMap_cons, List.length_append]
    rcases List.mem_cons.1 h with e | e
    · rw [e]
      omega
    · have := mem_long dn aL a e
      omega
theorem eats_all (dn : Nat → List Nd) : ∀ aL : List Nat, (∀ a ∈ aL, eats 1 (dn a) = true ∧ vok (dn a)) → eats aL.length (aL.flatMap dn) = true ∧ vok (aL.flatMap dn)
  | [], _ => ⟨rfl, vok_nil⟩
  | a :: aL, h => by
    obtain ⟨h1, h2⟩ := eats_all dn aL fun b hb => h b (List.mem_cons_of_mem _ hb)
    obtain ⟨h3, h4⟩ := h a List.mem_cons_self
    rw [List.flatMap_cons, List.length_cons, Nat.add_comm]
    exact ⟨eats_app _ _ _ _ h3 h1, vok_app.2 ⟨h4, h2⟩⟩
theorem flat_same {dn dn' : Nat → List Nd} : ∀ aL : List Nat, (∀ a ∈ aL, dn' a = dn a) → aL.flatMap dn' = aL.flatMap dn
  | [], _ => rfl
  | a :: aL, h => by
    rw [List.flatMap_cons, List.flatMap_cons, h a List.mem_cons_self, flat_same aL fun b hb => h b (List.mem_cons_of_mem _ hb)]
theorem subF_flat (σ : Sb) (dn : Nat → List Nd) : ∀ aL : List Nat, aL.flatMap (fun k => subF σ (dn k)) = subF σ (aL.flatMap dn)
  | [] => rfl
  | a :: aL => by rw [List.flatMap_cons, List.flatMap_cons, subF_app, subF_flat σ dn aL]
/-- A function that says something else at one place. -/
def putN (f : Nat → Nat) (i t : Nat) : Nat → Nat := fun j => if j = i then t else f j
theorem putN_self (f : Nat → Nat) (i t : Nat) : putN f i t i = t := if_pos rfl
theorem putN_other (f : Nat → Nat) {i j : Nat} (t : Nat) (h : j ≠ i) : putN f i t j = f j := if_neg h
/-- What the nodes of a graph stand for: dn; where they lead at last: rt; the way there grows less: rk. -/
structure Den (n : Nat) (lb : Nat → Int × List UInt8) (ar : Nat → List Nat) (tg : Nat → Nat) (dn : Nat → List Nd) (rt rk : Nat → Nat) : Prop where
  arg : ∀ i, i < n → ∀ a ∈ ar i, a < n
  tow : ∀ i, i < n → tg i < n
  root : ∀ i, i < n → tg i = i → rt i = i ∧ dn i = ((lb i).1, (lb i).2, (ar i).length) :: (ar i).flatMap dn
  link : ∀ i, i < n → tg i ≠ i → rt i = rt (tg i) ∧ dn i = dn (tg i) ∧ rk (tg i) < rk i
  var : ∀ i, i < n → (lb i).1 = 2 → ar i = []
  uni : ∀ i j, i < n → j < n → (lb i).1 = 2 → (lb j).1 = 2 → (lb i).2 = (lb j).2 → i = j
section
variable {n : Nat} {lb : Nat → Int × List UInt8} {ar : Nat → List Nat} {tg : Nat → Nat} {dn : Nat → List Nd} {rt rk : Nat → Nat}
theorem Den.end_ok (h : Den n lb ar tg dn rt rk) : ∀ (k i : Nat), i < n → rk i ≤ k → rt i < n ∧ tg (rt i) = rt i ∧ dn (rt i) = dn i ∧ rk (rt i) ≤ rk i
  | k, i, hi, hk => by
    by_cases ht : tg i = i
    · rw [(h.root i hi ht).1]
      exact ⟨hi, ht, rfl, Nat.le_refl _⟩
    · obtain ⟨h1, h2, h3⟩ := h.link i hi ht
      cases k with
      | zero => omega
      | succ k =>
        obtain ⟨g1, g2, g3, g4⟩ := h.end_ok k (tg i) (h.tow i hi) (by omega)
        rw [h1]
        exact ⟨g1, g2, g3.trans h2.symm, by omega⟩
theorem Den.rt_lt (h : Den n lb ar tg dn rt rk) {i : Nat} (hi : i < n) : rt i < n := (h.end_ok _ i hi (Nat.le_refl _)).1
theorem Den.rt_tg (h : Den n lb ar tg dn rt rk) {i : Nat} (hi : i < n) : tg (rt i) = rt i := (h.end_ok _ i hi (Nat.le_refl _)).2.1
theorem Den.rt_dn (h : Den n lb ar tg dn rt rk) {i : Nat} (hi : i < n) : dn (rt i) = dn i := (h.end_ok _ i hi (Nat.le_refl _)).2.2.1
theorem Den.rt_rt (h : Den n lb ar tg dn rt rk) {i : Nat} (hi : i < n) : rt (rt i) = rt i := (h.root _ (h.rt_lt hi) (h.rt_tg hi)).1
/-- What a node stands for, by the node that it leads to. -/
theorem Den.form (h : Den n lb ar tg dn rt rk) {i : Nat} (hi : i < n) : dn i = ((lb (rt i)).1, (lb (rt i)).2, (ar (rt i)).length) :: (ar (rt i)).flatMap dn := by
  rw [← h.rt_dn hi]
  exact (h.root _ (h.rt_lt hi) (h.rt_tg hi)).2
theorem Den.less (h : Den n lb ar tg dn rt rk) {i : Nat} (hi : i < n) {a : Nat} (ha : a ∈ ar (rt i)) : (dn a).length < (dn i).length := by
  rw [h.form hi, List.length_cons]
  have := mem_long dn _ a ha
  omega
theorem Den.argr (h : Den n lb ar tg dn rt rk) {i : Nat} (hi : i < n) {a : Nat} (ha : a ∈ ar (rt i)) : a < n := h.arg _ (h.rt_lt hi) a ha
theorem Den.tree_of (h : Den n lb ar tg dn rt rk) : ∀ (L i : Nat), i < n → (dn i).length ≤ L → eats 1 (dn i) = true ∧ vok (dn i)
  | L, i, hi, hL => by
    cases L with
    | zero =>
      rw [h.form hi] at hL
      simp at hL
    | succ L =>
      obtain ⟨h1, h2⟩ := eats_all dn (ar (rt i)) fun a ha => h.tree_of L a (h.argr hi ha) (by have := h.less hi ha; omega)
      rw [h.form hi]
      refine ⟨?_, vok_cons.2 ⟨fun e => ?_, h2⟩⟩
      · show eats (0 + (ar (rt i)).length) _ = true
        rw [Nat.zero_add]
        exact h1
      · have e : (lb (rt i)).1 = 2 := e
        show (ar (rt i)).length = 0
        rw [h.var _ (h.rt_lt hi) e]
        rfl
theorem Den.tree (h : Den n lb ar tg dn rt rk) {i : Nat} (hi : i < n) : eats 1 (dn i) = true := (h.tree_of _ i hi (Nat.le_refl _)).1
theorem Den.vok (h : Den n lb ar tg dn rt rk) {i : Nat} (hi : i < n) : vok (dn i) := (h.tree_of _ i hi (Nat.le_refl _)).2
theorem Den.trees (h : Den n lb ar tg dn rt rk) {aL : List Nat} (ha : ∀ a ∈ aL, a < n) : eats aL.length (aL.flatMap dn) = true ∧ Go.Proofs.Ytikpipenhamdbaa.vok (aL.flatMap dn) := eats_all dn aL fun a q => ⟨h.tree (ha a q), h.vok (ha a q)⟩
/-- A variable that leads nowhere. -/
theorem Den.free (h : Den n lb ar tg dn rt rk) {i : Nat} (hi : i < n) (hv : (lb (rt i)).1 = 2) : dn i = [(2, (lb (rt i)).2, 0)] := by
  rw [h.form hi, h.var _ (h.rt_lt hi) hv, hv]
  rfl
/-- Where a variable stands in what a node stands for, some node is it. -/
theorem Den.mem_of (h : Den n lb ar tg dn rt rk) (x : List UInt8) : ∀ (L i : Nat), i < n → (dn i).length ≤ L → ((2, x, 0) : Nd) ∈ dn i → ∃ v, v < n ∧ tg v = v ∧ (lb v).1 = 2 ∧ (lb v).2 = x ∧ (rt i = v ∨ ∃ j a, j < n ∧ a ∈ ar j ∧ rt a = v)
  | L, i, hi, hL, hm => by
    cases L with
    | zero =>
      rw [h.form hi] at hL
      simp at hL
    | succ L =>
      rw [h.form hi] at hm
      rcases List.mem_cons.1 hm with e | e
      · injection e with e1 e2
        injection e2 with e2 e3
        exact ⟨rt i, h.rt_lt hi, h.rt_tg hi, e1.symm, e2.symm, .inl rfl⟩
      · obtain ⟨a, ha, e⟩ := List.mem_flatMap.1 e
        have hl := h.less hi ha
        obtain ⟨v, h1, h2, h3, h4, h5⟩ := h.mem_of x L a (h.argr hi ha) (by omega) e
        refine ⟨v, h1, h2, h3, h4, .inr ?_⟩
        rcases h5 with h5 | h5
        · exact ⟨rt i, a, h.rt_lt hi, ha, h5⟩
        · exact h5
theorem Den.mem (h : Den n lb ar tg dn rt rk) {x : List UInt8} {i : Nat} (hi : i < n) (hm : ((2, x, 0) : Nd) ∈ dn i) : ∃ v, v < n ∧ tg v = v ∧ (lb v).1 = 2 ∧ (lb v).2 = x ∧ (rt i = v ∨ ∃ j a, j < n ∧ a ∈ ar j ∧ rt a = v) := h.mem_of x _ i hi (Nat.le_refl _) hm
/-- Two nodes that lead to one stand for one. -/
theorem Den.one_rt (h : Den n lb ar tg dn rt rk) {i j : Nat} (hi : i < n) (hj : j < n) (e : rt i = rt j) : dn i = dn j := by rw [← h.rt_dn hi, ← h.rt_dn hj, e]
/-- A way grows shorter. -/
theorem Den.half (h : Den n lb ar tg dn rt rk) {i : Nat} (hi : i < n) (ht : tg i ≠ i) : Den n lb ar (putN tg i (tg (tg i))) dn rt rk := by
  have h2 := h.tow i hi
  obtain ⟨g1, g2, g3⟩ := h.link i hi ht
  have key : rt (tg i) = rt (tg (tg i)) ∧ dn (tg i) = dn (tg (tg i)) ∧ rk (tg (tg i)) ≤ rk (tg i) := by
    by_cases e : tg (tg i) = tg i
    · rw [e]
      exact ⟨rfl, rfl, Nat.le_refl _⟩
    · obtain ⟨k1, k2, k3⟩ := h.link _ h2 e
      exact ⟨k1, k2, by omega⟩
  refine ⟨h.arg, fun j hj => ?_, fun j hj e => ?_, fun j hj e => ?_, h.var, h.uni⟩
  · by_cases q : j = i
    · rw [q, putN_self]
      exact h.tow _ h2
    · rw [putN_other _ _ q]
      exact h.tow j hj
  · by_cases q : j = i
    · rw [q, putN_self] at e
      rw [e] at key
      omega
    · rw [putN_other _ _ q] at e
      exact h.root j hj e
  · by_cases q : j = i
    · rw [q, putN_self]
      exact ⟨g1.trans key.1, g2.trans key.2.1, by omega⟩
    · rw [putN_other _ _ q] at e ⊢
      exact h.link j hj e
/-- A node that leads nowhere is led to another one; what all stand for turns accordingly. -/
theorem Den.lead (h : Den n lb ar tg dn rt rk) {i t : Nat} (hi : i < n) (ht : t < n) (hii : tg i = i) (htt : tg t = t) (hne : i ≠ t) {dn' : Nat → List Nd} (h1 : dn' i = dn' t) (h2 : ∀ r, r < n → tg r = r → r ≠ i → dn' r = ((lb r).1, (lb r).2, (ar r).length) :: (ar r).flatMap dn') (h3 : ∀ k, k < n → tg k ≠ k → dn' k = dn' (tg k)) :
    Den n lb ar (putN tg i t) dn' (fun k => if rt k = i then t else rt k) (fun k => if rt k = i then rk k + rk t + 1 else rk k) := by
  have hri := (h.root i hi hii).1
  have hrt := (h.root t ht htt).1
  refine ⟨h.arg, fun j hj => ?_, fun j hj e => ?_, fun j hj e => ?_, h.var, h.uni⟩
  · by_cases q : j = i
    · rw [q, putN_self]
      exact ht
    · rw [putN_other _ _ q]
      exact h.tow j hj
  · by_cases q : j = i
    · rw [q, putN_self] at e
      exact absurd e.symm hne
    · rw [putN_other _ _ q] at e
      have hr := (h.root j hj e).1
      exact ⟨by simp only [hr, q, if_false], h2 j hj e q⟩
  · by_cases q : j = i
    · rw [q, putN_self]
      refine ⟨?_, h1, ?_⟩
      · simp only [hri, hrt, if_true, if_neg (Ne.symm hne)]
      · simp only [hri, hrt, if_true, if_neg (Ne.symm hne)]
        omega
    · rw [putN_other _ _ q] at e ⊢
      obtain ⟨k1, _, k3⟩ := h.link j hj e
      refine ⟨?_, h3 j hj e, ?_⟩
      · simp only [k1]
      · simp only [← k1]
        split
        · omega
        · exact k3
/-- A variable is bound. -/
theorem Den.bind (h : Den n lb ar tg dn rt rk) {i t : Nat} (hi : i < n) (ht : t < n) (hii : tg i = i) (htt : tg t = t) (hv : (lb i).1 = 2) (ho : ((2, (lb i).2, 0) : Nd) ∉ dn t) :
    Den n lb ar (putN tg i t) (fun k => subF (one (lb i).2 (dn t)) (dn k)) (fun k => if rt k = i then t else rt k) (fun k => if rt k = i then rk k + rk t + 1 else rk k) := by
  have hri := (h.root i hi hii).1
  have hdi : dn i = [(2, (lb i).2, 0)] := by
    have := h.free hi (by rw [hri]; exact hv)
    rw [hri] at this
    exact this
  have hne : i ≠ t := fun e => ho (by rw [← e, hdi]; exact List.mem_cons_self)
  refine h.lead hi ht hii htt hne ?_ (fun r hr e q => ?_) fun k hk e => ?_
  · show subF _ (dn i) = subF _ (dn t)
    rw [hdi, subF_v, vF_one_self, sub_one_free _ (h.vok ht) ho]
  · show subF _ (dn r) = _
    rw [(h.root r hr e).2]
    by_cases hr2 : (lb r).1 = 2
    · have ha := h.var r hr hr2
      rw [ha, hr2]
      show subF _ [(2, (lb r).2, 0)] = [(2, (lb r).2, 0)]
      rw [subF_v, vF_one_other _ fun e2 => q (h.uni r i hr hi hr2 hv e2)]
    · rw [subF_node _ (show ((lb r).1, (lb r).2, (ar r).length).1 ≠ 2 from hr2), subF_flat]
  · show subF _ (dn k) = subF _ (dn (tg k))
    rw [(h.link k hk e).2.1]
/-- Two nodes that stand for one are made one. -/
theorem Den.meet (h : Den n lb ar tg dn rt rk) {i t : Nat} (hi : i < n) (ht : t < n) (hii : tg i = i) (htt : tg t = t) (hne : i ≠ t) (hd : dn i = dn t) :
    Den n lb ar (putN tg i t) dn (fun k => if rt k = i then t else rt k) (fun k => if rt k = i then rk k + rk t + 1 else rk k) :=
  h.lead hi ht hii htt hne hd (fun r hr e _ => (h.root r hr e).2) fun k hk e => (h.link k hk e).2.1
/-- A node more. -/
theorem Den.more (h : Den n lb ar tg dn rt rk) (l : Int × List UInt8) (aL : List Nat) (ha : ∀ a ∈ aL, a < n) (hv : l.1 = 2 → aL = [] ∧ ∀ i, i < n → (lb i).1 = 2 → (lb i).2 ≠ l.2) :
    Den (n + 1) (fun j => if j = n then l else lb j) (fun j => if j = n then aL else ar j) (putN tg n n) (fun j => if j = n then (l.1, l.2, aL.length) :: aL.flatMap dn else dn j) (putN rt n n) rk := by
  have hold : ∀ bs : List Nat, (∀ b ∈ bs, b < n) → bs.flatMap (fun j => if j = n then (l.1, l.2, aL.length) :: aL.flatMap dn else dn j) = bs.flatMap dn := fun bs hb => flat_same bs fun b q => if_neg (by have := hb b q; omega)
  refine ⟨fun i hi => ?_, fun i hi => ?_, fun i hi e => ?_, fun i hi e => ?_, fun i hi e => ?_, fun i j hi hj e1 e2 e3 => ?_⟩
  · by_cases q : i = n
    · simp only [q, if_true]
      intro a h1
      have := ha a h1
      omega
    · simp only [if_neg q]
      intro a h1
      have := h.arg i (by omega) a h1
      omega
  · by_cases q : i = n
    · rw [q, putN_self]
      omega
    · rw [putN_other _ _ q]
      have := h.tow i (by omega)
      omega
  · by_cases q : i = n
    · simp only [q, if_true, putN_self, true_and]
      rw [hold aL ha]
    · rw [putN_other _ _ q] at e
      have hi' : i < n := by omega
      rw [putN_other _ _ q]
      simp only [if_neg q]
      rw [hold _ (h.arg i hi')]
      exact h.root i hi' e
  · by_cases q : i = n
    · rw [q, putN_self] at e
      exact absurd rfl e
    · rw [putN_other _ _ q] at e
      have hi' : i < n := by omega
      have hti := h.tow i hi'
      have q2 : tg i ≠ n := by omega
      rw [putN_other tg _ q, putN_other rt _ q, putN_other rt _ q2]
      simp only [if_neg q, if_neg q2]
      exact h.link i hi' e
  · by_cases q : i = n
    · simp only [q, if_true] at e ⊢
      exact (hv e).1
    · simp only [if_neg q] at e ⊢
      exact h.var i (by omega) e
  · by_cases q : i = n
    · by_cases q2 : j = n
      · rw [q, q2]
      · simp only [q, if_true, if_neg q2] at e1 e2 e3
        exact absurd e3.symm ((hv e1).2 j (by omega) e2)
    · by_cases q2 : j = n
      · simp only [q2, if_true, if_neg q] at e1 e2 e3
        exact absurd e3 ((hv e2).2 i (by omega) e1)
      · simp only [if_neg q, if_neg q2] at e1 e2 e3
        exact h.uni i j (by omega) (by omega) e1 e2 e3
theorem Den.nil (lb : Nat → Int × List UInt8) (ar : Nat → List Nat) (tg : Nat → Nat) (dn : Nat → List Nd) (rt rk : Nat → Nat) : Den 0 lb ar tg dn rt rk :=
  ⟨fun i h => by omega, fun i h => by omega, fun i h => by omega, fun i h => by omega, fun i h => by omega, fun i j h => by omega⟩
/-- A variable that stands within something bears a mark. -/
def Mk (n : Nat) (lb : Nat → Int × List UInt8) (ar : Nat → List Nat) (rt : Nat → Nat) (ins : Nat → Bool) : Prop := ∀ i, i < n → ∀ a ∈ ar i, (lb (rt a)).1 = 2 → ins (rt a) = true
/-- What bears no mark stands within nothing. -/
theorem Den.clear (h : Den n lb ar tg dn rt rk) {ins : Nat → Bool} (m : Mk n lb ar rt ins) {v t : Nat} (hv : v < n) (ht : t < n) (hvv : tg v = v) (htt : tg t = t) (h2 : (lb v).1 = 2) (hne : v ≠ t) (hi : ins v = false) : ((2, (lb v).2, 0) : Nd) ∉ dn t := fun hm => by
  obtain ⟨w, h3, h4, h5, h6, h7⟩ := h.mem ht hm
  have e := h.uni w v h3 hv h5 h2 h6
  subst e
  rcases h7 with h7 | ⟨j, a, hj, ha, h7⟩
  · rw [(h.root t ht htt).1] at h7
    exact hne h7.symm
  · have := m j hj a ha (by rw [h7]; exact h2)
    rw [h7, hi] at this
    cases this
end
end Go.Proofs.Ytikpipenhamdbaa

namespace Go.Proofs.Ytikpipenhamdbaa

/-- First σ, then θ. -/
def thenS (σ θ : Sb) : Sb := fun n => some (subF θ (vF σ n))
theorem then_vF (σ θ : Sb) (n : List UInt8) : vF (thenS σ θ) n = subF θ (vF σ n) := rfl
theorem then_sub (σ θ : Sb) : ∀ r : List Nd, vok r → subF (thenS σ θ) r = subF θ (subF σ r)
  | [], _ => rfl
  | nd :: r, hv => by
    obtain ⟨hv1, hv2⟩ := vok_cons.1 hv
    by_cases h2 : nd.1 = 2
    · rw [var_form h2 (hv1 h2), subF_vc, subF_vc, subF_app, then_vF, then_sub σ θ r hv2]
    · rw [subF_node _ h2, subF_node _ h2, subF_node _ h2, then_sub σ θ r hv2]
theorem then_ok {σ θ : Sb} (hσ : sok σ) (hθ : sok θ) : sok (thenS σ θ) := fun n r e => by
  injection e with e
  subst e
  obtain ⟨h1, h2⟩ := vF_ok hσ n
  exact ⟨sub_eats hθ _ 1 h2 h1, sub_vok hθ _ h2⟩
/-- A pair of nodes that are to agree; or that were to, and do by now. -/
structure Tk where
  a : Nat
  b : Nat
  done : Bool
/-- What is still to agree: the rows of the one side, of the other. -/
def rowA (dn : Nat → List Nd) (ts : List Tk) : List Nd := ts.flatMap fun t => if t.done then [] else dn t.a
def rowB (dn : Nat → List Nd) (ts : List Tk) : List Nd := ts.flatMap fun t => if t.done then [] else dn t.b
theorem rowA_nil (dn : Nat → List Nd) : rowA dn [] = [] := rfl
theorem rowB_nil (dn : Nat → List Nd) : rowB dn [] = [] := rfl
theorem rowA_todo (dn : Nat → List Nd) (a b : Nat) (ts : List Tk) : rowA dn (⟨a, b, false⟩ :: ts) = dn a ++ rowA dn ts := rfl
theorem rowB_todo (dn : Nat → List Nd) (a b : Nat) (ts : List Tk) : rowB dn (⟨a, b, false⟩ :: ts) = dn b ++ rowB dn ts := rfl
theorem rowA_done (dn : Nat → List Nd) (a b : Nat) (ts : List Tk) : rowA dn (⟨a, b, true⟩ :: ts) = rowA dn ts := rfl
theorem rowB_done (dn : Nat → List Nd) (a b : Nat) (ts : List Tk) : rowB dn (⟨a, b, true⟩ :: ts) = rowB dn ts := rfl
theorem rowA_sub (σ : Sb) (dn : Nat → List Nd) : ∀ ts : List Tk, rowA (fun k => subF σ (dn k)) ts = subF σ (rowA dn ts)
  | [] => rfl
  | ⟨a, b, false⟩ :: ts => by rw [rowA_todo, rowA_todo, subF_app, rowA_sub σ dn ts]
  | ⟨a, b, true⟩ :: ts => by rw [rowA_done, rowA_done, rowA_sub σ dn ts]
theorem rowB_sub (σ : Sb) (dn : Nat → List Nd) : ∀ ts : List Tk, rowB (fun k => subF σ (dn k)) ts = subF σ (rowB dn ts)
  | [] => rfl
  | ⟨a, b, false⟩ :: ts => by rw [rowB_todo, rowB_todo, subF_app, rowB_sub σ dn ts]
  | ⟨a, b, true⟩ :: ts => by rw [rowB_done, rowB_done, rowB_sub σ dn ts]
/-- Does nothing but what makes A and B one? -/
def Ent (A B A' B' : List Nd) : Prop := ∀ θ, sok θ → subF θ A = subF θ B → subF θ A' = subF θ B'
/-- What was to agree does, as soon as all that waits ahead of it does (A, B: what waits ahead of the row). -/
def Dok (n : Nat) (dn : Nat → List Nd) : List Nd → List Nd → List Tk → Prop
  | _, _, [] => True
  | A, B, t :: ts => (t.a < n ∧ t.b < n) ∧ (if t.done then Ent A B (dn t.a) (dn t.b) ∧ (∃ nd r, dn t.a = nd :: r ∧ nd.1 ≠ 2) ∧ Dok n dn A B ts else Dok n dn (A ++ dn t.a) (B ++ dn t.b) ts)
theorem Dok.todo {n : Nat} {dn : Nat → List Nd} {A B : List Nd} {a b : Nat} {ts : List Tk} : Dok n dn A B (⟨a, b, false⟩ :: ts) ↔ (a < n ∧ b < n) ∧ Dok n dn (A ++ dn a) (B ++ dn b) ts := Iff.rfl
theorem Dok.done {n : Nat} {dn : Nat → List Nd} {A B : List Nd} {a b : Nat} {ts : List Tk} : Dok n dn A B (⟨a, b, true⟩ :: ts) ↔ (a < n ∧ b < n) ∧ Ent A B (dn a) (dn b) ∧ (∃ nd r, dn a = nd :: r ∧ nd.1 ≠ 2) ∧ Dok n dn A B ts := Iff.rfl
theorem Ent.app {A B A' B' r s : List Nd} (h : ∀ θ, sok θ → subF θ A' = subF θ B' → subF θ A = subF θ B) {k : Nat} (hA : eats k A' = true) (hB : eats k B' = true) (vA : vok A') (vB : vok B') : ∀ θ, sok θ → subF θ (A' ++ r) = subF θ (B' ++ s) → subF θ (A ++ r) = subF θ (B ++ s) := fun θ hθ e => by
  rw [subF_app, subF_app] at e ⊢
  obtain ⟨e1, e2⟩ := eats_inj _ _ k _ _ (sub_eats hθ A' k vA hA) (sub_eats hθ B' k vB hB) e
  rw [h θ hθ e1, e2]
theorem Dok.weak {n : Nat} {dn : Nat → List Nd} (ht : ∀ i, i < n → eats 1 (dn i) = true ∧ vok (dn i)) : ∀ (ts : List Tk) (A B A' B' : List Nd) (k : Nat), eats k A' = true → eats k B' = true → vok A' → vok B' → Ent A' B' A B → Dok n dn A B ts → Dok n dn A' B' ts
  | [], _, _, _, _, _, _, _, _, _, _, _ => trivial
  | ⟨a, b, true⟩ :: ts, A, B, A', B', k, h1, h2, h3, h4, he, h => by
    obtain ⟨hab, g1, g2, g3⟩ := Dok.done.1 h
    exact Dok.done.2 ⟨hab, fun θ hθ e => g1 θ hθ (he θ hθ e), g2, Dok.weak ht ts A B A' B' k h1 h2 h3 h4 he g3⟩
  | ⟨a, b, false⟩ :: ts, A, B, A', B', k, h1, h2, h3, h4, he, h => by
    obtain ⟨hab, g1⟩ := Dok.todo.1 h
    obtain ⟨ta, va⟩ := ht a hab.1
    obtain ⟨tb, vb⟩ := ht b hab.2
    exact Dok.todo.2 ⟨hab, Dok.weak ht ts _ _ _ _ (k + 1) (eats_app _ _ _ _ h1 ta) (eats_app _ _ _ _ h2 tb) (vok_app.2 ⟨h3, va⟩) (vok_app.2 ⟨h4, vb⟩) (Ent.app he h1 h2 h3 h4) g1⟩
theorem Dok.sub {n : Nat} {dn : Nat → List Nd} {σ : Sb} (hσ : sok σ) (ht : ∀ i, i < n → vok (dn i)) : ∀ (ts : List Tk) (A B : List Nd), vok A → vok B → Dok n dn A B ts → Dok n (fun k => subF σ (dn k)) (subF σ A) (subF σ B) ts
  | [], _, _, _, _, _ => trivial
  | ⟨a, b, true⟩ :: ts, A, B, hA, hB, h => by
    obtain ⟨hab, g1, ⟨nd, r, g2, g3⟩, g4⟩ := Dok.done.1 h
    refine Dok.done.2 ⟨hab, fun θ hθ e => ?_, ⟨nd, subF σ r, ?_, g3⟩, Dok.sub hσ ht ts A B hA hB g4⟩
    · have := g1 _ (then_ok hσ hθ) (by rw [then_sub σ θ A hA, then_sub σ θ B hB]; exact e)
      rw [then_sub σ θ _ (ht a hab.1), then_sub σ θ _ (ht b hab.2)] at this
      exact this
    · show subF σ (dn a) = _
      rw [g2, subF_node _ g3]
  | ⟨a, b, false⟩ :: ts, A, B, hA, hB, h => by
    obtain ⟨hab, g1⟩ := Dok.todo.1 h
    have := Dok.sub hσ ht ts _ _ (vok_app.2 ⟨hA, ht a hab.1⟩) (vok_app.2 ⟨hB, ht b hab.2⟩) g1
    rw [subF_app, subF_app] at this
    exact Dok.todo.2 ⟨hab, this⟩
/-- The Args of two nodes, pair by pair. -/
def pairTs : List Nat → List Nat → List Tk
  | a :: aL, b :: bs => ⟨a, b, false⟩ :: pairTs aL bs
  | _, _ => []
theorem pair_rows (dn : Nat → List Nd) (ts : List Tk) : ∀ aL bs : List Nat, aL.length = bs.length → rowA dn (pairTs aL bs ++ ts) = aL.flatMap dn ++ rowA dn ts ∧ rowB dn (pairTs aL bs ++ ts) = bs.flatMap dn ++ rowB dn ts
  | [], [], _ => ⟨rfl, rfl⟩
  | [], _ :: _, h => by simp at h
  | _ :: _, [], h => by simp at h
  | a :: aL, b :: bs, h => by
    obtain ⟨h1, h2⟩ := pair_rows dn ts aL bs (by simpa using h)
    constructor
    · show rowA dn (⟨a, b, false⟩ :: (pairTs aL bs ++ ts)) = _
      rw [rowA_todo, h1, List.flatMap_cons, List.append_assoc]
    · show rowB dn (⟨a, b, false⟩ :: (pairTs aL bs ++ ts)) = _
      rw [rowB_todo, h2, List.flatMap_cons, List.append_assoc]
theorem pair_dok {n : Nat} {dn : Nat → List Nd} (ts : List Tk) : ∀ (aL bs : List Nat) (A B : List Nd), aL.length = bs.length → (∀ a ∈ aL, a < n) → (∀ b ∈ bs, b < n) → Dok n dn (A ++ aL.flatMap dn) (B ++ bs.flatMap dn) ts → Dok n dn A B (pairTs aL bs ++ ts)
  | [], [], A, B, _, _, _, h => by
    rw [List.flatMap_nil, List.append_nil, List.append_nil] at h
    exact h
  | [], _ :: _, _, _, h, _, _, _ => by simp at h
  | _ :: _, [], _, _, h, _, _, _ => by simp at h
  | a :: aL, b :: bs, A, B, h, ha, hb, hd => by
    refine Dok.todo.2 ⟨⟨ha a List.mem_cons_self, hb b List.mem_cons_self⟩, pair_dok ts aL bs _ _ (by simpa using h) (fun x q => ha x (List.mem_cons_of_mem _ q)) (fun x q => hb x (List.mem_cons_of_mem _ q)) ?_⟩
    rw [List.append_assoc, List.append_assoc]
    exact hd
/-! The rounds. -/
theorem uniF_same {x : Uans} : ∀ (p r s : List Nd) (f : Nat), uniF f (p ++ r) (p ++ s) = some x → ∃ g, uniF g r s = some x ∧ g + p.length ≤ f
  | [], r, s, f, h => ⟨f, h, by simp⟩
  | a :: p, r, s, 0, h => by simp [uniF] at h
  | a :: p, r, s, f + 1, h => by
    have h : uniF f (p ++ r) (p ++ s) = some x := by
      have := h
      simp only [List.cons_append, uniF, if_true] at this
      exact this
    obtain ⟨g, h1, h2⟩ := uniF_same p r s f h
    exact ⟨g, h1, by simp; omega⟩
section
variable {n : Nat} {lb : Nat → Int × List UInt8} {ar : Nat → List Nat} {tg : Nat → Nat} {dn : Nat → List Nd} {rt rk : Nat → Nat}
/-- Two that lead to one: the pair is left out. -/
theorem Den.r_same (h : Den n lb ar tg dn rt rk) {a b f : Nat} {ts : List Tk} {x : Uans} (hd : Dok n dn [] [] (⟨a, b, false⟩ :: ts)) (e : rt a = rt b) (hu : uniF f (rowA dn (⟨a, b, false⟩ :: ts)) (rowB dn (⟨a, b, false⟩ :: ts)) = some x) :
    Dok n dn [] [] ts ∧ ∃ g, g < f ∧ uniF g (rowA dn ts) (rowB dn ts) = some x := by
  obtain ⟨⟨ha, hb⟩, hd⟩ := Dok.todo.1 hd
  have hab := h.one_rt ha hb e
  rw [rowA_todo, rowB_todo, hab] at hu
  obtain ⟨g, h1, h2⟩ := uniF_same _ _ _ _ hu
  have hp := eats_pos (h.tree hb)
  refine ⟨Dok.weak (fun i hi => ⟨h.tree hi, h.vok hi⟩) ts _ _ [] [] 0 rfl rfl vok_nil vok_nil (fun θ _ _ => ?_) hd, g, by omega, h1⟩
  rw [List.nil_append, List.nil_append, hab]
/-- Two that were to agree do. -/
theorem Den.r_done (h : Den n lb ar tg dn rt rk) {a b : Nat} {ts : List Tk} (hd : Dok n dn [] [] (⟨a, b, true⟩ :: ts)) : a < n ∧ b < n ∧ dn a = dn b ∧ (lb (rt a)).1 ≠ 2 ∧ (lb (rt b)).1 ≠ 2 ∧ Dok n dn [] [] ts := by
  obtain ⟨⟨ha, hb⟩, h1, ⟨nd, r, h2, h3⟩, h4⟩ := Dok.done.1 hd
  have e : dn a = dn b := by
    have hi : sok (fun _ => none) := fun _ _ e => by cases e
    have id : ∀ r, subF (fun _ => none) r = r := fun r => by
      induction r with
      | nil => rfl
      | cons c r ih =>
        rw [subF_cons, ih]
        split <;> rfl
    have := h1 _ hi rfl
    rw [id, id] at this
    exact this
  refine ⟨ha, hb, e, fun q => ?_, fun q => ?_, h4⟩
  · rw [h.form ha] at h2
    injection h2 with h2 _
    rw [← h2] at h3
    exact h3 q
  · rw [e, h.form hb] at h2
    injection h2 with h2 _
    rw [← h2] at h3
    exact h3 q
/-- Two nodes of one form: their Args are to agree. -/
theorem Den.r_more (h : Den n lb ar tg dn rt rk) {a b f : Nat} {ts : List Tk} {x : Uans} (hd : Dok n dn [] [] (⟨a, b, false⟩ :: ts)) (ha2 : (lb (rt a)).1 ≠ 2) (e1 : (lb (rt a)).1 = (lb (rt b)).1) (e2 : (lb (rt a)).2 = (lb (rt b)).2) (e3 : (ar (rt a)).length = (ar (rt b)).length) (hu : uniF f (rowA dn (⟨a, b, false⟩ :: ts)) (rowB dn (⟨a, b, false⟩ :: ts)) = some x) :
    Dok n dn [] [] (pairTs (ar (rt a)) (ar (rt b)) ++ ⟨rt a, rt b, true⟩ :: ts) ∧ ∃ g, g < f ∧ uniF g (rowA dn (pairTs (ar (rt a)) (ar (rt b)) ++ ⟨rt a, rt b, true⟩ :: ts)) (rowB dn (pairTs (ar (rt a)) (ar (rt b)) ++ ⟨rt a, rt b, true⟩ :: ts)) = some x := by
  obtain ⟨⟨ha, hb⟩, hd⟩ := Dok.todo.1 hd
  have fa := h.form ha
  have fb := h.form hb
  have la : ∀ q ∈ ar (rt a), q < n := fun q hq => h.argr ha hq
  have lB : ∀ q ∈ ar (rt b), q < n := fun q hq => h.argr hb hq
  obtain ⟨ta, va⟩ := h.trees la
  obtain ⟨tb, vb⟩ := h.trees lB
  have ea : Ent ((ar (rt a)).flatMap dn) ((ar (rt b)).flatMap dn) (dn a) (dn b) := fun θ _ e => by
    rw [fa, fb, e1, e2, e3, subF_node _ (show ((lb (rt b)).1, (lb (rt b)).2, (ar (rt b)).length).1 ≠ 2 from e1 ▸ ha2), subF_node _ (show ((lb (rt b)).1, (lb (rt b)).2, (ar (rt b)).length).1 ≠ 2 from e1 ▸ ha2), e]
  refine ⟨pair_dok _ _ _ _ _ e3 la lB (Dok.done.2 ⟨⟨h.rt_lt ha, h.rt_lt hb⟩, ?_, ⟨_, _, (h.rt_dn ha).trans fa, ha2⟩, ?_⟩), ?_⟩
  · rw [h.rt_dn ha, h.rt_dn hb]
    exact ea
  · refine Dok.weak (fun i hi => ⟨h.tree hi, h.vok hi⟩) ts _ _ _ _ (ar (rt a)).length ?_ ?_ ?_ ?_ ?_ hd
    · exact ta
    · rw [e3]
      exact tb
    · exact va
    · exact vb
    · exact ea
  · obtain ⟨p1, p2⟩ := pair_rows dn (⟨rt a, rt b, true⟩ :: ts) _ _ e3
    rw [p1, p2, rowA_done, rowB_done]
    rw [rowA_todo, rowB_todo, fa, fb, e1, e2, e3] at hu
    cases f with
    | zero => simp [uniF] at hu
    | succ f =>
      simp only [List.cons_append, uniF, if_true] at hu
      exact ⟨f, by omega, hu⟩
/-- Two nodes of other forms. -/
theorem Den.r_clash (h : Den n lb ar tg dn rt rk) {a b f : Nat} {ts : List Tk} {x : Uans} (hd : Dok n dn [] [] (⟨a, b, false⟩ :: ts)) (ha2 : (lb (rt a)).1 ≠ 2) (hb2 : (lb (rt b)).1 ≠ 2) (hne : ¬((lb (rt a)).1 = (lb (rt b)).1 ∧ (lb (rt a)).2 = (lb (rt b)).2 ∧ (ar (rt a)).length = (ar (rt b)).length)) (hu : uniF f (rowA dn (⟨a, b, false⟩ :: ts)) (rowB dn (⟨a, b, false⟩ :: ts)) = some x) : x = .inl 50 := by
  obtain ⟨⟨ha, hb⟩, hd⟩ := Dok.todo.1 hd
  rw [rowA_todo, rowB_todo, h.form ha, h.form hb] at hu
  refine Uni.one ⟨f, hu⟩ (Uni.clash ha2 hb2 fun e => hne ?_)
  injection e with e1 e2
  injection e2 with e2 e3
  exact ⟨e1, e2, e3⟩
theorem uniF_pos {f : Nat} {r s : List Nd} {x : Uans} (h : uniF f r s = some x) : ∃ g, f = g + 1 := by
  cases f with
  | zero => simp [uniF] at h
  | succ f => exact ⟨f, rfl⟩
/-- A variable is bound to what stands for another one (i: which one, t: to what), with all that waits. -/
theorem Den.r_bound (h : Den n lb ar tg dn rt rk) {a b i t : Nat} {ts : List Tk} (hd : Dok n dn [] [] (⟨a, b, false⟩ :: ts)) (hit : (rt a = i ∧ rt b = t) ∨ (rt a = t ∧ rt b = i)) (hv : (lb i).1 = 2) (ho : ((2, (lb i).2, 0) : Nd) ∉ dn t) :
    i < n ∧ t < n ∧ Den n lb ar (putN tg i t) (fun k => subF (one (lb i).2 (dn t)) (dn k)) (fun k => if rt k = i then t else rt k) (fun k => if rt k = i then rk k + rk t + 1 else rk k) ∧ Dok n (fun k => subF (one (lb i).2 (dn t)) (dn k)) [] [] ts := by
  obtain ⟨⟨ha, hb⟩, hd⟩ := Dok.todo.1 hd
  have key : i < n ∧ tg i = i ∧ t < n ∧ tg t = t := by
    rcases hit with ⟨e1, e2⟩ | ⟨e1, e2⟩ <;> rw [← e1, ← e2]
    · exact ⟨h.rt_lt ha, h.rt_tg ha, h.rt_lt hb, h.rt_tg hb⟩
    · exact ⟨h.rt_lt hb, h.rt_tg hb, h.rt_lt ha, h.rt_tg ha⟩
  obtain ⟨hi, hii, ht, htt⟩ := key
  have den := h.bind hi ht hii htt hv ho
  have ok : sok (one (lb i).2 (dn t)) := one_ok (h.tree ht) (h.vok ht)
  refine ⟨hi, ht, den, ?_⟩
  have hri := (h.root i hi hii).1
  have hdi : dn i = [(2, (lb i).2, 0)] := by
    have := h.free hi (by rw [hri]; exact hv)
    rw [hri] at this
    exact this
  have hs := Dok.sub ok (fun k hk => h.vok hk) ts _ _ (vok_app.2 ⟨vok_nil, h.vok ha⟩) (vok_app.2 ⟨vok_nil, h.vok hb⟩) hd
  have both : subF (one (lb i).2 (dn t)) (dn a) = subF (one (lb i).2 (dn t)) (dn b) := by
    rw [← h.rt_dn ha, ← h.rt_dn hb]
    rcases hit with ⟨e1, e2⟩ | ⟨e1, e2⟩ <;> rw [e1, e2, hdi, subF_v, vF_one_self, sub_one_free _ (h.vok ht) ho]
  refine Dok.weak (fun k hk => ⟨den.tree hk, den.vok hk⟩) ts _ _ [] [] 0 rfl rfl vok_nil vok_nil (fun θ _ _ => ?_) hs
  rw [List.nil_append, List.nil_append, both]
/-- Two variables of other names: the lesser one stays. -/
theorem Den.u_left (h : Den n lb ar tg dn rt rk) {a b f : Nat} {ts : List Tk} {x : Uans} (ha : a < n) (hb : b < n) (ha2 : (lb (rt a)).1 = 2) (hb2 : (lb (rt b)).1 = 2) (hlt : (lb (rt b)).2 < (lb (rt a)).2) (hu : uniF f (rowA dn (⟨a, b, false⟩ :: ts)) (rowB dn (⟨a, b, false⟩ :: ts)) = some x) :
    ∃ g y, g < f ∧ x = putU ((lb (rt a)).2, dn (rt b)) y ∧ uniF g (rowA (fun k => subF (one (lb (rt a)).2 (dn (rt b))) (dn k)) ts) (rowB (fun k => subF (one (lb (rt a)).2 (dn (rt b))) (dn k)) ts) = some y := by
  have e2 : dn (rt b) = [(2, (lb (rt b)).2, 0)] := (h.rt_dn hb).trans (h.free hb hb2)
  rw [rowA_todo, rowB_todo, h.free ha ha2, h.free hb hb2] at hu
  obtain ⟨g, rfl⟩ := uniF_pos hu
  have hne : ¬ (((2, (lb (rt a)).2, 0) : Nd) = (2, (lb (rt b)).2, 0)) := fun e => by
    injection e with _ e
    injection e with e _
    rw [e] at hlt
    exact List.lt_irrefl _ hlt
  simp only [List.cons_append, List.nil_append, uniF, if_neg hne, if_true, if_pos hlt, Option.map_eq_some_iff] at hu
  obtain ⟨y, h1, h2⟩ := hu
  rw [e2, rowA_sub, rowB_sub]
  exact ⟨g, y, by omega, h2.symm, h1⟩
theorem Den.u_right (h : Den n lb ar tg dn rt rk) {a b f : Nat} {ts : List Tk} {x : Uans} (ha : a < n) (hb : b < n) (ha2 : (lb (rt a)).1 = 2) (hb2 : (lb (rt b)).1 = 2) (hne : rt a ≠ rt b) (hlt : ¬ (lb (rt b)).2 < (lb (rt a)).2) (hu : uniF f (rowA dn (⟨a, b, false⟩ :: ts)) (rowB dn (⟨a, b, false⟩ :: ts)) = some x) :
    ∃ g y, g < f ∧ x = putU ((lb (rt b)).2, dn (rt a)) y ∧ uniF g (rowA (fun k => subF (one (lb (rt b)).2 (dn (rt a))) (dn k)) ts) (rowB (fun k => subF (one (lb (rt b)).2 (dn (rt a))) (dn k)) ts) = some y := by
  have e2 : dn (rt a) = [(2, (lb (rt a)).2, 0)] := (h.rt_dn ha).trans (h.free ha ha2)
  rw [rowA_todo, rowB_todo, h.free ha ha2, h.free hb hb2] at hu
  obtain ⟨g, rfl⟩ := uniF_pos hu
  have hne : ¬ (((2, (lb (rt a)).2, 0) : Nd) = (2, (lb (rt b)).2, 0)) := fun e => by
    injection e with _ e
    injection e with e _
    exact hne (h.uni _ _ (h.rt_lt ha) (h.rt_lt hb) ha2 hb2 e)
  simp only [List.cons_append, List.nil_append, uniF, if_neg hne, if_true, if_neg hlt, Option.map_eq_some_iff] at hu
  obtain ⟨y, h1, h2⟩ := hu
  rw [e2, rowA_sub, rowB_sub]
  exact ⟨g, y, by omega, h2.symm, h1⟩
/-- A variable and what is none. -/
theorem Den.u_bind (h : Den n lb ar tg dn rt rk) {a b f : Nat} {ts : List Tk} {x : Uans} (ha : a < n) (hb : b < n) (ha2 : (lb (rt a)).1 = 2) (hb2 : (lb (rt b)).1 ≠ 2) (hu : uniF f (rowA dn (⟨a, b, false⟩ :: ts)) (rowB dn (⟨a, b, false⟩ :: ts)) = some x) :
    if ((2, (lb (rt a)).2, 0) : Nd) ∈ dn (rt b) then x = .inl 51 else ∃ g y, g < f ∧ x = putU ((lb (rt a)).2, dn (rt b)) y ∧ uniF g (rowA (fun k => subF (one (lb (rt a)).2 (dn (rt b))) (dn k)) ts) (rowB (fun k => subF (one (lb (rt a)).2 (dn (rt b))) (dn k)) ts) = some y := by
  rw [rowA_todo, rowB_todo, h.free ha ha2] at hu
  have fb := h.form hb
  have tb := h.tree hb
  have nv : noVar (dn b) := ⟨_, _, fb, hb2⟩
  have hc : cutF 1 (dn b ++ rowB dn ts) = (dn b, rowB dn ts) := cut_app _ 1 _ tb
  rw [h.rt_dn hb]
  split
  · rename_i ho
    exact Uni.one ⟨f, hu⟩ (Uni.occurs tb nv ho)
  · rename_i ho
    obtain ⟨g, rfl⟩ := uniF_pos hu
    have hne : ¬ (((2, (lb (rt a)).2, 0) : Nd) = ((lb (rt b)).1, (lb (rt b)).2, (ar (rt b)).length)) := fun e => by
      injection e with e _
      exact hb2 e.symm
    rw [rowA_sub, rowB_sub]
    rw [fb] at hu hc ho ⊢
    rw [List.cons_append] at hu hc
    simp only [List.cons_append, List.nil_append, uniF, if_neg hne, if_true, if_neg hb2, hc, if_neg ho, Option.map_eq_some_iff] at hu
    obtain ⟨y, h1, h2⟩ := hu
    exact ⟨g, y, by omega, h2.symm, h1⟩
theorem Den.u_bind' (h : Den n lb ar tg dn rt rk) {a b f : Nat} {ts : List Tk} {x : Uans} (ha : a < n) (hb : b < n) (ha2 : (lb (rt a)).1 ≠ 2) (hb2 : (lb (rt b)).1 = 2) (hu : uniF f (rowA dn (⟨a, b, false⟩ :: ts)) (rowB dn (⟨a, b, false⟩ :: ts)) = some x) :
    if ((2, (lb (rt b)).2, 0) : Nd) ∈ dn (rt a) then x = .inl 51 else ∃ g y, g < f ∧ x = putU ((lb (rt b)).2, dn (rt a)) y ∧ uniF g (rowA (fun k => subF (one (lb (rt b)).2 (dn (rt a))) (dn k)) ts) (rowB (fun k => subF (one (lb (rt b)).2 (dn (rt a))) (dn k)) ts) = some y := by
  rw [rowA_todo, rowB_todo, h.free hb hb2] at hu
  have fa := h.form ha
  have ta := h.tree ha
  have nv : noVar (dn a) := ⟨_, _, fa, ha2⟩
  have hc : cutF 1 (dn a ++ rowA dn ts) = (dn a, rowA dn ts) := cut_app _ 1 _ ta
  rw [h.rt_dn ha]
  split
  · rename_i ho
    exact Uni.one ⟨f, hu⟩ (Uni.occurs' ta nv ho)
  · rename_i ho
    obtain ⟨g, rfl⟩ := uniF_pos hu
    have hne : ¬ (((lb (rt a)).1, (lb (rt a)).2, (ar (rt a)).length) = ((2, (lb (rt b)).2, 0) : Nd)) := fun e => by
      injection e with e _
      exact ha2 e
    rw [rowA_sub, rowB_sub]
    rw [fa] at hu hc ho ⊢
    rw [List.cons_append] at hu hc
    simp only [List.cons_append, List.nil_append, uniF, if_neg hne, if_true, if_neg ha2, hc, if_neg ho, Option.map_eq_some_iff] at hu
    obtain ⟨y, h1, h2⟩ := hu
    exact ⟨g, y, by omega, h2.symm, h1⟩
end
end Go.Proofs.Ytikpipenhamdbaa

namespace Go.Proofs.Ytikpipenhamdbaa

theorem subL_two : ∀ (L l : List (List UInt8 × List Nd)) (r : List Nd), subL (L ++ l) r = subL l (subL L r)
  | [], _, _ => rfl
  | _ :: L, l, _ => subL_two L l _
/-- Pairs of rows one behind the other, what was bound by those ahead put in: the first that nothing makes one, and why; or all that is bound. -/
def Prs : List (List Nd × List Nd) → List (List UInt8 × List Nd) → Nat → Sum (Nat × Int) (List (List UInt8 × List Nd)) → Prop
  | [], L, _, x => x = .inr L
  | p :: ps, L, i, x => (∃ c, Uni (subL L p.1) (subL L p.2) (.inl c) ∧ x = .inl (i, c)) ∨ ∃ l, Uni (subL L p.1) (subL L p.2) (.inr l) ∧ Prs ps (L ++ l) (i + 1) x
/-- Each side is a tree. -/
def pok (p : List Nd × List Nd) : Prop := (eats 1 p.1 = true ∧ vok p.1) ∧ eats 1 p.2 = true ∧ vok p.2
theorem Lok.nil : Lok [] := ⟨fun _ h => by simp at h, fun _ _ _ h => by simp at h⟩
theorem Lok.more {L l : List (List UInt8 × List Nd)} {a b : List Nd} (hL : Lok L) (va : vok a) (vb : vok b) (hg : Good (subL L a) (subL L b) (.inr l)) : Lok (L ++ l) := by
  obtain ⟨_, _, hl, hn⟩ := hg
  refine ⟨fun c hc => (List.mem_append.1 hc).elim (hL.tree c) (hl.tree c), fun q vq c hc hm => ?_⟩
  rw [subL_two] at hm
  have vq' := subL_vok hL.tree q vq
  rcases List.mem_append.1 hc with hc | hc
  · rcases subL_vars hl.tree _ vq' hm with hm | ⟨d, hd, hm⟩
    · exact hL.gone q vq c hc hm
    · rcases (hn d hd).2 _ hm with hm | hm
      · exact hL.gone a va c hc hm
      · exact hL.gone b vb c hc hm
  · exact hl.gone _ vq' c hc hm
/-- What θ says of what was bound it says of all. -/
def Knows (θ : Sb) (L : List (List UInt8 × List Nd)) : Prop := ∀ q, vok q → subF θ (subL L q) = subF θ q
theorem Knows.more {θ : Sb} (hθ : sok θ) {L l : List (List UInt8 × List Nd)} {a b : List Nd} (hL : Lok L) (va : vok a) (vb : vok b) (hk : Knows θ L) (e : subF θ a = subF θ b) (hg : Good (subL L a) (subL L b) (.inr l)) : Knows θ (L ++ l) := fun q vq => by
  rw [subL_two, hg.2.1 θ hθ (by rw [hk a va, hk b vb, e]) _ (subL_vok hL.tree q vq), hk q vq]
theorem Good.of {L : List (List UInt8 × List Nd)} {a b : List Nd} {x : Uans} (hL : Lok L) (h : pok (a, b)) (hu : Uni (subL L a) (subL L b) x) : Good (subL L a) (subL L b) x :=
  hu.good (subL_eats hL.tree a 1 h.1.2 h.1.1) (subL_eats hL.tree b 1 h.2.2 h.2.1) (subL_vok hL.tree a h.1.2) (subL_vok hL.tree b h.2.2)
theorem Prs.total : ∀ (ps : List (List Nd × List Nd)) (L : List (List UInt8 × List Nd)) (i : Nat), Lok L → (∀ p ∈ ps, pok p) → ∃ x, Prs ps L i x
  | [], L, _, _, _ => ⟨.inr L, rfl⟩
  | p :: ps, L, i, hL, h => by
    have hp := h p List.mem_cons_self
    obtain ⟨x, hu, hg⟩ := uni_trees (subL_eats hL.tree p.1 1 hp.1.2 hp.1.1) (subL_eats hL.tree p.2 1 hp.2.2 hp.2.1) (subL_vok hL.tree p.1 hp.1.2) (subL_vok hL.tree p.2 hp.2.2)
    cases x with
    | inl c => exact ⟨.inl (i, c), .inl ⟨c, hu, rfl⟩⟩
    | inr l =>
      obtain ⟨y, hy⟩ := Prs.total ps (L ++ l) (i + 1) (hL.more hp.1.2 hp.2.2 hg) fun q hq => h q (List.mem_cons_of_mem _ hq)
      exact ⟨y, .inr ⟨l, hu, hy⟩⟩
theorem Prs.one : ∀ (ps : List (List Nd × List Nd)) (L : List (List UInt8 × List Nd)) (i : Nat) {x y : Sum (Nat × Int) (List (List UInt8 × List Nd))}, Prs ps L i x → Prs ps L i y → x = y
  | [], _, _, _, _, h, k => h.trans k.symm
  | p :: ps, L, i, x, y, h, k => by
    rcases h with ⟨c, h1, h2⟩ | ⟨l, h1, h2⟩ <;> rcases k with ⟨d, k1, k2⟩ | ⟨m, k1, k2⟩
    · have := Uni.one h1 k1
      injection this with this
      rw [h2, k2, this]
    · cases Uni.one h1 k1
    · cases Uni.one h1 k1
    · have := Uni.one h1 k1
      injection this with this
      subst this
      exact Prs.one ps _ _ h2 k2
/-- All agree: what is bound is right, makes each pair one, and everything that does comes of it. -/
theorem Prs.right : ∀ (ps : List (List Nd × List Nd)) (L : List (List UInt8 × List Nd)) (i : Nat) {M : List (List UInt8 × List Nd)}, Lok L → (∀ p ∈ ps, pok p) → Prs ps L i (.inr M) → Lok M ∧ (∃ l, M = L ++ l) ∧ (∀ p ∈ ps, subL M p.1 = subL M p.2) ∧ ∀ θ, sok θ → Knows θ L → (∀ p ∈ ps, subF θ p.1 = subF θ p.2) → Knows θ M
  | [], L, _, M, hL, _, h => by
    injection h with h
    subst h
    exact ⟨hL, ⟨[], by simp⟩, fun _ h => by simp at h, fun _ _ h _ => h⟩
  | p :: ps, L, i, M, hL, hp, h => by
    have h0 := hp p List.mem_cons_self
    rcases h with ⟨c, _, h2⟩ | ⟨l, h1, h2⟩
    · cases h2
    · have hg := Good.of hL h0 h1
      obtain ⟨g1, ⟨m, g2⟩, g3, g4⟩ := Prs.right ps _ _ (hL.more h0.1.2 h0.2.2 hg) (fun q hq => hp q (List.mem_cons_of_mem _ hq)) h2
      refine ⟨g1, ⟨l ++ m, by rw [g2, List.append_assoc]⟩, fun q hq => ?_, fun θ hθ k hk => ?_⟩
      · rcases List.mem_cons.1 hq with e | e
        · rw [e, g2, subL_two, subL_two (L ++ l) m p.2, subL_two, subL_two L l p.2, hg.1]
        · exact g3 q e
      · exact g4 θ hθ (Knows.more hθ hL h0.1.2 h0.2.2 k (hk p List.mem_cons_self) hg) fun q hq => hk q (List.mem_cons_of_mem _ hq)
/-- One does not: it is none that those ahead are, which agree; and nothing makes all up to it one. -/
theorem Prs.wrong : ∀ (ps : List (List Nd × List Nd)) (L : List (List UInt8 × List Nd)) (i : Nat) {k : Nat} {c : Int}, Lok L → (∀ p ∈ ps, pok p) → Prs ps L i (.inl (k, c)) → (c = 50 ∨ c = 51) ∧ i ≤ k ∧ k < i + ps.length ∧ (∃ M, Prs (ps.take (k - i)) L i (.inr M)) ∧ Prs (ps.take (k - i + 1)) L i (.inl (k, c)) ∧ ∀ θ, sok θ → Knows θ L → ¬ ∀ p ∈ ps.take (k - i + 1), subF θ p.1 = subF θ p.2
  | [], _, _, _, _, _, _, h => by cases h
  | p :: ps, L, i, k, c, hL, hp, h => by
    have h0 := hp p List.mem_cons_self
    rcases h with ⟨d, h1, h2⟩ | ⟨l, h1, h2⟩
    · injection h2 with h2
      injection h2 with e1 e2
      subst e1 e2
      have hg := Good.of hL h0 h1
      refine ⟨hg.1, Nat.le_refl _, by simp, ⟨L, by rw [Nat.sub_self]; exact rfl⟩, by rw [Nat.sub_self]; exact .inl ⟨c, h1, rfl⟩, fun θ hθ hk hall => hg.2 θ hθ ?_⟩
      rw [hk p.1 h0.1.2, hk p.2 h0.2.2]
      exact hall p (by rw [Nat.sub_self]; simp)
    · have hg := Good.of hL h0 h1
      obtain ⟨g1, g2, g3, ⟨M, g4⟩, g5, g6⟩ := Prs.wrong ps _ _ (hL.more h0.1.2 h0.2.2 hg) (fun q hq => hp q (List.mem_cons_of_mem _ hq)) h2
      have e : k - i = k - (i + 1) + 1 := by omega
      refine ⟨g1, by omega, by simp; omega, ⟨M, ?_⟩, ?_, fun θ hθ hk hall => ?_⟩
      · rw [e, List.take_succ_cons]
        exact .inr ⟨l, h1, g4⟩
      · rw [e, List.take_succ_cons]
        exact .inr ⟨l, h1, g5⟩
      · rw [e, List.take_succ_cons] at hall
        exact g6 θ hθ (Knows.more hθ hL h0.1.2 h0.2.2 hk (hall p List.mem_cons_self) hg) fun q hq => hall q (List.mem_cons_of_mem _ hq)
theorem Knows.nil (θ : Sb) : Knows θ [] := fun _ _ => rfl
/-- What was bound, as it is told: of the names of a list, if it is something else than the name. -/
def told (V : List (List UInt8)) (L : List (List UInt8 × List Nd)) : Sb := fun n => if n ∈ V ∧ subL L [(2, n, 0)] ≠ [(2, n, 0)] then some (subL L [(2, n, 0)]) else none
theorem told_sub {V : List (List UInt8)} {L : List (List UInt8 × List Nd)} : ∀ r : List Nd, vok r → (∀ n, (2, n, 0) ∈ r → n ∈ V) → subF (told V L) r = subL L r
  | [], _, _ => (subL_nil L).symm
  | nd :: r, hv, h => by
    obtain ⟨hv1, hv2⟩ := vok_cons.1 hv
    have ih := told_sub (V := V) (L := L) r hv2 fun n q => h n (List.mem_cons_of_mem _ q)
    by_cases h2 : nd.1 = 2
    · have e := var_form h2 (hv1 h2)
      have hm : nd.2.1 ∈ V := h _ (by rw [← e]; exact List.mem_cons_self)
      rw [e, subF_vc, ih, show ((2, nd.2.1, 0) :: r : List Nd) = [(2, nd.2.1, 0)] ++ r from rfl, subL_app]
      congr 1
      unfold vF told
      by_cases q : subL L [(2, nd.2.1, 0)] = [(2, nd.2.1, 0)]
      · rw [if_neg fun k => k.2 q, q]
        rfl
      · rw [if_pos ⟨hm, q⟩]
        rfl
    · rw [subF_node _ h2, subL_node h2, ih]
theorem told_ok {V : List (List UInt8)} {L : List (List UInt8 × List Nd)} (hL : Lok L) : sok (told V L) := fun n r e => by
  unfold told at e
  split at e
  · injection e with e
    subst e
    have v1 : vok [(2, n, 0)] := vok_cons.2 ⟨fun _ => rfl, vok_nil⟩
    exact ⟨subL_eats hL.tree _ 1 v1 rfl, subL_vok hL.tree _ v1⟩
  · cases e
end Go.Proofs.Ytikpipenhamdbaa

namespace Go.Proofs.Ytikpipenhamdbaa

/-- A node more is marked. -/
def setM (mk : Nat → Bool) (k : Nat) : Nat → Bool := fun j => if j = k then true else mk j
theorem setM_self (mk : Nat → Bool) (k : Nat) : setM mk k k = true := if_pos rfl
theorem setM_mono (mk : Nat → Bool) (k j : Nat) (h : mk j = true) : setM mk k j = true := by
  unfold setM
  split
  · rfl
  · exact h
theorem setM_inv {mk : Nat → Bool} {k j : Nat} (h : setM mk k j = true) : j = k ∨ mk j = true := by
  unfold setM at h
  split at h
  · exact .inl (by assumption)
  · exact .inr h
/-- How much is left to go through. -/
def sumU (ar : Nat → List Nat) (mk : Nat → Bool) : Nat → Nat
  | 0 => 0
  | n + 1 => sumU ar mk n + if mk n then 0 else (ar n).length + 1
theorem sumU_same (ar : Nat → List Nat) (mk : Nat → Bool) (k : Nat) : ∀ n, n ≤ k → sumU ar (setM mk k) n = sumU ar mk n
  | 0, _ => rfl
  | n + 1, h => by
    show sumU ar (setM mk k) n + _ = sumU ar mk n + _
    rw [sumU_same ar mk k n (by omega), show setM mk k n = mk n from if_neg (by omega)]
theorem sumU_less (ar : Nat → List Nat) (mk : Nat → Bool) (k : Nat) (hk : mk k = false) : ∀ n, k < n → sumU ar (setM mk k) n + ((ar k).length + 1) = sumU ar mk n
  | 0, h => by omega
  | n + 1, h => by
    show sumU ar (setM mk k) n + (if setM mk k n then 0 else (ar n).length + 1) + _ = sumU ar mk n + if mk n then 0 else (ar n).length + 1
    by_cases q : n = k
    · subst q
      rw [sumU_same ar mk n n (Nat.le_refl _), setM_self, hk]
      simp
    · have := sumU_less ar mk k hk n (by omega)
      rw [show setM mk k n = mk n from if_neg q]
      omega
section
variable {n : Nat} {lb : Nat → Int × List UInt8} {ar : Nat → List Nat} {tg : Nat → Nat} {dn : Nat → List Nd} {rt rk : Nat → Nat}
/-- Between two rounds of a walk from m that looks for v: what waits, what is marked. -/
structure Wk (n : Nat) (lb : Nat → Int × List UInt8) (ar : Nat → List Nat) (dn : Nat → List Nd) (rt : Nat → Nat) (m v : Nat) (mk : Nat → Bool) (rest : List Nat) : Prop where
  low : ∀ k ∈ rest, k < n
  sub : ∀ k ∈ rest, ∀ y, ((2, y, 0) : Nd) ∈ dn k → ((2, y, 0) : Nd) ∈ dn m
  start : mk (rt m) = true ∨ ∃ r ∈ rest, rt r = rt m
  args : ∀ k, k < n → mk k = true → ∀ a ∈ ar k, mk (rt a) = true ∨ ∃ r ∈ rest, rt r = rt a
  miss : mk v = false
theorem Wk.begin {m v : Nat} (hm : m < n) : Wk n lb ar dn rt m v (fun _ => false) [m] :=
  ⟨fun k hk => by rw [List.mem_singleton.1 hk]; exact hm, fun k hk y hy => by rw [List.mem_singleton.1 hk] at hy; exact hy, .inr ⟨m, List.mem_singleton.2 rfl, rfl⟩, fun k _ h => absurd h (by simp), rfl⟩
/-- What is marked already is passed by. -/
theorem Wk.pass {m v k : Nat} {mk : Nat → Bool} {rest : List Nat} (h : Wk n lb ar dn rt m v mk (k :: rest)) (hk : mk (rt k) = true) : Wk n lb ar dn rt m v mk rest := by
  have key : ∀ j, (mk j = true ∨ ∃ r ∈ k :: rest, rt r = j) → mk j = true ∨ ∃ r ∈ rest, rt r = j := fun j q => by
    rcases q with q | ⟨r, q, e⟩
    · exact .inl q
    · rcases List.mem_cons.1 q with q | q
      · rw [q] at e
        exact .inl (by rw [← e]; exact hk)
      · exact .inr ⟨r, q, e⟩
  exact ⟨fun j q => h.low j (List.mem_cons_of_mem _ q), fun j q => h.sub j (List.mem_cons_of_mem _ q), key _ h.start, fun j hj q a ha => key _ (h.args j hj q a ha), h.miss⟩
/-- What is not is marked, and its Args wait. -/
theorem Wk.step (d : Den n lb ar tg dn rt rk) {m v k : Nat} {mk : Nat → Bool} {rest new : List Nat} (h : Wk n lb ar dn rt m v mk (k :: rest)) (hv : rt k ≠ v) (hnew : ∀ r, r ∈ new ↔ r ∈ ar (rt k) ∨ r ∈ rest) : Wk n lb ar dn rt m v (setM mk (rt k)) new := by
  have hk := h.low k List.mem_cons_self
  have key : ∀ j, (mk j = true ∨ ∃ r ∈ k :: rest, rt r = j) → setM mk (rt k) j = true ∨ ∃ r ∈ new, rt r = j := fun j q => by
    rcases q with q | ⟨r, q, e⟩
    · exact .inl (setM_mono _ _ _ q)
    · rcases List.mem_cons.1 q with q | q
      · rw [q] at e
        exact .inl (by rw [← e]; exact setM_self _ _)
      · exact .inr ⟨r, (hnew r).2 (.inr q), e⟩
  refine ⟨fun j q => ?_, fun j q y hy => ?_, key _ h.start, fun j hj q a ha => ?_, ?_⟩
  · rcases (hnew j).1 q with q | q
    · exact d.argr hk q
    · exact h.low j (List.mem_cons_of_mem _ q)
  · rcases (hnew j).1 q with q | q
    · refine h.sub k List.mem_cons_self y ?_
      rw [d.form hk]
      exact List.mem_cons_of_mem _ (List.mem_flatMap.2 ⟨j, q, hy⟩)
    · exact h.sub j (List.mem_cons_of_mem _ q) y hy
  · rcases setM_inv q with e | q
    · rw [e] at ha
      exact .inr ⟨a, (hnew a).2 (.inl ha), rfl⟩
    · exact key _ (h.args j hj q a ha)
  · show (if v = rt k then true else mk v) = false
    rw [if_neg (Ne.symm hv)]
    exact h.miss
/-- Found. -/
theorem Wk.found (d : Den n lb ar tg dn rt rk) {m v k : Nat} {mk : Nat → Bool} {rest : List Nat} (h : Wk n lb ar dn rt m v mk (k :: rest)) (hv : rt k = v) (h2 : (lb v).1 = 2) : ((2, (lb v).2, 0) : Nd) ∈ dn m := by
  refine h.sub k List.mem_cons_self _ ?_
  rw [d.free (h.low k List.mem_cons_self) (by rw [hv]; exact h2), hv]
  exact List.mem_cons_self
theorem Wk.none_of (d : Den n lb ar tg dn rt rk) {m v : Nat} {mk : Nat → Bool} (h : Wk n lb ar dn rt m v mk []) (hv : v < n) (h2 : (lb v).1 = 2) : ∀ (L k : Nat), k < n → (dn k).length ≤ L → mk (rt k) = true → ((2, (lb v).2, 0) : Nd) ∉ dn k
  | L, k, hk, hL, hmk => by
    cases L with
    | zero =>
      rw [d.form hk] at hL
      simp at hL
    | succ L =>
      rw [d.form hk]
      intro hm
      rcases List.mem_cons.1 hm with e | e
      · injection e with e1 e2
        injection e2 with e2 _
        have := d.uni v (rt k) hv (d.rt_lt hk) h2 e1.symm e2
        rw [← this, h.miss] at hmk
        cases hmk
      · obtain ⟨a, ha, e⟩ := List.mem_flatMap.1 e
        have hl := d.less hk ha
        rcases h.args (rt k) (d.rt_lt hk) hmk a ha with q | ⟨r, q, _⟩
        · exact h.none_of d hv h2 L a (d.argr hk ha) (by omega) q e
        · simp at q
/-- All was gone through. -/
theorem Wk.none (d : Den n lb ar tg dn rt rk) {m v : Nat} {mk : Nat → Bool} (h : Wk n lb ar dn rt m v mk []) (hm : m < n) (hv : v < n) (h2 : (lb v).1 = 2) : ((2, (lb v).2, 0) : Nd) ∉ dn m := by
  rcases h.start with q | ⟨r, q, _⟩
  · exact h.none_of d hv h2 _ m hm (Nat.le_refl _) q
  · simp at q
end
end Go.Proofs.Ytikpipenhamdbaa

namespace Go.Proofs.Ytikpipenhamdbaa

/-- How many variables lead nowhere. -/
def cv (lb : Nat → Int × List UInt8) (rt : Nat → Nat) : Nat → Nat
  | 0 => 0
  | n + 1 => cv lb rt n + if (lb n).1 = 2 ∧ rt n = n then 1 else 0
theorem cv_mono (lb lb' : Nat → Int × List UInt8) (rt rt' : Nat → Nat) : ∀ n, (∀ k, k < n → (lb' k).1 = 2 ∧ rt' k = k → (lb k).1 = 2 ∧ rt k = k) → cv lb' rt' n ≤ cv lb rt n
  | 0, _ => Nat.le_refl _
  | n + 1, h => by
    have ih := cv_mono lb lb' rt rt' n fun k hk => h k (by omega)
    have := h n (by omega)
    show cv lb' rt' n + _ ≤ cv lb rt n + _
    split
    · rw [if_pos (this (by assumption))]
      omega
    · omega
theorem cv_less (lb : Nat → Int × List UInt8) (rt rt' : Nat → Nat) (i : Nat) (hi2 : (lb i).1 = 2) (hii : rt i = i) (hi' : rt' i ≠ i) (h : ∀ k, k ≠ i → (lb k).1 = 2 ∧ rt' k = k → (lb k).1 = 2 ∧ rt k = k) : ∀ n, i < n → cv lb rt' n + 1 ≤ cv lb rt n
  | 0, hn => by omega
  | n + 1, hn => by
    show cv lb rt' n + _ + 1 ≤ cv lb rt n + _
    by_cases q : n = i
    · subst q
      have := cv_mono lb lb rt rt' n fun k hk => h k (by omega)
      rw [if_neg fun e => hi' e.2, if_pos ⟨hi2, hii⟩]
      omega
    · have ih := cv_less lb rt rt' i hi2 hii hi' h n (by omega)
      have := h n q
      split
      · rw [if_pos (this (by assumption))]
        omega
      · omega
theorem cv_more (lb lb' : Nat → Int × List UInt8) (rt rt' : Nat → Nat) (m : Nat) (h : ∀ k, k < m → lb' k = lb k ∧ rt' k = rt k) : ∀ n, cv lb' rt' (m + n) ≤ cv lb rt m + n
  | 0 => cv_mono lb lb' rt rt' m fun k hk e => by rw [(h k hk).1, (h k hk).2] at e; exact e
  | n + 1 => by
    have := cv_more lb lb' rt rt' m h n
    show cv lb' rt' (m + n) + _ ≤ _
    split <;> omega
end Go.Proofs.Ytikpipenhamdbaa

namespace Go.Proofs.Ytikpipenhamdbaa

/-- Does a row stand within another one? -/
def Part (m r : List Nd) : Prop := ∃ nd u v, nd.1 ≠ 2 ∧ r = nd :: (u ++ m ++ v)
theorem Part.less {m r : List Nd} (h : Part m r) : m.length < r.length := by
  obtain ⟨nd, u, v, _, rfl⟩ := h
  simp
  omega
theorem Part.trans {m r s : List Nd} (h : Part m r) (k : Part r s) : Part m s := by
  obtain ⟨nd, u, v, _, rfl⟩ := h
  obtain ⟨ne, u', v', h2, rfl⟩ := k
  exact ⟨ne, u' ++ nd :: u, v ++ v', h2, by simp⟩
theorem Part.sub {m r : List Nd} (σ : Sb) (h : Part m r) : Part (subF σ m) (subF σ r) := by
  obtain ⟨nd, u, v, h1, rfl⟩ := h
  exact ⟨nd, subF σ u, subF σ v, h1, by rw [subF_node _ h1, subF_app, subF_app]⟩
theorem part_arg (dn : Nat → List Nd) (nd : Nd) (h : nd.1 ≠ 2) : ∀ (bs : List Nat) (c : Nat), c ∈ bs → Part (dn c) (nd :: bs.flatMap dn) := fun bs c hc => by
  obtain ⟨a, d, rfl⟩ := List.append_of_mem hc
  exact ⟨nd, a.flatMap dn, d.flatMap dn, h, by simp⟩
/-- All that waits ahead of two that are to be made one stands within them. -/
def Nest (dn : Nat → List Nd) : List Tk → Prop
  | [] => True
  | t :: ts => (∀ D ∈ ts, D.done = true → Part (dn t.a) (dn D.a)) ∧ Nest dn ts
theorem Nest.sub {dn : Nat → List Nd} (σ : Sb) : ∀ {ts : List Tk}, Nest dn ts → Nest (fun k => subF σ (dn k)) ts
  | [], _ => trivial
  | _ :: _, h => ⟨fun D hD hd => (h.1 D hD hd).sub σ, h.2.sub σ⟩
theorem Nest.more {dn : Nat → List Nd} {a b ra rb : Nat} {ts : List Tk} (h : Nest dn (⟨a, b, false⟩ :: ts)) (hra : dn ra = dn a) (nd : Nd) (hnd : nd.1 ≠ 2) : ∀ (aL bL : List Nat), (∀ c ∈ aL, Part (dn c) (dn ra)) → Nest dn (pairTs aL bL ++ ⟨ra, rb, true⟩ :: ts)
  | [], _, _ => ⟨fun D hD hd => by
      show Part (dn ra) _
      rw [hra]
      exact h.1 D hD hd, h.2⟩
  | _ :: _, [], _ => ⟨fun D hD hd => by
      show Part (dn ra) _
      rw [hra]
      exact h.1 D hD hd, h.2⟩
  | c :: aL, d :: bL, hp => by
    have ih := Nest.more (rb := rb) h hra nd hnd aL bL fun c hc => hp c (List.mem_cons_of_mem _ hc)
    refine ⟨fun D hD hd => ?_, ih⟩
    show Part (dn c) _
    have hc := hp c List.mem_cons_self
    have key : ∀ (aL bL : List Nat), D ∈ pairTs aL bL ++ ⟨ra, rb, true⟩ :: ts → D ∈ (⟨ra, rb, true⟩ : Tk) :: ts := by
      intro aL
      induction aL with
      | nil => intro bL hD; exact hD
      | cons c aL ih2 =>
        intro bL hD
        cases bL with
        | nil => exact hD
        | cons d bL =>
          rcases List.mem_cons.1 hD with e | e
          · rw [e] at hd
            cases hd
          · exact ih2 bL e
    rcases List.mem_cons.1 (key aL bL hD) with e | e
    · rw [e]
      exact hc
    · exact hc.trans (by rw [hra]; exact h.1 D e hd)
/-- How many are to be made one. -/
def dc (ts : List Tk) : Nat := ts.countP (·.done)
def Few : List Tk → Prop
  | [] => True
  | t :: ts => (t :: ts).length ≤ 7 * dc (t :: ts) + 1 ∧ Few ts
theorem Few.one (a b : Nat) : Few [⟨a, b, false⟩] := ⟨by simp [dc], trivial⟩
theorem Few.more {a b ra rb : Nat} {ts : List Tk} (h : Few (⟨a, b, false⟩ :: ts)) : ∀ (aL bL : List Nat), aL.length ≤ 6 → Few (pairTs aL bL ++ ⟨ra, rb, true⟩ :: ts) ∧ dc (pairTs aL bL ++ ⟨ra, rb, true⟩ :: ts) = dc ts + 1 ∧ (pairTs aL bL ++ ⟨ra, rb, true⟩ :: ts).length ≤ ts.length + 1 + aL.length
  | [], bL, _ => by
    have h1 := h.1
    have e : dc (⟨ra, rb, true⟩ :: ts) = dc ts + 1 := by simp [dc]
    have e2 : dc (⟨a, b, false⟩ :: ts) = dc ts := by simp [dc]
    refine ⟨⟨?_, h.2⟩, e, by simp [pairTs]⟩
    rw [e]
    rw [e2] at h1
    simp at h1 ⊢
    omega
  | c :: aL, [], _ => by
    have h1 := h.1
    have e : dc (⟨ra, rb, true⟩ :: ts) = dc ts + 1 := by simp [dc]
    have e2 : dc (⟨a, b, false⟩ :: ts) = dc ts := by simp [dc]
    refine ⟨⟨?_, h.2⟩, e, by simp [pairTs]⟩
    rw [e]
    rw [e2] at h1
    simp at h1 ⊢
    omega
  | c :: aL, d :: bL, h6 => by
    obtain ⟨i1, i2, i3⟩ := Few.more (ra := ra) (rb := rb) h aL bL (by simp at h6; omega)
    have h1 := h.1
    have e2 : dc (⟨a, b, false⟩ :: ts) = dc ts := by simp [dc]
    have e3 : dc (pairTs (c :: aL) (d :: bL) ++ ⟨ra, rb, true⟩ :: ts) = dc (pairTs aL bL ++ ⟨ra, rb, true⟩ :: ts) := by simp [dc, pairTs]
    have e4 : (pairTs (c :: aL) (d :: bL) ++ ⟨ra, rb, true⟩ :: ts).length = (pairTs aL bL ++ ⟨ra, rb, true⟩ :: ts).length + 1 := by simp [pairTs]
    refine ⟨⟨?_, i1⟩, e3.trans i2, ?_⟩
    · show (pairTs (c :: aL) (d :: bL) ++ ⟨ra, rb, true⟩ :: ts).length ≤ 7 * dc (pairTs (c :: aL) (d :: bL) ++ ⟨ra, rb, true⟩ :: ts) + 1
      rw [e2, List.length_cons] at h1
      rw [List.length_cons] at h6
      rw [e3, i2, e4]
      omega
    · rw [e4, List.length_cons]
      omega
theorem done_rows {n : Nat} {dn : Nat → List Nd} : ∀ {ts : List Tk}, Nest dn ts → (∀ t ∈ ts, t.a < n) → ((ts.filter (·.done)).map (·.a)).Nodup
  | [], _, _ => by simp
  | t :: ts, h, hn => by
    have ih := done_rows h.2 fun t ht => hn t (List.mem_cons_of_mem _ ht)
    cases hd : t.done with
    | false => simpa [hd] using ih
    | true =>
      rw [List.filter_cons_of_pos hd, List.map_cons, List.nodup_cons]
      refine ⟨fun hm => ?_, ih⟩
      obtain ⟨D, hD, e⟩ := List.mem_map.1 hm
      obtain ⟨hD1, hD2⟩ := List.mem_filter.1 hD
      have := (h.1 D hD1 hD2).less
      rw [e] at this
      omega
theorem nodup_len : ∀ {ks M : List Nat}, ks.Nodup → (∀ k ∈ ks, k ∈ M) → ks.length ≤ M.length
  | [], _, _, _ => by simp
  | k :: ks, M, h, hm => by
    obtain ⟨h1, h2⟩ := List.nodup_cons.1 h
    have hk := hm k List.mem_cons_self
    have := nodup_len (M := M.erase k) h2 fun j hj => (List.mem_erase_of_ne (fun e => h1 (by rw [← e]; exact hj))).2 (hm j (List.mem_cons_of_mem _ hj))
    rw [List.length_erase_of_mem hk] at this
    have := List.length_pos_of_mem hk
    simp
    omega
/-- So many wait at most. -/
theorem few_len {n : Nat} {dn : Nat → List Nd} {ts : List Tk} (hf : Few ts) (h : Nest dn ts) (hn : ∀ t ∈ ts, t.a < n) : ts.length ≤ 7 * n + 1 := by
  have h1 : dc ts ≤ n := by
    have := nodup_len (M := List.range n) (done_rows h hn) fun k hk => by
      obtain ⟨t, ht, rfl⟩ := List.mem_map.1 hk
      exact List.mem_range.2 (hn t (List.mem_filter.1 ht).1)
    simp [List.countP_eq_length_filter, dc] at this ⊢
    exact this
  cases ts with
  | nil => simp
  | cons t ts =>
    have := hf.1
    omega
theorem dok_low {n : Nat} {dn : Nat → List Nd} : ∀ {ts : List Tk} {A B : List Nd}, Dok n dn A B ts → ∀ t ∈ ts, t.a < n ∧ t.b < n
  | [], _, _, _, t, ht => by simp at ht
  | ⟨a, b, true⟩ :: ts, A, B, h, t, ht => by
    obtain ⟨hab, _, _, h2⟩ := Dok.done.1 h
    rcases List.mem_cons.1 ht with e | e
    · rw [e]; exact hab
    · exact dok_low h2 t e
  | ⟨a, b, false⟩ :: ts, A, B, h, t, ht => by
    obtain ⟨hab, h2⟩ := Dok.todo.1 h
    rcases List.mem_cons.1 ht with e | e
    · rw [e]; exact hab
    · exact dok_low h2 t e
end Go.Proofs.Ytikpipenhamdbaa

namespace Go.Proofs.Ytikpipenhamdbaa

/-- May each node be? -/
def Okr (r : List Nd) : Prop := ∀ nd ∈ r, okB nd.1 nd.2.1 nd.2.2 = true
theorem Okr.nil : Okr [] := fun _ h => by simp at h
theorem Okr.app {a b : List Nd} : Okr (a ++ b) ↔ Okr a ∧ Okr b := List.forall_mem_append
theorem Okr.cons {nd : Nd} {r : List Nd} : Okr (nd :: r) ↔ okB nd.1 nd.2.1 nd.2.2 = true ∧ Okr r := List.forall_mem_cons
theorem ok_var {n : List UInt8} {l : Nat} (h : okB 2 n l = true) : varB n = true ∧ l = 0 := by
  simpa [okB] using h
theorem ok_two {n : List UInt8} (h : varB n = true) : okB 2 n 0 = true := by
  simp [okB, h]
theorem ok_kind {k : Int} {n : List UInt8} {l : Nat} (h : okB k n l = true) : (k = 1 ∨ k = 2 ∨ k = 3 ∨ k = 4) ∧ l ≤ 6 := by
  unfold okB at h
  split at h
  · simp at h
    omega
  · split at h
    · simp at h
      omega
    · split at h
      · simp at h
        omega
      · split at h
        · simp at h
          omega
        · cases h
theorem Okr.vok {r : List Nd} (h : Okr r) : vok r := fun nd hn h2 => by
  have := h nd hn
  rw [h2] at this
  exact (ok_var this).2
theorem ok_flat : ∀ (d : Nat) (t : Tn d), formB d t = true ↔ Okr (flat d t)
  | 0, t => t.elim
  | d + 1, ((k, n), ts) => by
    rw [form_succ, flat_succ, Okr.cons, Bool.and_eq_true]
    have : ts.all (formB d) = true ↔ Okr (flats d ts) := by
      rw [List.all_eq_true]
      induction ts with
      | nil => exact ⟨fun _ => Okr.nil, fun _ x hx => by simp at hx⟩
      | cons a r ih => rw [flats_cons, Okr.app, ← ok_flat d a, ← ih, List.forall_mem_cons]
    rw [this]
theorem Okr.sub {x : List UInt8} {u : List Nd} (hu : Okr u) : ∀ r : List Nd, Okr r → Okr (subF (one x u) r)
  | [], _ => Okr.nil
  | nd :: r, h => by
    obtain ⟨h1, h2⟩ := Okr.cons.1 h
    rw [subF_cons, Okr.app]
    refine ⟨?_, Okr.sub hu r h2⟩
    split
    · unfold one
      split
      · exact hu
      · exact Okr.cons.2 ⟨h1, Okr.nil⟩
    · exact Okr.cons.2 ⟨h1, Okr.nil⟩
theorem Okr.cut : ∀ (r : List Nd) (k : Nat), Okr r → Okr (cutF k r).1 ∧ Okr (cutF k r).2
  | [], 0, h => ⟨Okr.nil, h⟩
  | [], _ + 1, _ => ⟨Okr.nil, Okr.nil⟩
  | _ :: _, 0, h => ⟨Okr.nil, h⟩
  | nd :: r, k + 1, h => by
    obtain ⟨h1, h2⟩ := Okr.cons.1 h
    obtain ⟨g1, g2⟩ := Okr.cut r (k + nd.2.2) h2
    exact ⟨Okr.cons.2 ⟨h1, g1⟩, g2⟩
/-- What is bound may be. -/
def Okl (l : List (List UInt8 × List Nd)) : Prop := ∀ b ∈ l, varB b.1 = true ∧ Okr b.2
theorem Okl.nil : Okl [] := fun _ h => by simp at h
theorem Okl.cons {b : List UInt8 × List Nd} {l : List (List UInt8 × List Nd)} (h1 : varB b.1 = true ∧ Okr b.2) (h2 : Okl l) : Okl (b :: l) := List.forall_mem_cons.2 ⟨h1, h2⟩
theorem Okl.app {a b : List (List UInt8 × List Nd)} (h1 : Okl a) (h2 : Okl b) : Okl (a ++ b) := List.forall_mem_append.2 ⟨h1, h2⟩
theorem put_inv {c : List UInt8 × List Nd} {o : Option Uans} {l : List (List UInt8 × List Nd)} (h : o.map (putU c) = some (.inr l)) : ∃ l', o = some (.inr l') ∧ l = c :: l' := by
  cases o with
  | none => cases h
  | some y =>
    cases y with
    | inl e =>
      have h : some (Sum.inl e : Uans) = some (.inr l) := h
      injection h with h
      cases h
    | inr l' =>
      have h : some (Sum.inr (c :: l') : Uans) = some (.inr l) := h
      injection h with h
      injection h with h
      exact ⟨l', rfl, h.symm⟩
theorem uniF_ok : ∀ (f : Nat) (r s : List Nd) (l : List (List UInt8 × List Nd)), Okr r → Okr s → uniF f r s = some (.inr l) → Okl l
  | 0, _, _, _, _, _, h => by cases h
  | _ + 1, [], _, l, _, _, h => by
    simp only [uniF] at h
    injection h with h
    injection h with h
    rw [← h]
    exact Okl.nil
  | _ + 1, _ :: _, [], l, _, _, h => by
    simp only [uniF] at h
    injection h with h
    injection h with h
    rw [← h]
    exact Okl.nil
  | f + 1, a :: r, b :: s, l, hr, hs, h => by
    obtain ⟨ha, hr'⟩ := Okr.cons.1 hr
    obtain ⟨hb, hs'⟩ := Okr.cons.1 hs
    have key : ∀ (x : List UInt8) (u R S : List Nd), varB x = true → Okr u → Okr R → Okr S → ((uniF f (subF (one x u) R) (subF (one x u) S)).map (putU (x, u))) = some (.inr l) → Okl l := fun x u R S hx hu hR hS e => by
      obtain ⟨l', e1, rfl⟩ := put_inv e
      exact Okl.cons ⟨hx, hu⟩ (uniF_ok f _ _ l' (hu.sub R hR) (hu.sub S hS) e1)
    obtain ⟨cb1, cb2⟩ := Okr.cut (b :: s) 1 hs
    obtain ⟨ca1, ca2⟩ := Okr.cut (a :: r) 1 hr
    rw [uniF] at h
    split at h
    · exact uniF_ok f r s l hr' hs' h
    · split at h
      · rename_i h2
        rw [h2] at ha
        split at h
        · rename_i h3
          rw [h3] at hb
          split at h
          · exact key _ _ r s (ok_var ha).1 (Okr.cons.2 ⟨by rw [h3]; exact hb, Okr.nil⟩) hr' hs' h
          · exact key _ _ r s (ok_var hb).1 (Okr.cons.2 ⟨by rw [h2]; exact ha, Okr.nil⟩) hr' hs' h
        · split at h
          · injection h with h
            cases h
          · exact key _ _ r _ (ok_var ha).1 cb1 hr' cb2 h
      · split at h
        · rename_i h3
          rw [h3] at hb
          split at h
          · injection h with h
            cases h
          · exact key _ _ _ s (ok_var hb).1 ca1 ca2 hs' h
        · injection h with h
          cases h
theorem Okl.subL : ∀ {l : List (List UInt8 × List Nd)}, Okl l → ∀ r : List Nd, Okr r → Okr (subL l r)
  | [], _, _, hr => hr
  | b :: l, h, r, hr => Okl.subL (l := l) (fun c hc => h c (List.mem_cons_of_mem _ hc)) _ ((h b List.mem_cons_self).2.sub r hr)
theorem Prs.ok : ∀ (ps : List (List Nd × List Nd)) (L : List (List UInt8 × List Nd)) (i : Nat) {M : List (List UInt8 × List Nd)}, Okl L → (∀ p ∈ ps, Okr p.1 ∧ Okr p.2) → Prs ps L i (.inr M) → Okl M
  | [], L, i, M, hL, _, h => by
    have h : (Sum.inr M : Sum (Nat × Int) (List (List UInt8 × List Nd))) = .inr L := h
    injection h with h
    rw [h]
    exact hL
  | p :: ps, L, i, M, hL, hp, h => by
    rcases h with ⟨c, _, e⟩ | ⟨l, ⟨f, hu⟩, hr⟩
    · cases e
    · obtain ⟨h1, h2⟩ := hp p List.mem_cons_self
      exact Prs.ok ps (L ++ l) (i + 1) (hL.app (uniF_ok f _ _ l (hL.subL _ h1) (hL.subL _ h2) hu)) (fun q hq => hp q (List.mem_cons_of_mem _ hq)) hr
/-- A name that nothing is bound of stays. -/
theorem subL_stays {L : List (List UInt8 × List Nd)} {n : List UInt8} (h : ∀ b ∈ L, b.1 ≠ n) : subL L [(2, n, 0)] = [(2, n, 0)] :=
  subL_free (vok_cons.2 ⟨fun _ => rfl, vok_nil⟩) fun b hb hm => h b hb (by
    have := List.mem_singleton.1 hm
    injection this with _ this
    injection this)
/-- What says of each name what was bound, says of each row what was bound. -/
theorem says_all {θ : Sb} {L : List (List UInt8 × List Nd)} (h : ∀ n, subF θ [(2, n, 0)] = subL L [(2, n, 0)]) : ∀ r : List Nd, vok r → subF θ r = subL L r
  | [], _ => by rw [subL_nil]; rfl
  | nd :: r, hv => by
    obtain ⟨h1, h2⟩ := vok_cons.1 hv
    by_cases q : nd.1 = 2
    · rw [var_form q (h1 q)]
      show subF θ ([(2, nd.2.1, 0)] ++ r) = subL L ([(2, nd.2.1, 0)] ++ r)
      rw [subF_app, subL_app, h, says_all h r h2]
    · rw [subF_node _ q, subL_node q, says_all h r h2]
end Go.Proofs.Ytikpipenhamdbaa
