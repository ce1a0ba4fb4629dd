/- The program's Apply, of bounds with which nothing is wrong, where what comes is not too great. What Instance finds of two types, and what canonical types say of it: the plain side. -/
import Derived.Test.YthcejnpknjepfaaGreatDoorAb
import Derived.Test.YthcejnpknjepfaaGreatDoorMf
import Derived.Test.YthcejnpknjepfaaGreatDoorMp
namespace Go.Proofs.YthcejnpknjepfaaGreatDoor
open Go.RowKit

/-- A tree counted as one of E levels. -/
def liftT : (E : Nat) → Sigma Tn → Option (Tn E)
  | 0, _ => none
  | E + 1, u => if h : u.1 = E + 1 then some (h ▸ u.2) else (liftT E u).map (up E)
theorem lift_at : ∀ (E : Nat) (u : Sigma Tn), u.1 ≤ E → ∃ t : Tn E, liftT E u = some t ∧ flat E t = flat u.1 u.2 ∧ ∀ (W : World) (B : Nat) (v : Value), TyAt W B u.1 v u.2 → TyAt W B E v t
  | 0, ⟨0, u⟩, _ => u.elim
  | 0, ⟨d + 1, u⟩, h => by simp at h
  | E + 1, ⟨d, u⟩, h => by
    rw [liftT]
    by_cases e : d = E + 1
    · subst e
      rw [dif_pos rfl]
      exact ⟨u, rfl, rfl, fun W B v h => h⟩
    · rw [dif_neg e]
      obtain ⟨t, h1, h2, h3⟩ := lift_at E ⟨d, u⟩ (by show d ≤ E; have : d ≤ E + 1 := h; omega)
      rw [h1]
      exact ⟨up E t, rfl, (flat_up E t).trans h2, fun W B v h => TyAt.up E _ _ (h3 W B v h)⟩
theorem says_mem {bs : List Bd} {n : List UInt8} {u : Sigma Tn} (h : bdSays bs n = some u) : ∃ x ∈ bs, x.1 = n ∧ x.2 = u := by
  unfold bdSays at h
  obtain ⟨x, hx, hu⟩ := Option.map_eq_some_iff.1 h
  exact ⟨x, List.mem_of_find?_eq_some hx, by simpa using List.find?_some hx, hu⟩
theorem sum_le {l : List Nat} {x : Nat} (h : x ∈ l) : x ≤ l.sum := by
  induction l with
  | nil => cases h
  | cons a r ih =>
    rw [List.sum_cons]
    rcases List.mem_cons.1 h with rfl | h
    · omega
    · have := ih h; omega
/-- What the bounds say, as rows. -/
def bdRow (bs : List Bd) : Sb := fun n => (bdSays bs n).map fun u => flat u.1 u.2
set_option maxHeartbeats 16000000 in
set_option maxRecDepth 10000 in
theorem apply_ok (v : Value) (bs : List Bd) (d : Nat) (x : Value) (t : Tn d) (w : World) (B : Nat) (hB : B ≤ w.heap.size) (hv : BdAt w B v bs) (hx : TyAt w B d x t) (hl : bs.length ≤ 500) (hnd : (bs.map (·.1)).Nodup) (hok : ∀ x ∈ bs, varB x.1 = true ∧ wrongT x.2.1 x.2.2 = 0) (hwt : wrongT d t = 0) (hle : (flat d t).length + ((namesT d t).map (moreN bs)).sum ≤ 500) :
    Calls Tryz.prog 17 #[v, x] w fun r w' => Below w.heap.size w w' ∧ ∃ (k : Int) (n : ByteArray) (ad : Option Addr) (len cap D : Nat) (tt : Tn D), r = .returned (.tuple #[.agg #[.int .i64 k, .string n, .slice ad len cap], .int .i64 0]) ∧ TyAt w' w'.heap.size D (.agg #[.int .i64 k, .string n, .slice ad len cap]) tt ∧ flat D tt = subF (bdRow bs) (flat d t) := by
  obtain ⟨hF, hS⟩ := wrong_zero hwt
  obtain ⟨k, n, ad, len, cap, rfl⟩ := tree_form hx
  obtain ⟨E, hE⟩ : ∃ E, E = (bs.map fun x => x.2.1).sum := ⟨_, rfl⟩
  have hEl : ∀ n u, bdSays bs n = some u → u.1 ≤ E ∧ (flat u.1 u.2).length ≤ 500 := fun n u h => by
    obtain ⟨y, hy, _, e⟩ := says_mem h
    rw [← e, hE]
    exact ⟨sum_le (List.mem_map.2 ⟨y, hy, rfl⟩), (wrong_zero (hok y hy).2).2⟩
  obtain ⟨W, hW⟩ : ∃ W, W = (w.alloc (Obj.cells #[.int .i64 k, .string n, .slice ad len cap] 24)).alloc (Obj.cells #[.int .i64 0, .string ⟨#[]⟩, .slice none 0 0] 24) := ⟨_, rfl⟩
  have hbW : Below w.heap.size w W := by rw [hW]; exact ((Below.refl _ _).alloc (Nat.le_refl _) _).alloc (by simp) _
  have hsW : W.heap.size = w.heap.size + 2 := by rw [hW]; simp
  have arg : W.heap[w.heap.size]? = some (.cells #[.int .i64 k, .string n, .slice ad len cap] 24 (0, 0)) := by
    rw [hW, Below.heap_alloc _ _ _ (by simp)]
    show (w.heap.push _)[w.heap.size]? = _
    simp
  have res : W.heap[w.heap.size + 1]? = some (.cells #[.int .i64 0, .string ⟨#[]⟩, .slice none 0 0] 24 (0, 0)) := by
    rw [hW]
    show ((w.heap.push _).push _)[w.heap.size + 1]? = _
    rw [Array.getElem?_push, if_pos (by simp)]
  have C38 := values_ok v bs W B (Nat.le_trans hB hbW.size) (hv.below (hbW.mono hB) (Nat.le_refl _)) hl hnd hok
  have HX : Hid (∀ w1, Below W.heap.size W w1 → Below w.heap.size w w1 ∧ w1.heap[w.heap.size]? = some (.cells #[.int .i64 k, .string n, .slice ad len cap] 24 (0, 0)) ∧ w1.heap[w.heap.size + 1]? = some (.cells #[.int .i64 0, .string ⟨#[]⟩, .slice none 0 0] 24 (0, 0))) := fun w1 hb => ⟨hbW.trans (hb.mono (by omega)), (hb.block _ (lt_of_heap arg)).trans arg, (hb.block _ (lt_of_heap res)).trans res⟩
  have HV : Hid (∀ w1 w2, Below W.heap.size W w1 → Vs w1 W.heap.size B bs → Below w1.heap.size w1 w2 → Vs w2 W.heap.size B bs ∧ Below W.heap.size W w2) := fun w1 w2 h1 h2 h3 => ⟨h2.on (h3.block _ h2.lt) (h3.mono (by have := h2.lt; omega)), h1.trans (h3.mono h1.size)⟩
  have C28 : Hid (∀ w1, Below W.heap.size W w1 → Calls Tryz.prog 28 #[.slice (some ⟨w1.heap.size, 0, none⟩) 1 1] (w1.alloc (Obj.cells #[.int .i64 k, .string n, .slice ad len cap] 24)) fun r w' => r = .returned (.int .i64 0) ∧ Below w1.heap.size w1 w') := fun w1 h1 => by
    have hb1 : Below w1.heap.size w1 (w1.alloc (Obj.cells #[.int .i64 k, .string n, .slice ad len cap] 24)) := (Below.refl _ _).alloc (Nat.le_refl _) _
    obtain ⟨c0, c1, c2⟩ := cells_new w1 (.int .i64 k) (.string n) (.slice ad len cap) 24
    have hb2 := (hbW.trans (h1.mono (by omega))).trans (hb1.mono (by have := h1.size; omega))
    have := wrong_one d k n ad len cap t w _ B w1.heap.size (Nat.le_trans hB hb2.size) (by simp) hx (hb2.mono hB) (by omega) c0 c1 c2
    rw [hwt] at this
    refine Calls.mono this ?_
    rintro r w' ⟨rfl, hb⟩
    exact ⟨rfl, hb1.trans (hb.mono hb1.size)⟩
  have C39 : Hid (∀ w2, Below W.heap.size W w2 → Vs w2 W.heap.size B bs → Calls Tryz.prog 39 #[.map (some W.heap.size), .agg #[.int .i64 k, .string n, .slice ad len cap]] w2 fun r w' => r = .returned (.bool false) ∧ Below w2.heap.size w2 w') := fun w2 h2 hVs => by
    have hb2 : Below w.heap.size w w2 := hbW.trans (h2.mono (by omega))
    exact above_ok W.heap.size B bs d _ t w2 (TyAt.below (hb2.mono hB) (Nat.le_trans hB hb2.size) _ _ _ hx) (Nat.le_trans hB hb2.size) hVs (fun n u h => by have := (hEl n u h).2; omega) hle
  have C31 : Hid (∀ w3, Below W.heap.size W w3 → Vs w3 W.heap.size B bs → Calls Tryz.prog 31 #[.map (some W.heap.size), .agg #[.int .i64 k, .string n, .slice ad len cap]] w3 (PutPost w3 (E + d) (subT E (fun n => (bdSays bs n).bind (liftT E)) d t))) := fun w3 h3 hVs => by
    have hb3 : Below w.heap.size w w3 := hbW.trans (h3.mono (by omega))
    obtain ⟨s, hM, hsay⟩ := hVs
    refine put_any E _ s W.heap.size bs.length B d _ t w3 B (Nat.le_trans hB hb3.size) (Nat.le_trans hB hb3.size) (hx.on (hb3.mono hB)) hM (fun n => ?_) (by omega)
    rcases hsay n with ⟨e1, e2⟩ | ⟨v', u, e1, e2, hT⟩
    · exact .inl ⟨e1, by rw [e2]; rfl⟩
    · obtain ⟨t', a1, a2, a3⟩ := lift_at E u (hEl n u e2).1
      refine .inr ⟨v', t', e1, by rw [e2]; exact a1, a3 _ _ _ hT, ?_⟩
      rw [a2]
      have := (hEl n u e2).2
      omega
  have HFL : Hid (flat (E + d) (subT E (fun n => (bdSays bs n).bind (liftT E)) d t) = subF (bdRow bs) (flat d t)) := by
    show _ = _
    rw [sub_flat E _ d t hF]
    congr 1
    funext n
    unfold bdRow
    cases e2 : bdSays bs n with
    | none => rfl
    | some u =>
      obtain ⟨t', a1, a2, _⟩ := lift_at E u (hEl n u e2).1
      show (liftT E u).map (flat E) = some (flat u.1 u.2)
      rw [a1, ← a2]
      rfl
  obtain ⟨adv, capv, rfl, hlv, _⟩ := hv
  have hng : ¬ (100000 : Int) < (bs.length : Int) := by omega
  have HSW : Hid (W.heap.size = w.heap.size + 2) := hsW
  obtain ⟨x0, x1, x2⟩ := heap_cells arg
  generalize subT E (fun n => (bdSays bs n).bind (liftT E)) d t = tt at *
  clear hx hF hS hE hEl hbW hsW arg res hnd hok hwt hle hB
  go_enter Tryz.func17, Tryz.ntmps17
  go_upto_region 1 with fail
  rw [← hW]
  generalize hz : w.heap.size = z at x0 x1 x2 ⊢
  have HZ : Hid (w.heap.size = z) := hz
  clear hW hz
  go_wp2_with (first
    | (go_at_call 38; (with_reducible refine Calls.mono C38 ?_); rintro e' w1 ⟨hb1, rfl, hlt1, hVs1⟩; obtain ⟨hB1, y1, y2⟩ := HX.out w1 hb1; rw [HZ.out] at y1; obtain ⟨p0, p1, p2⟩ := heap_cells y1; have CW := C28.out w1 hb1)
    | (go_at_call 28; (with_reducible refine Calls.mono CW ?_); rintro e' w2 ⟨rfl, hb2⟩; obtain ⟨hVs2, hb2'⟩ := HV.out w1 w2 hb1 hVs1 hb2; obtain ⟨hB2, yy1, yy2⟩ := HX.out w2 hb2'; rw [HZ.out] at yy1; obtain ⟨pp0, pp1, pp2⟩ := heap_cells yy1; have CA := C39.out w2 hb2' hVs2)
    | (go_at_call 39; (with_reducible refine Calls.mono CA ?_); rintro e' w3 ⟨rfl, hb3⟩; obtain ⟨hVs3, hb3'⟩ := HV.out w2 w3 hb2' hVs2 hb3; obtain ⟨hB3, yz1, yz2⟩ := HX.out w3 hb3'; rw [HZ.out] at yz1; obtain ⟨qq0, qq1, qq2⟩ := heap_cells yz1; have CPP := C31.out w3 hb3' hVs3)
    | (go_at_call 31; (with_reducible refine Calls.mono CPP ?_); intro e' w4 hp; obtain ⟨hb4, k4, n4, ad4, l4, cp4, rws4, rfl, hT4, hS4⟩ := hp; obtain ⟨hB4, _, r4⟩ := HX.out w4 (hb3'.trans (hb4.mono hb3'.size)); rw [HZ.out] at r4; obtain ⟨r0, r1, r2⟩ := heap_cells r4; have f0 := heap_frozen (o := 0) r4; have f1 := heap_frozen (o := 1) r4; have f2 := heap_frozen (o := 2) r4))
  obtain ⟨V, hV, hv1, hoth, hszV, hbV⟩ := store3 r4 (.int .i64 k4) (.string n4) (.slice ad4 l4 cp4)
  rw [← hV]
  obtain ⟨s0, s1, s2⟩ := heap_cells hv1
  refine bodyPost_ret (v := .tuple #[.agg #[.int .i64 k4, .string n4, .slice ad4 l4 cp4], .int .i64 0]) (by simp [results, Tryz.results17, go_sem, s0, s1, s2]) rfl ?_
  have hzz := HZ.out
  have hsw := HSW.out
  have hs3 := hb3'.size
  refine ⟨hB4.trans (hbV.mono (by omega)), k4, n4, ad4, l4, cp4, E + d, tt, rfl, TyO.at _ _ _ _ (fun p hp g hg => ?_) (TyO.on _ _ _ _ (fun p hp g hg => ?_) hT4), HFL.out⟩
  · obtain ⟨g', e1, e2, e3⟩ := hS4.1 p hp
    rw [hg] at e1
    have := Option.some.inj e1
    omega
  · obtain ⟨g', e1, e2, e3⟩ := hS4.1 p hp
    rw [hg] at e1
    have := Option.some.inj e1
    exact hoth g (by omega)
end Go.Proofs.YthcejnpknjepfaaGreatDoor

namespace Go.Proofs.YthcejnpknjepfaaGreatDoor
open Go.RowKit

/-- What is found has names of the general tree; what they stand for are trees of the special one. -/
theorem fit_facts (S : List UInt8 → Prop) : ∀ (d : Nat) (t : Tn d) (e : Nat) (u : Tn e) (σ : Sb) (M : Nat), formB e u = true → (flat e u).length ≤ M → (∀ n ∈ namesT d t, S n) → (∀ n r, σ n = some r → S n ∧ ∃ (d' : Nat) (u' : Tn d'), formB d' u' = true ∧ r = flat d' u' ∧ r.length ≤ M) →
    ∀ n r, (fitT d t e u σ).1 n = some r → S n ∧ ∃ (d' : Nat) (u' : Tn d'), formB d' u' = true ∧ r = flat d' u' ∧ r.length ≤ M
  | 0, t, _, _, _, _, _, _, _, _ => t.elim
  | _ + 1, _, 0, u, _, _, _, _, _, _ => u.elim
  | d + 1, ((k, m), ts), e + 1, ((k', m'), us), σ, M, hf, hM, hS, hσ => fun n r h => by
    by_cases hk : k = 2
    · subst hk
      have h : (fitV σ m (flat (e + 1) ((k', m'), us))).1 n = some r := by rw [← fit_var d m ts e ((k', m'), us) σ]; exact h
      rw [names_var] at hS
      unfold fitV at h
      cases hm : σ m with
      | none =>
        rw [hm] at h
        have h : (if n = m then some (flat (e + 1) ((k', m'), us)) else σ n) = some r := h
        by_cases hn : n = m
        · rw [if_pos hn] at h
          rw [hn, ← Option.some.inj h]
          exact ⟨hS m (by simp), _, _, hf, rfl, hM⟩
        · rw [if_neg hn] at h
          exact hσ n r h
      | some r' =>
        rw [hm] at h
        exact hσ n r h
    · rw [names_node _ _ _ _ hk] at hS
      by_cases hh : k = k' ∧ m = m'
      · obtain ⟨rfl, rfl⟩ := hh
        have h : (eqAll (fun s t u => fitT d t e u s) σ ts us).1 n = some r := by rw [← fit_node d k m ts e us σ hk]; exact h
        rw [flat_succ, List.length_cons] at hM
        unfold eqAll at h
        split at h
        · have key : ∀ (ts : List (Tn d)) (us : List (Tn e)) (σ : Sb), (∀ a ∈ us, formB e a = true) → (flats e us).length ≤ M → (∀ n ∈ ts.flatMap (namesT d), S n) → (∀ n r, σ n = some r → S n ∧ ∃ (d' : Nat) (u' : Tn d'), formB d' u' = true ∧ r = flat d' u' ∧ r.length ≤ M) → ∀ n r, (eqGo (fun s t u => fitT d t e u s) σ ts us).1 n = some r → S n ∧ ∃ (d' : Nat) (u' : Tn d'), formB d' u' = true ∧ r = flat d' u' ∧ r.length ≤ M := fun ts => by
            induction ts with
            | nil =>
              intro us σ _ _ _ hσ n r h
              cases us with
              | nil => exact hσ n r h
              | cons u us => exact hσ n r h
            | cons t ts ih =>
              intro us σ ha hl hS hσ n r h
              cases us with
              | nil => exact hσ n r h
              | cons u us =>
                rw [eqGo] at h
                rw [flats_cons, List.length_append] at hl
                rw [List.flatMap_cons] at hS
                have h1 := fit_facts S d t e u σ M (ha u (by simp)) (by omega) (fun n hn => hS n (List.mem_append.2 (.inl hn))) hσ
                split at h
                · exact ih us _ (fun b hb => ha b (by simp [hb])) (by omega) (fun n hn => hS n (List.mem_append.2 (.inr hn))) h1 n r h
                · exact h1 n r h
          exact key ts us σ (form_args hf) (by omega) hS hσ n r h
        · exact hσ n r h
      · have h : ((σ, false) : Sb × Bool).1 n = some r := by rw [← fit_no d k k' m m' ts e us σ hk hh]; exact h
        exact hσ n r h
theorem form_names : ∀ (d : Nat) (t : Tn d), formB d t = true → ∀ n ∈ namesT d t, varB n = true
  | 0, t, _, _, _ => t.elim
  | d + 1, ((k, m), ts), hf, n, hn => by
    by_cases hk : k = 2
    · subst hk
      rw [names_var] at hn
      rw [List.mem_singleton.1 hn]
      rw [form_succ, Bool.and_eq_true] at hf
      have h := hf.1
      simp [okB] at h
      exact h.1
    · rw [names_node _ _ _ _ hk] at hn
      obtain ⟨a, ha, hn⟩ := List.mem_flatMap.1 hn
      exact form_names d a (form_args hf a ha) n hn
theorem inst_facts {d : Nat} {t : Tn d} {e : Nat} {u : Tn e} (hf : formB d t = true) (hg : formB e u = true) (hl : (flat e u).length ≤ 500) (n : List UInt8) (r : List Nd) (h : (instR d t e u).1 n = some r) : varB n = true ∧ ∃ (d' : Nat) (u' : Tn d'), formB d' u' = true ∧ r = flat d' u' ∧ r.length ≤ 500 :=
  fit_facts (fun n => varB n = true) d t e u (fun _ => none) 500 hg hl (form_names d t hf) (fun n r h => (by cases h)) n r h
theorem inst_pos {d : Nat} {t : Tn d} {e : Nat} {u : Tn e} (hf : formB d t = true) (hg : formB e u = true) (hl : (flat e u).length ≤ 500) (n : List UInt8) (r : List Nd) (h : (instR d t e u).1 n = some r) : 0 < r.length := by
  obtain ⟨_, d', u', _, e1, _⟩ := inst_facts hf hg hl n r h
  rw [e1]
  exact flat_pos d' u'
/-- Two types have one canonical one just if each is an instance of the other. -/
theorem one_plain {d : Nat} {t : Tn d} {e : Nat} {u : Tn e} (hf : formB d t = true) (hg : formB e u = true) (hl : (flat d t).length ≤ 500) (hm : (flat e u).length ≤ 500) : decide (canL (flat d t) = canL (flat e u)) = ((instR d t e u).2 && (instR e u d t).2) := by
  rw [Bool.eq_iff_iff, decide_eq_true_eq, Bool.and_eq_true]
  constructor
  · intro h
    obtain ⟨θ, h1, h2⟩ := can_make _ _ (form_ok e u hg) hl hm h
    obtain ⟨τ, k1, k2⟩ := can_make _ _ (form_ok d t hf) hm hl h.symm
    exact ⟨(fit_whole θ h1 d t e u (fun _ => none) hf (fun n r h => (by cases h)) h2).1, (fit_whole τ k1 e u d t (fun _ => none) hg (fun n r h => (by cases h)) k2).1⟩
  · rintro ⟨h1, h2⟩
    obtain ⟨_, a2, _⟩ := fit_sound d t e u (fun _ => none) hf h1
    obtain ⟨_, b2, _⟩ := fit_sound e u d t (fun _ => none) hg h2
    exact sub_both (inst_pos hf hg hm) (inst_pos hg hf hl) (form_ok d t hf) (form_ok e u hg) a2 b2
theorem more_row (bs : List Bd) : moreN bs = lessN (bdRow bs) := by
  funext n
  unfold moreN lessN bdRow
  cases bdSays bs n <;> rfl
theorem row_pos (bs : List Bd) (n : List UInt8) (r : List Nd) (h : bdRow bs n = some r) : 0 < r.length := by
  unfold bdRow at h
  obtain ⟨u, _, e⟩ := Option.map_eq_some_iff.1 h
  rw [← e]
  exact flat_pos _ _
/-- The bounds say what was found. -/
theorem row_says {bs : List Bd} {σ : Sb} {ks : List (List UInt8)} (h1 : ∀ k, k ∈ ks ↔ (σ k).isSome = true) (h2 : bs.map (·.1) = ks.mergeSort leB) (h3 : ∀ x ∈ bs, σ x.1 = some (flat x.2.1 x.2.2)) : bdRow bs = σ := by
  funext n
  unfold bdRow
  cases e : bdSays bs n with
  | some u =>
    obtain ⟨x, hx, hn, hu⟩ := says_mem e
    rw [← hn, h3 x hx, ← hu]
    rfl
  | none =>
    cases e2 : σ n with
    | none => rfl
    | some r =>
      exfalso
      have hk : n ∈ ks := (h1 n).2 (by rw [e2]; rfl)
      have hb : n ∈ bs.map (·.1) := by rw [h2]; exact List.mem_mergeSort.2 hk
      obtain ⟨x, hx, hn⟩ := List.mem_map.1 hb
      have : ∀ l : List Bd, x ∈ l → bdSays l n ≠ none := fun l => by
        induction l with
        | nil => intro h; cases h
        | cons y l ih =>
          intro h
          rw [bdSays_cons]
          by_cases q : y.1 = n
          · rw [if_pos q]; intro h; cases h
          · rw [if_neg q]
            rcases List.mem_cons.1 h with rfl | h
            · exact absurd hn q
            · exact ih h
      exact this bs hx e
/-- What Apply asks of the bounds that Instance gives, and what comes of them. -/
theorem inst_apply {d : Nat} {t : Tn d} {e : Nat} {u : Tn e} (hf : formB d t = true) (hg : formB e u = true) (hm : (flat e u).length ≤ 500) (h1 : (instR d t e u).2 = true) {bs : List Bd} {ks : List (List UInt8)} (k1 : ks.Nodup) (k2 : ks.length ≤ 500) (k3 : ∀ k, k ∈ ks ↔ ((instR d t e u).1 k).isSome = true) (k4 : bs.map (·.1) = ks.mergeSort leB) (k5 : ∀ x ∈ bs, (instR d t e u).1 x.1 = some (flat x.2.1 x.2.2)) :
    bs.length ≤ 500 ∧ (bs.map (·.1)).Nodup ∧ (∀ x ∈ bs, varB x.1 = true ∧ wrongT x.2.1 x.2.2 = 0) ∧ (flat d t).length + ((namesT d t).map (moreN bs)).sum ≤ 500 ∧ subF (bdRow bs) (flat d t) = flat e u := by
  have hrow := row_says k3 k4 k5
  obtain ⟨_, a2, _⟩ := fit_sound d t e u (fun _ => none) hf h1
  have a2 : subF (instR d t e u).1 (flat d t) = flat e u := a2
  have hs : subF (bdRow bs) (flat d t) = flat e u := by rw [hrow]; exact a2
  refine ⟨?_, ?_, fun x hx => ?_, ?_, hs⟩
  · have := congrArg List.length k4
    rw [List.length_map, List.length_mergeSort] at this
    omega
  · rw [k4]
    exact (List.mergeSort_perm ks leB).nodup_iff.2 k1
  · obtain ⟨c1, d', u', c2, c3, c4⟩ := inst_facts hf hg hm _ _ (k5 x hx)
    refine ⟨c1, ?_⟩
    have := (flat_same _ _ _ _ c3).1
    unfold wrongT
    rw [this, if_pos c2, if_neg (by omega)]
  · have := sub_len (bdRow bs) (row_pos bs) d t hf
    rw [hs, ← more_row bs] at this
    omega
end Go.Proofs.YthcejnpknjepfaaGreatDoor
