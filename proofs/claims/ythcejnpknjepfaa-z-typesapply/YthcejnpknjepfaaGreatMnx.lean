/- The program's Instance. The program's valuesOf, of bounds with which nothing is wrong. -/
import Derived.Test.YthcejnpknjepfaaGreatLi
import Derived.Test.YthcejnpknjepfaaGreatEv
import Derived.Test.YthcejnpknjepfaaGreatMhx
namespace Go.Proofs.YthcejnpknjepfaaGreat
open Go.RowKit

/-- What is found are nodes of the special tree, or was there. -/
theorem fit_small : ∀ (d : Nat) (t : Tn d) (e : Nat) (u : Tn e) (σ : Sb) (n : List UInt8) (r : List Nd), (fitT d t e u σ).1 n = some r → σ n = some r ∨ r.length ≤ (flat e u).length
  | 0, t, _, _, _, _, _, _ => t.elim
  | _ + 1, _, 0, u, _, _, _, _ => u.elim
  | d + 1, ((k, m), ts), e + 1, ((k', m'), us), σ, n, r, h => by
    by_cases hk : k = 2
    · subst hk
      have h : (fitV σ m (flat (e + 1) ((k', m'), us))).1 n = some r := by rw [← fit_var d m ts e ((k', m'), us) σ]; exact h
      unfold fitV at h
      cases hσ : σ m with
      | none =>
        rw [hσ] at h
        simp only at h
        by_cases hn : n = m
        · rw [if_pos hn] at h
          rw [← Option.some.inj h]
          exact .inr (Nat.le_refl _)
        · rw [if_neg hn] at h
          exact .inl h
      | some r' =>
        rw [hσ] at h
        exact .inl h
    · by_cases hh : k = k' ∧ m = m'
      · obtain ⟨rfl, rfl⟩ := hh
        have h : (eqAll (fun s t u => fitT d t e u s) σ ts us).1 n = some r := by rw [← fit_node d k m ts e us σ hk]; exact h
        unfold eqAll at h
        split at h
        · have key : ∀ (ts : List (Tn d)) (us : List (Tn e)) (σ : Sb), (eqGo (fun s t u => fitT d t e u s) σ ts us).1 n = some r → σ n = some r ∨ r.length ≤ (flats e us).length := fun ts => by
            induction ts with
            | nil =>
              intro us σ h
              cases us with
              | nil => exact .inl h
              | cons u us => exact .inl h
            | cons t ts ih =>
              intro us σ h
              cases us with
              | nil => exact .inl h
              | cons u us =>
                rw [eqGo] at h
                rw [flats_cons, List.length_append]
                split at h
                · rcases ih us _ h with h | h
                  · rcases fit_small d t e u σ n r h with h | h
                    · exact .inl h
                    · exact .inr (by omega)
                  · exact .inr (by omega)
                · rcases fit_small d t e u σ n r h with h | h
                  · exact .inl h
                  · exact .inr (by omega)
          rcases key ts us σ h with h | h
          · exact .inl h
          · exact .inr (by rw [flat_succ, List.length_cons]; omega)
        · exact .inl h
      · have h : ((σ, false) : Sb × Bool).1 n = some r := by rw [← fit_no d k k' m m' ts e us σ hk hh]; exact h
        exact .inl h
theorem names_le : ∀ (d : Nat) (t : Tn d), (namesT d t).length ≤ (flat d t).length
  | 0, t => t.elim
  | d + 1, ((k, n), ts) => by
    rw [flat_succ, List.length_cons]
    by_cases h : k = 2
    · subst h
      rw [names_var]
      simp
    · rw [names_node _ _ _ _ h]
      have : ∀ ts : List (Tn d), (ts.flatMap (namesT d)).length ≤ (flats d ts).length := fun ts => by
        induction ts with
        | nil => simp
        | cons a r ih =>
          rw [List.flatMap_cons, List.length_append, flats_cons, List.length_append]
          have := names_le d a
          omega
      have := this ts
      omega
/-- What Instance finds. -/
def instR (d : Nat) (t : Tn d) (e : Nat) (u : Tn e) : Sb × Bool := fitT d t e u (fun _ => none)
/-- What Instance answers. -/
def InstPost (w : World) (d : Nat) (t : Tn d) (e : Nat) (u : Tn e) (r : Ending) (w' : World) : Prop :=
  Below w.heap.size w w' ∧ ∃ (v : Value) (es : List Bl4) (bs : List Bd) (rss : List (List (Value × Nat))),
    r = .returned (.tuple #[v, .bool (decide (wrongs [⟨d, t⟩, ⟨e, u⟩] = 0) && (instR d t e u).2), .int .i64 (wrongs [⟨d, t⟩, ⟨e, u⟩])]) ∧ RowB w' w.heap.size v es bs rss ∧
    (((decide (wrongs [⟨d, t⟩, ⟨e, u⟩] = 0) && (instR d t e u).2) = false ∧ v = .slice none 0 0 ∧ bs = []) ∨
     ((decide (wrongs [⟨d, t⟩, ⟨e, u⟩] = 0) && (instR d t e u).2) = true ∧ ∃ ks : List (List UInt8), ks.Nodup ∧ ks.length ≤ 500 ∧ (∀ k, k ∈ ks ↔ ((instR d t e u).1 k).isSome = true) ∧ bs.map (·.1) = ks.mergeSort leB ∧ ∀ x ∈ bs, (instR d t e u).1 x.1 = some (flat x.2.1 x.2.2)))
set_option maxHeartbeats 16000000 in
set_option maxRecDepth 10000 in
theorem instance_any (d : Nat) (t : Tn d) (e : Nat) (u : Tn e) (x y : Value) (w : World) (B : Nat) (hB : B ≤ w.heap.size) (hx : TyAt w B d x t) (hy : TyAt w B e y u) (hN : (flat d t).length ≤ 4194304) (hM : (flat e u).length ≤ 4194304) :
    Calls Tryz.prog 15 #[x, y] w (InstPost w d t e u) := by
  obtain ⟨k, n, ad, len, cap, rfl⟩ := tree_form hx
  obtain ⟨k', n', ad', len', cap', rfl⟩ := tree_form hy
  obtain ⟨W, hW⟩ : ∃ W, W = ((w.alloc (Obj.cells #[.int .i64 k, .string n, .slice ad len cap] 25)).alloc (Obj.cells #[.int .i64 k', .string n', .slice ad' len' cap'] 25)).alloc (Obj.cells #[.int .i64 k, .string n, .slice ad len cap, .int .i64 k', .string n', .slice ad' len' cap'] 25) := ⟨_, rfl⟩
  have hbW : Below w.heap.size w W := by rw [hW]; exact (((Below.refl _ _).alloc (Nat.le_refl _) _).alloc (by simp) _).alloc (by simp; omega) _
  have hsW : W.heap.size = w.heap.size + 3 := by rw [hW]; simp
  have x1 : W.heap[w.heap.size]? = some (.cells #[.int .i64 k, .string n, .slice ad len cap] 25 (0, 0)) := by
    rw [hW, Below.heap_alloc _ _ _ (by simp; omega), Below.heap_alloc _ _ _ (by simp)]
    show (w.heap.push _)[w.heap.size]? = _
    simp
  have x2 : W.heap[w.heap.size + 1]? = some (.cells #[.int .i64 k', .string n', .slice ad' len' cap'] 25 (0, 0)) := by
    rw [hW, Below.heap_alloc _ _ _ (by simp)]
    show ((w.heap.push _).push _)[w.heap.size + 1]? = _
    rw [Array.getElem?_push, if_pos (by simp)]
  have x3 : W.heap[w.heap.size + 1 + 1]? = some (.cells #[.int .i64 k, .string n, .slice ad len cap, .int .i64 k', .string n', .slice ad' len' cap'] 25 (0, 0)) := by
    rw [hW]
    show (((w.heap.push _).push _).push _)[w.heap.size + 1 + 1]? = _
    rw [Array.getElem?_push, if_pos (by simp)]
  have C1 := wrong_list [(k, n, .slice ad len cap), (k', n', .slice ad' len' cap')] [⟨d, t⟩, ⟨e, u⟩] (w.heap.size + 1 + 1) 2 W B (Nat.le_trans hB hbW.size) (by omega) (fun j u hu => by
    match j with
    | 0 => simp [elCells] at hu; rw [← hu]; simp only [World.cell?, x3]; rfl
    | 1 => simp [elCells] at hu; rw [← hu]; simp only [World.cell?, x3]; rfl
    | 2 => simp [elCells] at hu; rw [← hu]; simp only [World.cell?, x3]; rfl
    | 3 => simp [elCells] at hu; rw [← hu]; simp only [World.cell?, x3]; rfl
    | 4 => simp [elCells] at hu; rw [← hu]; simp only [World.cell?, x3]; rfl
    | 5 => simp [elCells] at hu; rw [← hu]; simp only [World.cell?, x3]; rfl
    | j + 6 => simp [elCells] at hu) ⟨rfl, fun j hj hj' => by
      match j with
      | 0 => exact hx.on (hbW.mono hB)
      | 1 => exact hy.on (hbW.mono hB)
      | j + 2 => simp at hj; omega⟩ (by simpa using ⟨hN, hM⟩) (by simp)
  have HX : Hid (∀ w1, Below W.heap.size W w1 → Below w.heap.size w w1 ∧ w1.heap[w.heap.size]? = some (.cells #[.int .i64 k, .string n, .slice ad len cap] 25 (0, 0)) ∧ w1.heap[w.heap.size + 1]? = some (.cells #[.int .i64 k', .string n', .slice ad' len' cap'] 25 (0, 0))) := fun w1 hb => ⟨hbW.trans (hb.mono (by omega)), (hb.block _ (lt_of_heap x1)).trans x1, (hb.block _ (lt_of_heap x2)).trans x2⟩
  have hmm := @run_makeMap Tryz.prog
  unfold InstPost
  by_cases h0 : wrongs [⟨d, t⟩, ⟨e, u⟩] = 0
  · have hw : wrongT d t = 0 ∧ wrongT e u = 0 := by
      unfold wrongs at h0
      split at h0
      · rename_i h1
        unfold wrongs at h0
        split at h0
        · rename_i h2; exact ⟨h1, h2⟩
        · rename_i h2; exact absurd h0 h2
      · rename_i h1; exact absurd h0 h1
    rw [h0] at C1 ⊢
    simp only [decide_true, Bool.true_and]
    obtain ⟨hF, hS⟩ := wrong_zero hw.1
    obtain ⟨hF', hS'⟩ := wrong_zero hw.2
    have hLn := names_short d _ t hx
    have hLl : (namesT d t).length ≤ 500 := Nat.le_trans (names_le d t) hS
    have HFIT : Hid (∀ w1, Below w.heap.size w w1 → Calls Tryz.prog 37 #[.map (some w1.heap.size), .agg #[.int .i64 k, .string n, .slice ad len cap], .agg #[.int .i64 k', .string n', .slice ad' len' cap']] (w1.alloc (.map #[] 0)) fun r w' => r = .returned (.bool (instR d t e u).2) ∧ Hid ((w1.alloc (.map #[] 0)).grownBy w' (some w1.heap.size) ∧ Sg w' w1.heap.size B (namesT d t) (instR d t e u).1)) := fun w1 hb1 => by
      have hb2 : Below w.heap.size w (w1.alloc (.map #[] 0)) := hb1.alloc hb1.size _
      have hs1 := hb1.size
      have hSg : Sg (w1.alloc (.map #[] 0)) w1.heap.size B (namesT d t) (fun _ => none) := ⟨0, _, [], Mv.made w1, List.nodup_nil, rfl, fun k => ⟨fun h => (by cases h), fun h => (by cases h)⟩, fun k h => (by cases h), fun n => .inl ⟨rfl, rfl⟩⟩
      refine Calls.mono (fit_any w1.heap.size B (namesT d t) hLl (by omega) d t e u _ _ (fun _ => none) _ hSg (hx.on (hb2.mono hB)) (hy.on (hb2.mono hB)) fun m hm => hm) ?_
      rintro r w' ⟨rfl, hg, hs⟩
      exact ⟨rfl, hg, hs⟩
    have HLIST : Hid (∀ b w9, Sg w9 b B (namesT d t) (instR d t e u).1 → B ≤ w9.heap.size → Calls Tryz.prog 38 #[.map (some b)] w9 (ListPost w9 (instR d t e u).1)) := fun b w9 hs hb => list_any b B (namesT d t) hLl hLn _ (fun n r h => by
      rcases fit_small d t e u (fun _ => none) n r h with h | h
      · cases h
      · omega) w9 hb hs
    generalize instR d t e u = R at *
    have HBB : Hid (B ≤ w.heap.size) := hB
    clear hx hy hN hM h0 hw hF hS hF' hS' hLn hLl x1 x2 x3 hbW hsW hB
    cases hR : R.2 with
    | false =>
      rw [hR] at HFIT
      go_enter Tryz.func15, Tryz.ntmps15
      go_wp2_with (first
        | (rw [← hW]; go_at_call 31; (with_reducible refine Calls.mono C1 ?_); rintro e' w1 ⟨rfl, hb1⟩; obtain ⟨hB1, y1, y2⟩ := HX.out _ hb1; have hlt1 := lt_of_heap y1; have hlt2 := lt_of_heap y2; have bm : Below w1.heap.size w1 (w1.alloc (Obj.map #[] 0)) := (Below.refl _ _).alloc (Nat.le_refl _) _; obtain ⟨p0, p1, p2⟩ := heap_cells ((bm.block _ hlt1).trans y1); obtain ⟨q0, q1, q2⟩ := heap_cells ((bm.block _ hlt2).trans y2); have C2 := HFIT.out w1 hB1)
        | (go_at_call 37; (with_reducible refine Calls.mono C2 ?_); rintro e' w3 ⟨rfl, HG⟩))
      refine bodyPost_ret (v := .tuple #[.slice none 0 0, .bool false, .int .i64 0]) (by simp [results, Tryz.results15, go_sem]) rfl ?_
      have hb3 : Below w.heap.size w w3 := (hB1.trans (bm.mono hB1.size)).grown HG.out.1 (by have := hB1.size; simp; omega) (fun g e0 => by cases e0; exact hB1.size)
      exact ⟨hb3, _, [], [], [], rfl, RowB.nil _ _, .inl ⟨trivial, rfl, rfl⟩⟩
    | true =>
      rw [hR] at HFIT
      go_enter Tryz.func15, Tryz.ntmps15
      go_wp2_with (first
        | (rw [← hW]; go_at_call 31; (with_reducible refine Calls.mono C1 ?_); rintro e' w1 ⟨rfl, hb1⟩; obtain ⟨hB1, y1, y2⟩ := HX.out _ hb1; have hlt1 := lt_of_heap y1; have hlt2 := lt_of_heap y2; have bm : Below w1.heap.size w1 (w1.alloc (Obj.map #[] 0)) := (Below.refl _ _).alloc (Nat.le_refl _) _; obtain ⟨p0, p1, p2⟩ := heap_cells ((bm.block _ hlt1).trans y1); obtain ⟨q0, q1, q2⟩ := heap_cells ((bm.block _ hlt2).trans y2); have C2 := HFIT.out w1 hB1)
        | (go_at_call 37; (with_reducible refine Calls.mono C2 ?_); rintro e' w3 ⟨rfl, HG⟩; have hb3 : Below w.heap.size w w3 := (hB1.trans (bm.mono hB1.size)).grown HG.out.1 (by have := hB1.size; simp; omega) (fun g e0 => by cases e0; exact hB1.size); have C3 := HLIST.out _ w3 HG.out.2 (Nat.le_trans HBB.out hb3.size))
        | (go_at_call 38; (with_reducible refine Calls.mono C3 ?_); intro e' w4 hp; obtain ⟨hb4, v, es, bs, rss, ks, rfl, hrow, hk1, hk2, hk3, hk4, hk5⟩ := hp; obtain ⟨va, vc, rfl⟩ := row_form4 hrow))
      refine bodyPost_ret (v := .tuple #[.slice va es.length vc, .bool true, .int .i64 0]) (by simp [results, Tryz.results15, go_sem]) rfl ?_
      refine ⟨hb3.trans (hb4.mono hb3.size), _, es, bs, rss, rfl, ⟨hrow.own.mono hb3.size, hrow.len, hrow.rlen, hrow.name, fun j a b c => TyO.mono hb3.size _ _ _ _ (hrow.each j a b c), ⟨fun p hp => by obtain ⟨g, q1, q2, q3⟩ := hrow.sep.1 p hp; exact ⟨g, q1, Nat.le_trans hb3.size q2, q3⟩, hrow.sep.2⟩, hrow.away⟩, .inr ⟨trivial, ks, hk1, hk2, hk3, hk4, hk5⟩⟩
  · have hd : decide (wrongs [⟨d, t⟩, ⟨e, u⟩] = 0) = false := by simpa using h0
    rw [hd]
    simp only [Bool.false_and]
    generalize wrongs [⟨d, t⟩, ⟨e, u⟩] = E at *
    have hneb : (E != 0) = true := by simpa using h0
    have HE : Hid (E ≠ 0) := h0
    clear hx hy hN hM h0 x1 x2 x3 hbW hsW hB hd hmm
    go_enter Tryz.func15, Tryz.ntmps15
    go_wp2_with (rw [← hW]; go_at_call 31; (with_reducible refine Calls.mono C1 ?_); rintro e' w1 ⟨rfl, hb1⟩; obtain ⟨hB1, y1, y2⟩ := HX.out _ hb1)
    refine bodyPost_ret (v := .tuple #[.slice none 0 0, .bool false, .int .i64 E]) (by simp [results, Tryz.results15, go_sem]) rfl ?_
    exact ⟨hB1, _, [], [], [], rfl, RowB.nil _ _, .inl ⟨trivial, rfl, rfl⟩⟩
end Go.Proofs.YthcejnpknjepfaaGreat

namespace Go.Proofs.YthcejnpknjepfaaGreat
open Go.RowKit

/-- What a row of bounds says of a name: the tree that the first bound of that name has. -/
def bdSays (bs : List Bd) (n : List UInt8) : Option (Sigma Tn) := (bs.find? fun x => decide (x.1 = n)).map (·.2)
theorem bdSays_cons (x : Bd) (bs : List Bd) (n : List UInt8) : bdSays (x :: bs) n = if x.1 = n then some x.2 else bdSays bs n := by
  unfold bdSays
  rw [List.find?_cons]
  by_cases h : x.1 = n
  · simp [h]
  · simp [h]
theorem bdSays_none {bs : List Bd} {n : List UInt8} (h : n ∉ bs.map (·.1)) : bdSays bs n = none := by
  induction bs with
  | nil => rfl
  | cons x r ih =>
    rw [bdSays_cons, if_neg (fun e => h (by simp [e])), ih (fun q => h (by simp at q ⊢; exact .inr q))]
theorem bdSays_snoc {bs : List Bd} {x : Bd} (h : x.1 ∉ bs.map (·.1)) (n : List UInt8) : bdSays (bs ++ [x]) n = if n = x.1 then some x.2 else bdSays bs n := by
  induction bs with
  | nil =>
    rw [List.nil_append, bdSays_cons]
    by_cases e : x.1 = n
    · rw [if_pos e, if_pos e.symm]
    · rw [if_neg e, if_neg (fun q => e q.symm)]
  | cons y r ih =>
    have h1 : x.1 ≠ y.1 := fun e => h (by simp [e])
    have h2 : x.1 ∉ r.map (·.1) := fun q => h (by simp at q ⊢; exact .inr q)
    rw [List.cons_append, bdSays_cons, ih h2, bdSays_cons]
    by_cases e : y.1 = n
    · rw [if_pos e, if_pos e, if_neg (fun q => h1 (q.symm.trans e.symm))]
    · rw [if_neg e, if_neg e]
/-- A map that says what a row of bounds says; its values are trees in blocks below B. -/
def Vs (W : World) (b B : Nat) (bs : List Bd) : Prop := ∃ s : List UInt8 → Option Value, Mv W b bs.length s ∧ ∀ n, (s n = none ∧ bdSays bs n = none) ∨ ∃ (v : Value) (u : Sigma Tn), s n = some v ∧ bdSays bs n = some u ∧ TyAt W B u.1 v u.2
theorem Vs.on {W W' : World} {b B : Nat} {bs : List Bd} (h : Vs W b B bs) (hb : W'.heap[b]? = W.heap[b]?) (hB : Below B W W') : Vs W' b B bs := by
  obtain ⟨s, h1, h2⟩ := h
  refine ⟨s, h1.on hb, fun n => ?_⟩
  rcases h2 n with h | ⟨v, u, e1, e2, e3⟩
  · exact .inl h
  · exact .inr ⟨v, u, e1, e2, e3.on hB⟩
theorem Vs.lt {W : World} {b B : Nat} {bs : List Bd} (h : Vs W b B bs) : b < W.heap.size := by
  obtain ⟨s, h1, _⟩ := h
  exact h1.lt
/-- One bound more. -/
theorem Vs.put {W : World} {b B : Nat} {bs : List Bd} {x : Bd} {v : Value} (h : Vs W b B bs) (hB : B ≤ b) (hl : bs.length < 100000) (hn : x.1.length < 140737488355328) (hx : x.1 ∉ bs.map (·.1)) (hT : TyAt W B x.2.1 v x.2.2) :
    ∃ w', (Instr.mapUpdate 71 (.map (some b)) (.string ⟨x.1.toArray⟩) v).run Tryz.prog W = .ok () w' ∧ Vs w' b B (bs ++ [x]) ∧ W.grownBy w' (some b) := by
  have hlt := h.lt
  obtain ⟨s, h1, h2⟩ := h
  have hs : s x.1 = none := by
    rcases h2 x.1 with h | ⟨v, u, e1, e2, _⟩
    · exact h.1
    · rw [bdSays_none hx] at e2; cases e2
  obtain ⟨w', hup, hM, hg⟩ := h1.put x.1 hn hl hs v
  have hb := grown_below' hg hB hlt
  refine ⟨w', hup, ⟨_, by rw [List.length_append]; exact hM, fun n => ?_⟩, hg⟩
  rw [bdSays_snoc hx]
  by_cases e : n = x.1
  · rw [if_pos e, if_pos e]
    exact .inr ⟨v, x.2, rfl, rfl, hT.on hb⟩
  · rw [if_neg e, if_neg e]
    rcases h2 n with h | ⟨v, u, e1, e2, e3⟩
    · exact .inl h
    · exact .inr ⟨v, u, e1, e2, e3.on hb⟩
theorem Vs.look {W : World} {b B : Nat} {bs : List Bd} (h : Vs W b B bs) (n : List UInt8) (hn : n.length < 140737488355328) (hx : n ∉ bs.map (·.1)) : (Instr.lookup 71 (.map (some b)) (.string ⟨n.toArray⟩) true).run Tryz.prog W = .ok (.tuple #[zeroT, .bool false]) W := by
  obtain ⟨s, h1, h2⟩ := h
  have hs : s n = none := by
    rcases h2 n with h | ⟨v, u, e1, e2, _⟩
    · exact h.1
    · rw [bdSays_none hx] at e2; cases e2
  have := h1.look n hn
  rw [hs] at this
  exact this
theorem makeMap_hint (n : Nat) (w : World) : (Instr.makeMap 71 (some (.int .i64 n))).run Tryz.prog w = .ok (.map (some w.heap.size)) (w.alloc (.map #[] 0)) := by
  simp [Instr.makeMap, go_sem]
theorem cells_four {w : World} {b : Nat} {x y u z : Value} {t : TypeId} {fr : Nat × Nat} (h : w.heap[b]? = some (.cells #[x, y, u, z] t fr)) : w.cell? ⟨b, 0, none⟩ = some x ∧ w.cell? ⟨b, 1, none⟩ = some y ∧ w.cell? ⟨b, 2, none⟩ = some u ∧ w.cell? ⟨b, 3, none⟩ = some z := by
  refine ⟨?_, ?_, ?_, ?_⟩ <;> (simp only [World.cell?, h]; rfl)
set_option maxHeartbeats 16000000 in
set_option maxRecDepth 10000 in
theorem values_ok (v : Value) (bs : List Bd) (w : World) (B : Nat) (hB : B ≤ w.heap.size) (h : BdAt w B v bs) (hl : bs.length ≤ 500) (hnd : (bs.map (·.1)).Nodup) (hok : ∀ x ∈ bs, varB x.1 = true ∧ wrongT x.2.1 x.2.2 = 0) :
    Calls Tryz.prog 67 #[v] w fun r w' => Below w.heap.size w w' ∧ r = .returned (.tuple #[.map (some w.heap.size), .int .i64 0]) ∧ w.heap.size < w'.heap.size ∧ Vs w' w.heap.size B bs := by
  obtain ⟨ad, cap, rfl, hlb, hcl⟩ := h
  have HCL : Hid (bs ≠ [] → ∃ g o, ad = some ⟨g, o, none⟩ ∧ bs.length ≤ cap ∧ g < B ∧ ∀ j (h : j < bs.length), bs[j].1.length < 140737488355328 ∧ ∃ k n ad' len' cap', (∀ w', Below B w w' → w'.cell? ⟨g, o + j * 4, none⟩ = some (.string ⟨bs[j].1.toArray⟩) ∧ w'.cell? ⟨g, o + j * 4 + 1, none⟩ = some (.int .i64 k) ∧ w'.cell? ⟨g, o + j * 4 + 2, none⟩ = some (.string n) ∧ w'.cell? ⟨g, o + j * 4 + 3, none⟩ = some (.slice ad' len' cap')) ∧ TyAt w B bs[j].2.1 (.agg #[.int .i64 k, .string n, .slice ad' len' cap']) bs[j].2.2) := hcl
  have hmm := makeMap_hint bs.length w
  have hb0 : Below w.heap.size w (w.alloc (Obj.map #[] 0)) := (Below.refl _ _).alloc (Nat.le_refl _) _
  have H0 : Hid (w.grownBy (w.alloc (Obj.map #[] 0)) (some w.heap.size) ∧ Vs (w.alloc (Obj.map #[] 0)) w.heap.size B (bs.take 0)) := ⟨grown_of_below hb0, _, Mv.made w, fun n => .inl ⟨rfl, rfl⟩⟩
  have HND : Hid ((bs.map (·.1)).Nodup ∧ ∀ x ∈ bs, varB x.1 = true ∧ wrongT x.2.1 x.2.2 = 0) := ⟨hnd, hok⟩
  clear hcl hnd hok hb0
  go_enter Tryz.func67, Tryz.ntmps67
  go_wp2
  clear hmm
  go_loopw [15] (fun i wr => ∃ j : Nat, j ≤ bs.length ∧ i = .int .i64 j ∧ Hid (w.grownBy wr (some w.heap.size) ∧ Vs wr w.heap.size B (bs.take j))) (fun i _ => bs.length - (intOf i).toNat)
  case atStart => exact ⟨0, by omega, by go_num, H0.out⟩
  case round =>
    obtain ⟨j, hj, rfl, HP⟩ := hrel
    by_cases hlt : j < bs.length
    · have hlt' : (j : Int) < (bs.length : Int) := by omega
      obtain ⟨g0, o0, hadr, hcapt, hgB, hel⟩ := HCL.out (by intro e; rw [e] at hlt; simp at hlt)
      subst hadr
      obtain ⟨hnl, k1, n1, ad1, l1, cp1, hcel, T1⟩ := hel j hlt
      obtain ⟨hgw, hVs⟩ := HP.out
      have hbw : Below w.heap.size w wr := ⟨hgw.os, hgw.tape, hgw.output, hgw.size, fun g hg => hgw.block g hg (fun e => by cases e; omega)⟩
      have hszw := hbw.size
      have hlV := hVs.lt
      obtain ⟨p0, p1, p2, p3⟩ := hcel wr (hbw.mono hB)
      have hnew : bs[j].1 ∉ (bs.take j).map (·.1) := fun hm => by
        have hnd := HND.out.1
        have e0 : bs.map (·.1) = (bs.take j).map (·.1) ++ (bs.drop j).map (·.1) := by rw [← List.map_append, List.take_append_drop]
        rw [e0, List.nodup_append] at hnd
        exact hnd.2.2 _ hm _ (List.mem_map.2 ⟨bs[j], by rw [List.drop_eq_getElem_cons hlt]; exact List.mem_cons_self, rfl⟩) rfl
      obtain ⟨hvar, hwr⟩ := HND.out.2 bs[j] (List.getElem_mem hlt)
      have hS5 := (wrong_zero hwr).2
      obtain ⟨U, hU⟩ : ∃ U, U = wr.alloc (Obj.cells #[.string ⟨bs[j].1.toArray⟩, .int .i64 k1, .string n1, .slice ad1 l1 cp1] 47) := ⟨_, rfl⟩
      obtain ⟨V, hV⟩ : ∃ V, V = U.alloc (Obj.cells #[.int .i64 0, .string ⟨#[]⟩, .slice none 0 0] 25) := ⟨_, rfl⟩
      obtain ⟨Y, hY⟩ : ∃ Y, Y = V.alloc (Obj.cells #[.int .i64 k1, .string n1, .slice ad1 l1 cp1] 25) := ⟨_, rfl⟩
      have bU : Below wr.heap.size wr U := by rw [hU]; exact (Below.refl _ _).alloc (Nat.le_refl _) _
      have sU : U.heap.size = wr.heap.size + 1 := by rw [hU]; simp
      have bV : Below wr.heap.size wr V := by rw [hV]; exact bU.alloc bU.size _
      have sV : V.heap.size = wr.heap.size + 2 := by rw [hV]; simp [sU]
      have bY : Below wr.heap.size wr Y := by rw [hY]; exact bV.alloc bV.size _
      have sY : Y.heap.size = wr.heap.size + 3 := by rw [hY]; simp [sV]
      have xU : U.heap[wr.heap.size]? = some (.cells #[.string ⟨bs[j].1.toArray⟩, .int .i64 k1, .string n1, .slice ad1 l1 cp1] 47 (0, 0)) := by
        rw [hU]
        show (wr.heap.push _)[wr.heap.size]? = _
        simp
      have xV : V.heap[wr.heap.size]? = some (.cells #[.string ⟨bs[j].1.toArray⟩, .int .i64 k1, .string n1, .slice ad1 l1 cp1] 47 (0, 0)) := by rw [hV, Below.heap_alloc _ _ _ (by omega)]; exact xU
      have xY : Y.heap[wr.heap.size]? = some (.cells #[.string ⟨bs[j].1.toArray⟩, .int .i64 k1, .string n1, .slice ad1 l1 cp1] 47 (0, 0)) := by rw [hY, Below.heap_alloc _ _ _ (by omega)]; exact xV
      have yY : Y.heap[V.heap.size]? = some (.cells #[.int .i64 k1, .string n1, .slice ad1 l1 cp1] 25 (0, 0)) := by
        rw [hY]
        show (V.heap.push _)[V.heap.size]? = _
        simp
      obtain ⟨a0, a1, a2⟩ := heap_cells yY
      have hlk := (hVs.on (bU.block _ hlV) (bU.mono (by omega))).look bs[j].1 hnl hnew
      simp only [zeroT] at hlk
      have CV := isVariable_any ⟨bs[j].1.toArray⟩ V (by show bs[j].1.toArray.size < _; simpa using hnl)
      rw [show (⟨bs[j].1.toArray⟩ : ByteArray).data.toList = bs[j].1 from rfl, hvar] at CV
      have CW := wrong_one bs[j].2.1 k1 n1 ad1 l1 cp1 bs[j].2.2 w Y B V.heap.size (by omega) (by omega) T1 ((hbw.trans (bY.mono hbw.size)).mono hB) (by omega) a0 a1 a2
      rw [hwr] at CW
      have HUP : Hid (∀ w5, Below Y.heap.size Y w5 → (w5.cell? ⟨wr.heap.size, 0, none⟩ = some (.string ⟨bs[j].1.toArray⟩) ∧ w5.cell? ⟨wr.heap.size, 1, none⟩ = some (.int .i64 k1) ∧ w5.cell? ⟨wr.heap.size, 2, none⟩ = some (.string n1) ∧ w5.cell? ⟨wr.heap.size, 3, none⟩ = some (.slice ad1 l1 cp1)) ∧ ∃ w6, (Instr.mapUpdate 71 (.map (some w.heap.size)) (.string ⟨bs[j].1.toArray⟩) (.agg #[.int .i64 k1, .string n1, .slice ad1 l1 cp1])).run Tryz.prog w5 = .ok () w6 ∧ w.grownBy w6 (some w.heap.size) ∧ Vs w6 w.heap.size B (bs.take (j + 1))) := fun w5 hb5 => by
        have b5 : Below wr.heap.size wr w5 := bY.trans (hb5.mono (by omega))
        obtain ⟨w6, r1, r2, r3⟩ := (hVs.on (b5.block _ hlV) (b5.mono (by omega))).put (x := bs[j]) hB (by rw [List.length_take]; omega) hnl hnew (T1.on ((hbw.trans (b5.mono hbw.size)).mono hB))
        refine ⟨cells_four ((hb5.block _ (lt_of_heap xY)).trans xY), w6, r1, grown_trans hgw (grown_trans (grown_of_below b5) r3), ?_⟩
        rw [List.take_succ_eq_append_getElem hlt]
        exact r2
      obtain ⟨u0, u1, u2, u3⟩ := cells_four xU
      obtain ⟨v0, v1, v2, v3⟩ := cells_four xV
      have hj5 : j ≤ 500 := by omega
      generalize bs[j].1 = nj at *
      clear hel hcel T1 HP hgw hVs hbw hszw hlV hnew hvar hwr hS5 bU sU bV sV bY sY xU xV xY yY a0 a1 a2 HCL H0 HND hnl
      go_upto_region 5 with fail
      rw [← hU]
      clear hU p0 p1 p2 p3
      go_upto_region 6 with fail
      rw [← hV]
      clear hV u0 u1 u2 u3 hlk
      go_wp2_with (first
        | (go_at_call 83; (with_reducible refine Calls.mono CV ?_); rintro e' w4 ⟨rfl, rfl⟩)
        | (rw [← hY]; go_at_call 31; (with_reducible refine Calls.mono CW ?_); rintro e' w5 ⟨rfl, hb5⟩; obtain ⟨⟨s0, s1, s2, s3⟩, w6, hup, HG6⟩ := HUP.out w5 hb5; have HG6 : Hid (w.grownBy w6 (some w.heap.size) ∧ Vs w6 w.heap.size B (bs.take (j + 1))) := HG6))
      go_roundw
      case rel => exact ⟨j + 1, by omega, by go_num, HG6.out⟩
      case measure => simp [intOf]; omega
    · have h1 : ¬ (j : Int) < (bs.length : Int) := by omega
      have HE : Hid (w.grownBy wr (some w.heap.size) ∧ Vs wr w.heap.size B bs) := by
        have := HP.out
        rw [List.take_of_length_le (by omega)] at this
        exact this
      clear HP H0 HCL HND
      go_wp2
      obtain ⟨hg, hV⟩ := HE.out
      refine bodyPost_ret (v := .tuple #[.map (some w.heap.size), .int .i64 0]) (by simp [results, Tryz.results67, go_sem]) rfl ?_
      exact ⟨⟨hg.os, hg.tape, hg.output, hg.size, fun g hg' => hg.block g hg' (fun e => by cases e; omega)⟩, rfl, hV.lt, hV⟩
end Go.Proofs.YthcejnpknjepfaaGreat
