/- Cases in order, each once: plain. cases: the rows that are sorted. cases: the sort. cases: the walk. -/
import Derived.Test.YtpdmkhnonbbhnaaKd
namespace Go.Proofs.Ytpdmkhnonbbhnaa

theorem csLt_iff (k : Kn) (a b : Cs) : csLt k a b = true ↔ (looks k a.1).2.1 < (looks k b.1).2.1 ∨ ((looks k a.1).2.1 = (looks k b.1).2.1 ∧ a.2 < b.2) := by
  simp [csLt]
theorem csLt_irr (k : Kn) (a : Cs) : csLt k a a = false := by
  cases h : csLt k a a with
  | false => rfl
  | true => rw [csLt_iff] at h; omega
theorem csLt_trans (k : Kn) {a b c : Cs} (h : csLt k a b = true) (h' : csLt k b c = true) : csLt k a c = true := by
  rw [csLt_iff] at *
  omega
theorem csLt_ntrans (k : Kn) {a b c : Cs} (h : csLt k a b = false) (h' : csLt k b c = false) : csLt k a c = false := by
  cases h2 : csLt k a c with
  | false => rfl
  | true =>
    rw [csLt_iff] at h2
    have h3 : ¬ csLt k a b = true := by simp [h]
    have h4 : ¬ csLt k b c = true := by simp [h']
    rw [csLt_iff] at h3 h4
    omega
theorem csLt_asymm (k : Kn) {a b : Cs} (h : csLt k a b = true) : csLt k b a = false := by
  cases h2 : csLt k b a with
  | false => rfl
  | true => rw [csLt_iff] at *; omega
theorem cfK_lt (k : Kn) (a b : Cs) : decide (cfK k a b < 0) = csLt k a b := by
  have h := csLt_iff k a b
  unfold cfK cmpI
  cases h2 : csLt k a b with
  | true =>
    rw [h2] at h
    have h3 := h.1 rfl
    rw [decide_eq_true_iff]
    split <;> (try split) <;> (try split) <;> omega
  | false =>
    rw [h2] at h
    have h3 : ¬ _ := fun x => by have := h.2 x; cases this
    rw [decide_eq_false_iff_not]
    intro h4
    apply h3
    revert h4
    split <;> (try split) <;> (try split) <;> intro h4 <;> omega
/-- Two rows that rise, of the same things, are one. -/
theorem rising_eq (k : Kn) : ∀ (l m : List Cs), l.Pairwise (fun a b => csLt k a b = true) → m.Pairwise (fun a b => csLt k a b = true) → (∀ x, x ∈ l ↔ x ∈ m) → l = m
  | [], [], _, _, _ => rfl
  | [], b :: r, _, _, h => absurd ((h b).2 (by simp)) (by simp)
  | a :: r, [], _, _, h => absurd ((h a).1 (by simp)) (by simp)
  | a :: r, b :: s, hl, hm, h => by
    rw [List.pairwise_cons] at hl hm
    have hab : a = b := by
      rcases List.mem_cons.1 ((h a).1 (by simp)) with e | e
      · exact e
      · rcases List.mem_cons.1 ((h b).2 (by simp)) with e2 | e2
        · exact e2.symm
        · have h1 := hm.1 a e
          have h2 := hl.1 b e2
          have := csLt_asymm k h1
          rw [h2] at this
          cases this
    subst hab
    congr 1
    refine rising_eq k r s hl.2 hm.2 fun x => ⟨fun hx => ?_, fun hx => ?_⟩
    · rcases List.mem_cons.1 ((h x).1 (List.mem_cons_of_mem _ hx)) with e | e
      · subst e
        have := hl.1 x hx
        rw [csLt_irr] at this
        cases this
      · exact e
    · rcases List.mem_cons.1 ((h x).2 (List.mem_cons_of_mem _ hx)) with e | e
      · subst e
        have := hm.1 x hx
        rw [csLt_irr] at this
        cases this
      · exact e
theorem putCs_mem (k : Kn) (c : Cs) : ∀ (l : List Cs), (∀ a ∈ l, csLt k c a = false → csLt k a c = false → a = c) → ∀ x, x ∈ putCs k c l ↔ x = c ∨ x ∈ l
  | [], _, x => by simp [putCs]
  | a :: r, h, x => by
    unfold putCs
    by_cases h1 : csLt k c a = true
    · rw [if_pos h1]; simp
    · rw [if_neg h1]
      have h1' : csLt k c a = false := by simpa using h1
      by_cases h2 : csLt k a c = true
      · rw [if_pos h2, List.mem_cons, putCs_mem k c r (fun b hb => h b (List.mem_cons_of_mem _ hb)) x, List.mem_cons]
        constructor
        · rintro (h | h | h)
          · exact .inr (.inl h)
          · exact .inl h
          · exact .inr (.inr h)
        · rintro (h | h | h)
          · exact .inr (.inl h)
          · exact .inl h
          · exact .inr (.inr h)
      · rw [if_neg h2]
        have e := h a (by simp) h1' (by simpa using h2)
        subst e
        simp
theorem putCs_rises (k : Kn) (c : Cs) : ∀ (l : List Cs), (∀ a ∈ l, csLt k c a = false → csLt k a c = false → a = c) → l.Pairwise (fun a b => csLt k a b = true) → (putCs k c l).Pairwise (fun a b => csLt k a b = true)
  | [], _, _ => by simp [putCs]
  | a :: r, h, hl => by
    have hl2 := List.pairwise_cons.1 hl
    unfold putCs
    by_cases h1 : csLt k c a = true
    · rw [if_pos h1, List.pairwise_cons]
      refine ⟨fun b hb => ?_, hl⟩
      rcases List.mem_cons.1 hb with rfl | hb
      · exact h1
      · exact csLt_trans k h1 (hl2.1 b hb)
    · rw [if_neg h1]
      by_cases h2 : csLt k a c = true
      · rw [if_pos h2, List.pairwise_cons]
        refine ⟨fun b hb => ?_, putCs_rises k c r (fun b hb => h b (List.mem_cons_of_mem _ hb)) hl2.2⟩
        rcases (putCs_mem k c r (fun b hb => h b (List.mem_cons_of_mem _ hb)) b).1 hb with rfl | hb
        · exact h2
        · exact hl2.1 b hb
      · rw [if_neg h2]
        exact hl
/-- Cases of which no two differ where their order does not tell them apart. -/
def Apart (k : Kn) (l : List Cs) : Prop := ∀ a ∈ l, ∀ b ∈ l, csLt k a b = false → csLt k b a = false → a = b
theorem casesOf_facts (k : Kn) : ∀ (spots : List Sp), Apart k (spots.map fun s => csOf s.2) → (casesOf k spots).Pairwise (fun a b => csLt k a b = true) ∧ ∀ x, x ∈ casesOf k spots ↔ x ∈ spots.map fun s => csOf s.2
  | [], _ => ⟨by simp [casesOf], by simp [casesOf]⟩
  | s :: r, h => by
    obtain ⟨h1, h2⟩ := casesOf_facts k r (fun a ha b hb => h a (List.mem_cons_of_mem _ ha) b (List.mem_cons_of_mem _ hb))
    have hp : ∀ a ∈ casesOf k r, csLt k (csOf s.2) a = false → csLt k a (csOf s.2) = false → a = csOf s.2 := fun a ha x y => (h (csOf s.2) (by simp) a (List.mem_cons_of_mem _ ((h2 a).1 ha)) x y).symm
    refine ⟨putCs_rises k _ _ hp h1, fun x => ?_⟩
    show x ∈ putCs k (csOf s.2) (casesOf k r) ↔ _
    rw [putCs_mem k _ _ hp, h2, List.map_cons, List.mem_cons]
theorem compactP_mem (l : List Cs) : ∀ x, x ∈ compactP l ↔ x ∈ l := by
  suffices h : ∀ (r : List Cs) (acc : List Cs) x, x ∈ r.foldl (fun acc x => if acc.getLast? = some x then acc else acc ++ [x]) acc ↔ x ∈ acc ∨ x ∈ r by
    intro x
    have := h l [] x
    simpa [compactP] using this
  intro r
  induction r with
  | nil => intro acc x; simp
  | cons a r ih =>
    intro acc x
    rw [List.foldl_cons, ih, List.mem_cons]
    by_cases h : acc.getLast? = some a
    · rw [if_pos h]
      have : a ∈ acc := List.mem_of_getLast? h
      constructor
      · rintro (h | h)
        · exact .inl h
        · exact .inr (.inr h)
      · rintro (h | rfl | h)
        · exact .inl h
        · exact .inl this
        · exact .inr h
    · rw [if_neg h, List.mem_append, List.mem_singleton, or_assoc]
theorem compactP_rises (k : Kn) (l : List Cs) (hA : Apart k l) (hs : l.Pairwise (fun a b => csLt k b a = false)) : (compactP l).Pairwise (fun a b => csLt k a b = true) := by
  suffices h : ∀ (r : List Cs) (acc : List Cs), (∀ a ∈ acc, a ∈ l) → (∀ a ∈ r, a ∈ l) → acc.Pairwise (fun a b => csLt k a b = true) → r.Pairwise (fun a b => csLt k b a = false) → (∀ a ∈ acc, ∀ b ∈ r, csLt k b a = false) → (r.foldl (fun acc x => if acc.getLast? = some x then acc else acc ++ [x]) acc).Pairwise (fun a b => csLt k a b = true) by
    exact h l [] (by simp) (fun _ h => h) (by simp) hs (by simp)
  intro r
  induction r with
  | nil => intro acc _ _ h _ _; exact h
  | cons a r ih =>
    intro acc hac hr hp hrs hx
    rw [List.pairwise_cons] at hrs
    rw [List.foldl_cons]
    by_cases h : acc.getLast? = some a
    · rw [if_pos h]
      exact ih acc hac (fun b hb => hr b (List.mem_cons_of_mem _ hb)) hp hrs.2 (fun b hb c hc => hx b hb c (List.mem_cons_of_mem _ hc))
    · rw [if_neg h]
      refine ih _ (fun b hb => ?_) (fun b hb => hr b (List.mem_cons_of_mem _ hb)) ?_ hrs.2 (fun b hb c hc => ?_)
      · rcases List.mem_append.1 hb with hb | hb
        · exact hac b hb
        · rw [List.mem_singleton.1 hb]; exact hr a (by simp)
      · rw [List.pairwise_append]
        refine ⟨hp, by simp, fun b hb c hc => ?_⟩
        rw [List.mem_singleton.1 hc]
        cases hlt : csLt k b a with
        | true => rfl
        | false =>
          exfalso
          have e := hA b (hac b hb) a (hr a (by simp)) hlt (hx b hb a (by simp))
          subst e
          rcases List.eq_nil_or_concat acc with rfl | ⟨q, z, rfl⟩
          · simp at hb
          · rw [List.concat_eq_append] at hb h hp
            have hz : ¬ z = b := fun e => h (by rw [e]; exact List.getLast?_concat)
            rcases List.mem_append.1 hb with hb | hb
            · have h1 := (List.pairwise_append.1 hp).2.2 b hb z (by simp)
              have h2 := hx z (by simp) b (by simp)
              rw [h1] at h2
              cases h2
            · exact hz (List.mem_singleton.1 hb).symm
      · rcases List.mem_append.1 hb with hb | hb
        · exact hx b hb c (List.mem_cons_of_mem _ hc)
        · rw [List.mem_singleton.1 hb]; exact hrs.1 c hc
/-- A row in order, what stands twice left out: the cases. -/
theorem compact_cases (k : Kn) (spots : List Sp) (l : List Cs) (hp : l.Perm (spots.map fun s => csOf s.2)) (hA : Apart k (spots.map fun s => csOf s.2)) (hs : l.Pairwise (fun a b => csLt k b a = false)) : compactP l = casesOf k spots := by
  obtain ⟨h1, h2⟩ := casesOf_facts k spots hA
  refine rising_eq k _ _ (compactP_rises k l (fun a ha b hb => hA a (hp.mem_iff.1 ha) b (hp.mem_iff.1 hb)) hs) h1 fun x => ?_
  rw [compactP_mem, h2, hp.mem_iff]
end Go.Proofs.Ytpdmkhnonbbhnaa

namespace Go.Proofs.Ytpdmkhnonbbhnaa
open Go.RowKit Go.Maps

theorem Try.info53 : (Try.prog.info? 53).map (fun i => (i.zero, i.size, i.bytes)) = some (some (.agg zeroC.toArray), 7, 112) := by kernel_rfl
theorem made_rowC (n : Nat) : madeCells zeroC.toArray (n * 7) = rowC (List.replicate n ([], 0)) := by
  apply Array.ext_getElem?
  intro t
  by_cases ht : t < n * 7
  · have hd : t / 7 < n := by omega
    have hm : t % 7 < 7 := by omega
    have e : t = t / 7 * 7 + t % 7 := by omega
    rw [e, rowC_get _ (t / 7) (by simpa using hd) (t % 7) hm, ← e]
    have : (madeCells zeroC.toArray (n * 7))[t]? = some (zeroC.toArray[t % 7]!) := by simp [madeCells, ht, zeroC]
    rw [this, List.getElem_replicate]
    generalize t % 7 = i at *
    have : i = 0 ∨ i = 1 ∨ i = 2 ∨ i = 3 ∨ i = 4 ∨ i = 5 ∨ i = 6 := by omega
    rcases this with rfl | rfl | rfl | rfl | rfl | rfl | rfl <;> rfl
  · rw [Array.getElem?_eq_none (by rw [size_madeCells]; omega), Array.getElem?_eq_none (by rw [rowC_size]; simp; omega)]
theorem make_cases (w : World) (n : Nat) (hn : n ≤ 1000) : (Instr.makeSlice 29 (.int .i64 n) (.int .i64 n)).run Try.prog w = .ok (.slice (some ⟨w.heap.size, 0, none⟩) n n) (w.alloc (.cells (rowC (List.replicate n ([], 0))) 53)) := by
  obtain ⟨i0, hi, hz0, hz1, hz2⟩ := info_parts Try.info53
  have := run_makeSlice (P := Try.prog) w 29 53 i0 _ Try.underlying29 hi hz0 .i64 .i64 n n (by omega) (Int.le_refl _) (by rw [hz1]; simp; omega) (by rw [hz2]; omega) (by omega)
  rw [← made_rowC]
  have hzc : (Value.agg zeroC.toArray).cells = zeroC.toArray := rfl
  rw [hzc] at this
  simpa [hz1] using this
theorem rowC_name (ds : List Cs) (k : Nat) (hk : k < ds.length) (n : Str) : (rowC ds).setIfInBounds (k * 7) (.string ⟨n.toArray⟩) = rowC (ds.set k (n, ds[k].2)) := by
  have hs := rowC_size ds
  apply Array.ext_getElem?
  intro t
  by_cases ht : t < ds.length * 7
  · have hd : t / 7 < ds.length := by omega
    have hm : t % 7 < 7 := by omega
    have e : t = t / 7 * 7 + t % 7 := by omega
    generalize t / 7 = j at *
    generalize t % 7 = i at *
    subst e
    rw [rowC_get (ds.set k (n, ds[k].2)) j (by simpa using hd) i hm, Array.getElem?_setIfInBounds, rowC_get ds j hd i hm]
    by_cases hj : j = k
    · subst hj
      rw [List.getElem_set_self]
      have : i = 0 ∨ i = 1 ∨ i = 2 ∨ i = 3 ∨ i = 4 ∨ i = 5 ∨ i = 6 := by omega
      rcases this with rfl | rfl | rfl | rfl | rfl | rfl | rfl
      · rw [if_pos (by omega), if_pos (by rw [hs]; omega)]; rfl
      all_goals
        rw [if_neg (by omega)]; rfl
    · rw [List.getElem_set_ne (by omega), if_neg (by omega)]
  · rw [Array.getElem?_eq_none (by simp [hs]; omega), Array.getElem?_eq_none (by rw [rowC_size]; simp; omega)]
theorem rowC_num (ds : List Cs) (k : Nat) (hk : k < ds.length) (x : Int) : (rowC ds).setIfInBounds (k * 7 + 1) (.int .i64 x) = rowC (ds.set k (ds[k].1, x)) := by
  have hs := rowC_size ds
  apply Array.ext_getElem?
  intro t
  by_cases ht : t < ds.length * 7
  · have hd : t / 7 < ds.length := by omega
    have hm : t % 7 < 7 := by omega
    have e : t = t / 7 * 7 + t % 7 := by omega
    generalize t / 7 = j at *
    generalize t % 7 = i at *
    subst e
    rw [rowC_get (ds.set k (ds[k].1, x)) j (by simpa using hd) i hm, Array.getElem?_setIfInBounds, rowC_get ds j hd i hm]
    by_cases hj : j = k
    · subst hj
      rw [List.getElem_set_self]
      have : i = 1 ∨ i = 0 ∨ i = 2 ∨ i = 3 ∨ i = 4 ∨ i = 5 ∨ i = 6 := by omega
      rcases this with rfl | rfl | rfl | rfl | rfl | rfl | rfl
      · rw [if_pos (by omega), if_pos (by rw [hs]; omega)]; rfl
      all_goals
        rw [if_neg (by omega)]; rfl
    · rw [List.getElem_set_ne (by omega), if_neg (by omega)]
  · rw [Array.getElem?_eq_none (by simp [hs]; omega), Array.getElem?_eq_none (by rw [rowC_size]; simp; omega)]
/-- The row when i spots were looked at: their cases, then cases of nothing. -/
def filled (cs : List Cs) (i : Nat) : List Cs := cs.take i ++ List.replicate (cs.length - i) ([], 0)
theorem filled_len (cs : List Cs) (i : Nat) (h : i ≤ cs.length) : (filled cs i).length = cs.length := by
  simp [filled]
  omega
theorem filled_at (cs : List Cs) (i : Nat) (h : i < cs.length) : (filled cs i)[i]'(by rw [filled_len cs i (by omega)]; exact h) = ([], 0) := by
  have hl : (cs.take i).length = i := by simp; omega
  simp only [filled]
  rw [List.getElem_append_right (by omega), List.getElem_replicate]
theorem filled_set (cs : List Cs) (i : Nat) (h : i < cs.length) : (filled cs i).set i cs[i] = filled cs (i + 1) := by
  have hl : (cs.take i).length = i := by simp; omega
  simp only [filled]
  rw [List.set_append_right _ _ (by omega), hl, Nat.sub_self, List.take_add_one, List.getElem?_eq_getElem h]
  obtain ⟨m, hm⟩ : ∃ m, cs.length - i = m + 1 := ⟨cs.length - i - 1, by omega⟩
  rw [hm, show cs.length - (i + 1) = m by omega, List.replicate_succ, List.set_cons_zero, List.append_assoc]
  rfl
theorem filled_all (cs : List Cs) : filled cs cs.length = cs := by simp [filled]
theorem filled_none (cs : List Cs) : filled cs 0 = List.replicate cs.length ([], 0) := by simp [filled]
end Go.Proofs.Ytpdmkhnonbbhnaa

namespace Go.Proofs.Ytpdmkhnonbbhnaa
open Go.RowKit Go.Maps Go.Sort

def bE (c : CsB) : List Value := csE c.1
theorem bE_len (x : CsB) : (bE x).length = 7 := rfl
theorem bE_one (x : CsB) : ∀ v ∈ bE x, v.oneCell' = true := by
  intro v hv
  simp only [bE, csE, List.mem_cons, List.not_mem_nil, or_false] at hv
  rcases hv with rfl | rfl | rfl | rfl | rfl | rfl | rfl <;> rfl
theorem sortK_other [Inhabited CsB] (w : World) (blk m : Nat) (dk : Array CsB) (os : Array Obj) (j : Nat) (hj : j < w.heap.size) (hne : j ≠ blk) : (sortWorldK bE 7 w blk 0 m dk os).heap[j]? = w.heap[j]? := by
  unfold sortWorldK putRowK
  rw [heap_grow_old _ _ (by simpa using hj)]
  have : blk ≠ j := fun e => hne e.symm
  simp [putRow, mapBlock, Sort.ahead, Array.getElem?_modify, this]
theorem sortK_kx [Inhabited CsB] (w : World) (blk m : Nat) (dk : Array CsB) (os : Array Obj) : Kx blk w (sortWorldK bE 7 w blk 0 m dk os) :=
  ⟨rfl, rfl, rfl, by simp [sortWorldK, putRowK], fun j hj hne => sortK_other w blk m dk os j hj hne⟩
theorem flatK_rowC [Inhabited CsB] (dk : Array CsB) (t : Nat) (ht : t < dk.size * 7) : (flatK bE 7 dk)[t]? = (rowC (dk.toList.map (·.1)))[t]? := by
  have hd : t / 7 < dk.size := by omega
  have hm : t % 7 < 7 := by omega
  have e : t = t / 7 * 7 + t % 7 := by omega
  have h1 : (rowC (dk.toList.map (·.1)))[t]? = (csE ((dk.toList.map (·.1))[t / 7]'(by simpa using hd)))[t % 7]? := by
    have := rowC_get (dk.toList.map (·.1)) (t / 7) (by simpa using hd) (t % 7) hm
    rwa [← e] at this
  rw [h1]
  have h2 : (flatK bE 7 dk)[t]? = some ((bE dk[t / 7]!)[t % 7]!) := by simp [flatK, ht]
  rw [h2, List.getElem_map, Array.getElem_toList, getElem!_pos dk (t / 7) hd]
  show _ = (bE dk[t / 7])[t % 7]?
  rw [List.getElem?_eq_getElem (by rw [bE_len]; exact hm), getElem!_pos (bE dk[t / 7]) (t % 7) (by rw [bE_len]; exact hm)]
theorem sortK_row [Inhabited CsB] (w : World) (blk m : Nat) (dk : Array CsB) (os : Array Obj) (cs : List Cs) (h : w.heap[blk]? = some (.cells (rowC cs) 53 (0, 0))) (hs : dk.size = cs.length) : (sortWorldK bE 7 w blk 0 m dk os).heap[blk]? = some (.cells (rowC (dk.toList.map (·.1))) 53 (0, 0)) := by
  have hlt := lt_of_heap h
  have hput : putCells id 0 (flatK bE 7 dk) (rowC cs) = rowC (dk.toList.map (·.1)) := by
    apply Array.ext_getElem?
    intro t
    by_cases ht : t < dk.size * 7
    · rw [← flatK_rowC dk t ht]
      have h1 : t < (rowC cs).size := by rw [rowC_size, ← hs]; exact ht
      have h2 : t < (flatK bE 7 dk).size := by simpa using ht
      simp only [putCells, Array.getElem?_mapIdx, Array.getElem?_eq_getElem h1, Option.map_some, Nat.zero_le, true_and, Nat.zero_add, Nat.sub_zero, id]
      rw [if_pos h2, getElem!_pos _ t h2, Array.getElem?_eq_getElem h2]
    · rw [Array.getElem?_eq_none (by simp [putCells]; rw [rowC_size, ← hs]; omega), Array.getElem?_eq_none (by rw [rowC_size]; simp; omega)]
  unfold sortWorldK putRowK
  rw [heap_grow_old _ _ (by simpa using hlt)]
  simp [putRow, mapBlock, Sort.ahead, Array.getElem?_modify, h, onCells, hput]
theorem holds_row [Inhabited CsB] (w : World) (blk : Nat) (d : Array CsB) (h : w.heap[blk]? = some (.cells (rowC (d.toList.map (·.1))) 53 (0, 0))) : HoldsK bE 7 w blk 0 d := by
  intro j hj
  have hj' : j < d.size * 7 := by simpa using hj
  rw [Nat.zero_add]
  refine ⟨heap_cell h ?_, heap_frozen h⟩
  rw [← flatK_rowC d j hj', Array.getElem?_eq_getElem (by simpa using hj'), getElem!_pos _ j (by simpa using hj')]
  rfl
theorem swoK (k : Kn) : SWO (ltOf fun (x y : CsB) => cfK k x.1 y.1) where
  irrefl x := by
    show decide (cfK k x.1 x.1 < 0) = false
    rw [cfK_lt, csLt_irr]
  trans x y z h1 h2 := by
    have h1 : decide (cfK k x.1 y.1 < 0) = true := h1
    have h2 : decide (cfK k y.1 z.1 < 0) = true := h2
    show decide (cfK k x.1 z.1 < 0) = true
    rw [cfK_lt] at *
    exact csLt_trans k h1 h2
  ntrans x y z h1 h2 := by
    have h1 : decide (cfK k x.1 y.1 < 0) = false := h1
    have h2 : decide (cfK k y.1 z.1 < 0) = false := h2
    show decide (cfK k x.1 z.1 < 0) = false
    rw [cfK_lt] at *
    exact csLt_ntrans k h1 h2
/-- What the sort leaves: a permutation, in order. -/
theorem sorted_row [Inhabited CsB] (k : Kn) (d d' : Array CsB) (hp : PermIn 0 d.size d d') (hs : SortedIn (ltOf fun (x y : CsB) => cfK k x.1 y.1) 0 d.size d') : d'.size = d.size ∧ (d'.toList.map (·.1)).Perm (d.toList.map (·.1)) ∧ (d'.toList.map (·.1)).Pairwise (fun a b => csLt k b a = false) := by
  obtain ⟨h1, _, h3⟩ := hp
  have e1 : d'.extract 0 d.size = d' := by rw [← h1]; simp
  have e2 : d.extract 0 d.size = d := by simp
  rw [e1, e2] at h3
  refine ⟨h1, h3.map _, ?_⟩
  rw [List.pairwise_map, List.pairwise_iff_getElem]
  intro i j hi hj hij
  have hi' : i < d'.size := by simpa using hi
  have hj' : j < d'.size := by simpa using hj
  have := hs i j (Nat.zero_le _) hij (by omega)
  rw [getElem!_pos d' i hi', getElem!_pos d' j hj'] at this
  have this : decide (cfK k d'[j].1 d'[i].1 < 0) = false := this
  rw [cfK_lt] at this
  simpa using this
end Go.Proofs.Ytpdmkhnonbbhnaa

namespace Go.Proofs.Ytpdmkhnonbbhnaa
open Go.RowKit Go.Maps

/-- A row of cases without trees in memory. -/
def CasesAt (w : World) (S : Nat → Prop) (v : Value) (cs : List Cs) : Prop := ∃ blk cap cur, v = .slice (some ⟨blk, 0, none⟩) cs.length cap ∧ cs.length ≤ cap ∧ S blk ∧ w.heap[blk]? = some (.cells cur 53 (0, 0)) ∧ ∀ j (h : j < cs.length) i, i < 7 → cur[j * 7 + i]? = (csE cs[j])[i]?
theorem Kx.below {blk B : Nat} {w w' : World} (h : Kx blk w w') (h1 : B ≤ blk) (h2 : B ≤ w.heap.size) : Below B w w' := ⟨h.os, h.tape, h.output, h.size, fun k hk => h.block k (by omega) (by omega)⟩
theorem compactP_le (l : List Cs) : (compactP l).length ≤ l.length := by
  suffices h : ∀ (r acc : List Cs), (r.foldl (fun acc x => if acc.getLast? = some x then acc else acc ++ [x]) acc).length ≤ acc.length + r.length by
    simpa [compactP] using h l []
  intro r
  induction r with
  | nil => intro acc; simp
  | cons a r ih =>
    intro acc
    rw [List.foldl_cons]
    refine Nat.le_trans (ih _) ?_
    split <;> simp <;> omega
theorem attach_map (cs : List Cs) (h : ∀ c ∈ cs, c.1.length < 140737488355328) : ∃ d : Array CsB, d.toList.map (·.1) = cs := by
  refine ⟨(cs.attachWith _ h).toArray, ?_⟩
  show (cs.attachWith _ h).map Subtype.val = cs
  exact List.attachWith_map_subtype_val h
set_option maxHeartbeats 4000000 in
set_option maxRecDepth 10000 in
theorem cases_any {w : World} {S : Nat → Prop} {b : Nat} {k : Kn} (fa : Option Addr) (fl fc : Nat) (sv : Value) (spots : List Sp) (hS : ∀ b, S b → b < w.heap.size) (hM : MapK w b k) (hp : Spots w S sv spots) (hbig : spots.length ≤ 200) (hA : Apart k (spots.map fun s => csOf s.2)) :
    Calls Try.prog 45 #[.agg #[.slice fa fl fc, .map (some b)], sv] w fun r w' => Below w.heap.size w w' ∧ ∃ v, r = .returned v ∧ CasesAt w' (fun b => w.heap.size ≤ b ∧ b < w'.heap.size) v (casesOf k spots) := by
  obtain ⟨L, hL, hrow2, hpat⟩ := hp.list
  have hlen : L.length ≤ 200 := by rw [← hL, List.length_map] at hbig; exact hbig
  have hcs : spots.map (fun s => csOf s.2) = L.map fun s => csOf s.2.2.2 := by
    rw [← hL, List.map_map]
    rfl
  have HPAT : Hid (∀ s ∈ L, PtP w S s.2.1 s.2.2.1 s.2.2.2) := hpat
  have HS : Hid (∀ b, S b → b < w.heap.size) := hS
  have HM : Hid (MapK w b k) := hM
  have HA : Hid (Apart k (spots.map fun s => csOf s.2)) := hA
  have HCS : Hid (spots.map (fun s => csOf s.2) = L.map fun s => csOf s.2.2.2) := hcs
  obtain ⟨cs, hcsd⟩ : ∃ cs, cs = L.map fun s => csOf s.2.2.2 := ⟨_, rfl⟩
  have HCD : Hid (cs = L.map fun s => csOf s.2.2.2) := hcsd
  have hcl : cs.length = L.length := by rw [hcsd, List.length_map]
  obtain ⟨ad, cap, rfl, hrow3⟩ := hrow2.open
  have HROW : Hid (L ≠ [] → ∃ g o, ad = some ⟨g, o, none⟩ ∧ L.length ≤ cap ∧ ∀ j (h : j < L.length), S g ∧ w.cell? ⟨g, o + j * 2, none⟩ = some (.int .i64 L[j].1) ∧ w.cell? ⟨g, o + j * 2 + 1, none⟩ = some (.pointer (some ⟨L[j].2.1, L[j].2.2.1, none⟩))) := hrow3
  have hW : ∃ W, W = w.alloc (Obj.cells #[.slice fa fl fc, .map (some b)] 58) ∧ Below w.heap.size w W ∧ W.heap.size = w.heap.size + 1 ∧ W.cell? ⟨w.heap.size, 1, none⟩ = some (.map (some b)) := ⟨_, rfl, (Below.refl _ _).alloc (Nat.le_refl _) _, by simp, heap_cell' (new_block' w _) rfl⟩
  obtain ⟨W, hW, hbW, hsW, d1⟩ := hW
  have HbW : Hid (Below w.heap.size w W ∧ W.heap.size = w.heap.size + 1 ∧ W.cell? ⟨w.heap.size, 1, none⟩ = some (.map (some b))) := ⟨hbW, hsW, d1⟩
  have hmk := make_cases W L.length (by omega)
  rw [hsW] at hmk
  have HX : Hid (Below (w.heap.size + 1) W (W.alloc (.cells (rowC (List.replicate L.length ([], 0))) 53)) ∧ (W.alloc (.cells (rowC (List.replicate L.length ([], 0))) 53)).heap[w.heap.size + 1]? = some (.cells (rowC (filled cs 0)) 53 (0, 0))) := by
    have h1 := (Below.refl W.heap.size W).alloc (Nat.le_refl _) (.cells (rowC (List.replicate L.length ([], 0))) 53)
    have h2 := new_block W (.cells (rowC (List.replicate L.length ([], 0))) 53)
    rw [hsW] at h1 h2
    rw [filled_none, hcl]
    exact ⟨h1, h2⟩
  generalize hW2 : W.alloc (.cells (rowC (List.replicate L.length ([], 0))) 53) = W2 at *
  clear hW2 hrow2 hrow3 hpat hS hL hbig hp hbW d1 hM hA hcs hcsd
  have HsW : Hid (W.heap.size = w.heap.size + 1) := hsW
  clear hsW
  go_enter Try.func45, Try.ntmps45
  go_upto_region 1 with fail
  rw [← hW]
  clear hW
  go_wp2
  go_loopw [13] (fun iv wr => ∃ i : Nat, i ≤ L.length ∧ iv = .int .i64 i ∧ Hid (Below (w.heap.size + 1) W wr ∧ wr.heap[w.heap.size + 1]? = some (.cells (rowC (filled cs i)) 53 (0, 0)))) (fun iv _ => L.length - (intOf iv).toNat)
  case atStart => exact ⟨0, by omega, by go_num, HX.out⟩
  case round =>
    obtain ⟨i, hi, rfl, HT⟩ := hrel
    have HBw : Hid (Below w.heap.size w wr) := HbW.out.1.trans (HT.out.1.mono (by omega))
    have hsz : w.heap.size + 1 < wr.heap.size := lt_of_heap HT.out.2
    by_cases hil : i < L.length
    · obtain ⟨g, o, rfl, hc, hr⟩ := HROW.out (fun e => by rw [e] at hil; simp at hil)
      obtain ⟨s0, q1, q2⟩ := hr i hil
      have hk := Keeps.of HBw.out HS.out
      have q1 := (hk.cell (p := ⟨g, o + i * 2, none⟩) s0).trans q1
      have q2 := (hk.cell (p := ⟨g, o + i * 2 + 1, none⟩) s0).trans q2
      obtain ⟨hp0, t0, t1, t2, _, _⟩ := ((HPAT.out L[i] (List.getElem_mem hil)).on hk).open
      have hpg : L[i].2.1 < wr.heap.size := by have := HS.out _ hp0; omega
      have i1 : (0 : Int) ≤ (i : Int) := by omega
      have i2 : (i : Int) < (L.length : Int) := by omega
      go_upto_region 5 with fail
      have hW1 : ∃ W1, W1 = wr.alloc (Obj.cells #[.int .i64 L[i].1, .pointer (some ⟨L[i].2.1, L[i].2.2.1, none⟩)] 106) ∧ Below wr.heap.size wr W1 ∧ W1.heap.size = wr.heap.size + 1 ∧ W1.cell? ⟨wr.heap.size, 1, none⟩ = some (.pointer (some ⟨L[i].2.1, L[i].2.2.1, none⟩)) := ⟨_, rfl, (Below.refl _ _).alloc (Nat.le_refl _) _, by simp, heap_cell' (new_block' wr _) rfl⟩
      obtain ⟨W1, hW1, hb1, hs1, x1⟩ := hW1
      rw [← hW1]
      clear hW1
      have t0 := (hb1.cell (p := ⟨L[i].2.1, L[i].2.2.1, none⟩) hpg).trans t0
      have t1 := (hb1.cell (p := ⟨L[i].2.1, L[i].2.2.1 + 1, none⟩) hpg).trans t1
      have t2 := (hb1.cell (p := ⟨L[i].2.1, L[i].2.2.1 + 2, none⟩) hpg).trans t2
      have HT1 : Hid (Below (w.heap.size + 1) W W1 ∧ W1.heap[w.heap.size + 1]? = some (.cells (rowC (filled cs i)) 53 (0, 0))) := ⟨HT.out.1.trans (hb1.mono (by omega)), (hb1.block _ hsz).trans HT.out.2⟩
      have hci : i < cs.length := by omega
      have hfl : i < (filled cs i).length := by rw [filled_len cs i (by omega)]; exact hci
      have hrs := rowC_size (filled cs i)
      have y0 := heap_cell HT1.out.2 (Array.getElem?_eq_getElem (show i * 7 < (rowC (filled cs i)).size by omega))
      have y1 := heap_cell HT1.out.2 (Array.getElem?_eq_getElem (show i * 7 + 1 < (rowC (filled cs i)).size by omega))
      have z0 := heap_frozen (o := i * 7) HT1.out.2
      have z1 := heap_frozen (o := i * 7 + 1) HT1.out.2
      have hat := filled_at cs i hci
      have hset := filled_set cs i hci
      have hcsi : cs[i] = csOf L[i].2.2.2 := by
        have := HCD.out
        subst this
        rw [List.getElem_map]
      have HN : Hid (L[i].2.2.2.kind = 4 → (W1.setCell ⟨w.heap.size + 1, i * 7, none⟩ (.string ⟨L[i].2.2.2.name.toArray⟩)).heap[w.heap.size + 1]? = some (.cells (rowC (filled cs (i + 1))) 53 (0, 0))) := fun h4 => by
        refine (setCell_block HT1.out.2).trans ?_
        rw [rowC_name (filled cs i) i hfl, hat, ← hset, hcsi]
        unfold csOf
        rw [if_pos h4]
      have HM2 : Hid (¬ L[i].2.2.2.kind = 4 → (W1.setCell ⟨w.heap.size + 1, i * 7 + 1, none⟩ (.int .i64 L[i].2.2.2.num)).heap[w.heap.size + 1]? = some (.cells (rowC (filled cs (i + 1))) 53 (0, 0))) := fun h4 => by
        refine (setCell_block HT1.out.2).trans ?_
        rw [rowC_num (filled cs i) i hfl, hat, ← hset, hcsi]
        unfold csOf
        rw [if_neg h4]
      generalize (rowC (filled cs i))[i * 7] = cv0 at y0
      generalize (rowC (filled cs i))[i * 7 + 1] = cv1 at y1
      generalize L[i].2.2.2.kind = ki at *
      generalize L[i].2.2.2.num = nu at *
      generalize (⟨L[i].2.2.2.name.toArray⟩ : ByteArray) = na at *
      clear hs1 hb1 hrs q1 q2 hk hr hat hset hcsi hfl
      by_cases h4 : ki = 4
      · subst h4
        have HN := HN.out rfl
        have HN : Hid ((W1.setCell ⟨w.heap.size + 1, i * 7, none⟩ (.string na)).heap[w.heap.size + 1]? = some (.cells (rowC (filled cs (i + 1))) 53 (0, 0))) := HN
        have HB2 : Hid (Below (w.heap.size + 1) W (W1.setCell ⟨w.heap.size + 1, i * 7, none⟩ (.string na))) := HT1.out.1.setCell (p := ⟨w.heap.size + 1, i * 7, none⟩) (Nat.le_refl _) _
        go_wp2
        go_roundw
        case rel => exact ⟨i + 1, hil, by go_num, HB2.out, HN.out⟩
        case measure => simp [intOf]; omega
      · have h4' : (ki == 4) = false := by simpa using h4
        have HN : Hid ((W1.setCell ⟨w.heap.size + 1, i * 7 + 1, none⟩ (.int .i64 nu)).heap[w.heap.size + 1]? = some (.cells (rowC (filled cs (i + 1))) 53 (0, 0))) := HM2.out h4
        have HB2 : Hid (Below (w.heap.size + 1) W (W1.setCell ⟨w.heap.size + 1, i * 7 + 1, none⟩ (.int .i64 nu))) := HT1.out.1.setCell (p := ⟨w.heap.size + 1, i * 7 + 1, none⟩) (Nat.le_refl _) _
        go_wp2
        go_roundw
        case rel => exact ⟨i + 1, hil, by go_num, HB2.out, HN.out⟩
        case measure => simp [intOf]; omega
    · obtain rfl : i = L.length := by omega
      have hrow : wr.heap[w.heap.size + 1]? = some (.cells (rowC cs) 53 (0, 0)) := by
        have := HT.out.2
        rwa [← hcl, filled_all] at this
      obtain ⟨d, hd⟩ := attach_map cs (fun c hc => by
        rw [HCD.out] at hc
        obtain ⟨s, hs, rfl⟩ := List.mem_map.1 hc
        unfold csOf
        split
        · exact (HPAT.out s hs).open.2.2.2.2.1
        · simp)
      have hds : d.size = L.length := by
        have := congrArg List.length hd
        rw [List.length_map] at this
        simpa [hcl] using this
      have inh : Inhabited CsB := ⟨⟨([], 0), by simp⟩⟩
      have hMr : MapK wr b k := HM.out.on (HBw.out.block b (Mv.lt HM.out))
      have hbl := Mv.lt HM.out
      have d1 := (HT.out.1.cell (p := ⟨w.heap.size, 1, none⟩) (by simp)).trans HbW.out.2.2
      have CS := AnyQ.slices_SortFunc (P := Try.prog) Try.laysort 7 Try.isAgg53 Try.sizeOf53 bE bE_len bE_one (fun x y => cfK k x.1 y.1) (swoK k) 61 #[.pointer (some ⟨w.heap.size, 0, none⟩)] (w.heap.size + 1) 0 L.length d wr (enters_of Try.func61 (by kernel_rfl) rfl)
        (fun m os dk hdk x y => sorts_any k b w.heap.size x y _ (hMr.on (sortK_other wr _ m dk os b (by omega) (by omega))) ((World.cell?_of_block (w := wr) (sortK_other wr _ m dk os w.heap.size (by omega) (by omega))).trans d1) (by have := (sortK_kx wr (w.heap.size + 1) m dk os).size; omega))
        (holds_row wr _ d (by rw [hd]; exact hrow)) hsz (by omega)
      change Calls Try.prog 60 _ _ _ at CS
      rw [hds] at CS
      have HG : Hid (∀ d' n os, Sort.PermIn 0 L.length d d' → Sort.SortedIn (ltOf fun (x y : CsB) => cfK k x.1 y.1) 0 L.length d' → ∃ ds, ds.length = L.length ∧ (sortWorldK bE 7 wr (w.heap.size + 1) 0 n d' os).heap[w.heap.size + 1]? = some (.cells (rowC ds) 53 (0, 0)) ∧ Below w.heap.size w (sortWorldK bE 7 wr (w.heap.size + 1) 0 n d' os) ∧ compactP ds = casesOf k spots) := fun d' n os h1 h2 => by
        rw [← hds] at h1 h2
        obtain ⟨g1, g2, g3⟩ := sorted_row k d d' h1 h2
        refine ⟨d'.toList.map (·.1), by simp; omega, sortK_row wr _ n d' os cs hrow (by omega), HBw.out.trans ((sortK_kx wr _ n d' os).below (by omega) HBw.out.size), ?_⟩
        refine compact_cases k spots _ ?_ HA.out g3
        rw [HCS.out, ← HCD.out, ← hd]
        exact g2
      clear hMr hbl HPAT HROW hd HA HCS HCD
      generalize hcf : (fun (x y : CsB) => cfK k x.1 y.1) = cf at *
      clear hcf
      go_upto_region 10 with (first | (go_at_call 60; (with_reducible refine Calls.mono CS ?_); rintro e' w1 ⟨rfl, d', n, os, hp1, hp2, rfl⟩))
      obtain ⟨ds, hdl, hrw, hbb, hcc⟩ := HG.out d' n os hp1 hp2
      generalize sortWorldK bE 7 wr (w.heap.size + 1) 0 n d' os = w1 at *
      have CC := compact_any ds (w.heap.size + 1) w1 hrw (by omega)
      rw [hdl, hcc] at CC
      have HBB : Hid (Below w.heap.size w w1) := hbb
      have hlt := lt_of_heap hrw
      clear hrw hbb hp1 hp2 CS
      go_wp2_with (go_at_call 64; (with_reducible refine Calls.mono CC ?_); rintro e' w2 ⟨rfl, hk2, cur, hc2, hc3⟩)
      go_ret
      refine ⟨HBB.out.trans (hk2.below (by omega) HBB.out.size), _, rfl, w.heap.size + 1, L.length, cur, rfl, ?_, ⟨by omega, lt_of_heap hc2⟩, hc2, hc3⟩
      rw [← hcc, ← hdl]
      exact compactP_le ds
end Go.Proofs.Ytpdmkhnonbbhnaa
