/- A table that Check takes is written and read. The numbers of a table that Check takes are the language's. -/
import Derived.Test.YtlpnegnpejpdkabGreatDoorMrx
import Derived.Test.YtlpnegnpejpdkabGreatDoorTi
import Derived.Test.YtlpnegnpejpdkabGreatDoorKn
namespace Go.Proofs.YtlpnegnpejpdkabGreatDoor

theorem things_nodup {most : Int} : ∀ (l : List (Byt × Int)) (ahead : List Byt), thingsP most ahead l = true → ahead.Nodup → (ahead ++ l.map fun s => s.1).Nodup
  | [], ahead, _, hd => by rw [List.map_nil, List.append_nil]; exact hd
  | s :: r, ahead, h, hd => by
    unfold thingsP at h
    simp only [Bool.and_eq_true, Bool.not_eq_true', List.contains_eq_mem, decide_eq_false_iff_not] at h
    have h1 : (ahead ++ [s.1]).Nodup := List.nodup_append.2 ⟨hd, by simp, fun a ha b hb e => by
      rw [List.mem_singleton.1 hb] at e
      exact h.1.1.1.2 (e ▸ ha)⟩
    have h2 := things_nodup r (ahead ++ [s.1]) h.2 h1
    rw [List.append_assoc] at h2
    exact h2
theorem fine_names {t : Tab} (h : Fine t) : NmOkP t ∧ (∀ s ∈ t.1, SRead s) ∧ t.1 ≠ [] ∧ ∀ g ∈ t.2, 0 ≤ g.2.1 ∧ g.2.1 ≤ 24 := by
  have hs := h.shp
  unfold shapesP at hs
  simp only [Bool.and_eq_true, decide_eq_true_eq] at hs
  have hh := h.hd
  unfold headsP at hh
  have n1 := things_nodup _ _ hs.1.1 List.nodup_nil
  have n2 := things_nodup _ _ hh List.nodup_nil
  rw [List.nil_append] at n1 n2
  rw [List.map_map] at n2
  have a1 := things_all _ _ hs.1.1
  have a2 := things_all _ _ hh
  have a3 : ∀ g ∈ t.2, nameP g.1 = true ∧ 0 ≤ g.2.1 ∧ g.2.1 ≤ 24 := fun g hg => a2 (g.1, g.2.1) (List.mem_map.2 ⟨g, hg, rfl⟩)
  refine ⟨⟨n1, n2, fun s hs => (a1 s hs).1, fun g hg => (a3 g hg).1⟩, fun s hm => ⟨(a1 s hm).1, ?_, ?_⟩, fun e => by rw [e] at hs; simp at hs, fun g hg => (a3 g hg).2⟩
  · have := a1 s hm
    exact ⟨by omega, by omega⟩
  · have := a1 s hm
    unfold isIntP
    simp only [Bool.and_eq_true, decide_eq_true_eq]
    omega
theorem ins_zero {ns ng len i : Nat} {x : Ins} (h : numP ns ng len i x = 0) : (kindA x.1 = 0 → x.2.1 = 0) ∧ (kindB x.1 = 0 → x.2.2 = 0) := by
  unfold numP at h
  split at h
  · omega
  · rename_i hw
    simp only [Bool.not_eq_false, Bool.and_eq_true] at hw
    refine ⟨fun e => ?_, fun e => ?_⟩
    · have := hw.1.2
      rw [e] at this
      simpa [fitsP] using this
    · have := hw.2
      rw [e] at this
      simpa [fitsP] using this
/-- What is left to be known: every number of an instruction is one of the language's. -/
theorem read_back_of {t : Tab} (h : checkP t = 0) (hs : Small t) (hI : ∀ g ∈ t.2, ∀ x ∈ g.2.2, isIntP x.2.1 = true ∧ isIntP x.2.2 = true) : tableQ (textT t) = some t := by
  have hf := fine_of h
  obtain ⟨h1, h2, h3, h4⟩ := fine_names hf
  refine read_back h1 (fun g hg => ⟨?_, ?_, fun x hx => ?_⟩) h2 h3
  · have := h4 g hg
    exact ⟨by omega, by omega⟩
  · have := h4 g hg
    unfold isIntP
    simp only [Bool.and_eq_true, decide_eq_true_eq]
    omega
  · obtain ⟨i, hi, rfl⟩ := List.getElem_of_mem hx
    have h5 := nums_all _ 0 (code_nums (hf.code g hg)) i hi
    obtain ⟨z1, z2⟩ := ins_zero h5
    obtain ⟨k1, k2⟩ := hI g hg _ hx
    exact ⟨ins_iok h5 (hs g hg _ hx).1 (hs g hg _ hx).2, k1, k2, z1, z2⟩
end Go.Proofs.YtlpnegnpejpdkabGreatDoor

namespace Go.Proofs.YtlpnegnpejpdkabGreatDoor

set_option maxHeartbeats 4000000 in
theorem ins_int {ns ng len i : Nat} {fs ds : List Int} {x : Ins} (hn : numP ns ng len i x = 0) (hns : ns ≤ 2000) (hng : ng ≤ 2000) (hlen : len ≤ 8000) (hd : ∀ j, 0 ≤ ds.getD j 0 ∧ ds.getD j 0 ≤ 8000) (ha : (atP fs len ds i x).2 = 0) : isIntP x.2.1 = true ∧ isIntP x.2.2 = true := by
  by_cases h0 : ds.getD i 0 = 0
  · rw [at_zero h0] at ha
    have ha : (174 : Int) = 0 := ha
    omega
  by_cases hb : (behindP fs x (ds.getD i 0)).2 = false ∨ 8000 < (behindP fs x (ds.getD i 0)).1
  · rw [at_needs h0 hb] at ha
    have ha : (173 : Int) = 0 := ha
    omega
  obtain ⟨d1, d2⟩ := hd i
  have hb2 : (behindP fs x (ds.getD i 0)).2 = true := by
    cases h : (behindP fs x (ds.getD i 0)).2 with
    | true => rfl
    | false => exact absurd (.inl h) hb
  have hb1 : (behindP fs x (ds.getD i 0)).1 ≤ 8000 := by
    apply Classical.byContradiction
    intro hc
    exact hb (.inr (by omega))
  clear hb ha hd
  generalize ds.getD i 0 = d at *
  obtain ⟨op, a, b⟩ := x
  have hz := ins_zero hn
  unfold numP at hn
  split at hn
  · omega
  · rename_i hw
    simp only [Bool.not_eq_false, Bool.and_eq_true] at hw
    obtain ⟨⟨ho, hwa⟩, hwb⟩ := hw
    unfold isOpP at ho
    simp only [Bool.and_eq_true, decide_eq_true_eq] at ho
    obtain ⟨h1, h17⟩ := ho
    have hop : op = 1 ∨ op = 2 ∨ op = 3 ∨ op = 4 ∨ op = 5 ∨ op = 6 ∨ op = 7 ∨ op = 8 ∨ op = 9 ∨ op = 10 ∨ op = 11 ∨ op = 12 ∨ op = 13 ∨ op = 14 ∨ op = 15 ∨ op = 16 ∨ op = 17 := by omega
    have goal : ∀ n : Int, (-4611686018427387904 ≤ n ∧ n ≤ 4611686018427387903) → isIntP n = true := fun n h => by
      unfold isIntP
      simp only [Bool.and_eq_true, decide_eq_true_eq]
      exact h
    rcases hop with rfl | rfl | rfl | rfl | rfl | rfl | rfl | rfl | rfl | rfl | rfl | rfl | rfl | rfl | rfl | rfl | rfl <;>
      (refine ⟨goal _ ?_, goal _ ?_⟩ <;> simp [behindP, fitsP, kindA, kindB, kindsP, targetP] at hb1 hb2 hwa hwb hz hn ⊢ <;> omega)
theorem flow_ints {ns ng len : Nat} {fs : List Int} (hfs : ∀ k, 0 ≤ fs.getD k 0) (hns : ns ≤ 2000) (hng : ng ≤ 2000) (hlen : len ≤ 8000) : ∀ (r : List Ins) (i : Nat) (ds : List Int), (∀ j, 0 ≤ ds.getD j 0 ∧ ds.getD j 0 ≤ 8000) → (∀ j (h : j < r.length), numP ns ng len (i + j) r[j] = 0) → flowP fs len i r ds = 0 → ∀ x ∈ r, isIntP x.2.1 = true ∧ isIntP x.2.2 = true
  | [], _, _, _, _, _, x, hx => by cases hx
  | y :: r, i, ds, hd, hn, hf, x, hx => by
    have h0 : numP ns ng len i y = 0 := hn 0 (by simp)
    unfold flowP at hf
    by_cases ha : (atP fs len ds i y).2 = 0
    · rw [if_pos ha] at hf
      rcases List.mem_cons.1 hx with rfl | hx
      · exact ins_int h0 hns hng hlen hd ha
      · exact flow_ints hfs hns hng hlen r (i + 1) _ (at_range hd hfs h0) (fun j hj => by
          have := hn (j + 1) (by simpa using hj)
          rw [show i + 1 + j = i + (j + 1) by omega]
          exact this) hf x hx
    · rw [if_neg ha] at hf
      exact absurd hf ha
/-- What Print writes of a table that Check takes is read as it was. -/
theorem read_printed {t : Tab} (h : checkP t = 0) (hs : Small t) : tableQ (textT t) = some t := by
  refine read_back_of h hs fun g hg => ?_
  have hf := fine_of h
  have ok := hf.ok hs
  obtain ⟨_, _, _, h4⟩ := fine_names hf
  have hb := hf.big
  unfold bigP at hb
  simp only [Bool.or_eq_false_iff, decide_eq_false_iff_not, List.any_eq_false, decide_eq_true_eq] at hb
  have hlen : g.2.2.length ≤ 8000 := by have := hb.1.2 g hg; omega
  have hc := hf.code g hg
  have hn := code_nums hc
  have hfs : ∀ k, 0 ≤ (t.1.map fun s => s.2).getD k 0 := fun k => by
    rw [List.getD_eq_getElem?_getD]
    cases hk : (t.1.map fun s => s.2)[k]? with
    | none => exact Int.le_refl _
    | some v =>
      have hv := List.mem_of_getElem? hk
      obtain ⟨s, hs, rfl⟩ := List.mem_map.1 hv
      exact (ok.shp s hs).2.1
  unfold codeP at hc
  rw [if_pos hn] at hc
  by_cases he : g.2.2 = []
  · rw [if_pos he] at hc
    omega
  · rw [if_neg he] at hc
    refine flow_ints hfs ok.shapes ok.globals hlen g.2.2 0 _ (fun j => ?_) (fun j hj => nums_all _ 0 hn j hj) hc
    have := h4 g hg
    by_cases hj : j = 0
    · subst hj
      have hl : 0 < g.2.2.length := List.length_pos_iff.2 he
      rw [getD_set_eq' (by rw [List.length_replicate]; exact hl)]
      omega
    · rw [getD_set_ne' hj, List.getD_eq_getElem?_getD]
      by_cases hjl : j < g.2.2.length
      · rw [List.getElem?_replicate, if_pos hjl]
        exact ⟨Int.le_refl _, by show (0 : Int) ≤ 8000; omega⟩
      · rw [List.getElem?_replicate, if_neg hjl]
        exact ⟨Int.le_refl _, by show (0 : Int) ≤ 8000; omega⟩
end Go.Proofs.YtlpnegnpejpdkabGreatDoor
