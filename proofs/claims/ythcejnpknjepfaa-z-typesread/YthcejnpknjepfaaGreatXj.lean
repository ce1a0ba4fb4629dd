/- The reference's Read answers as the document says. -/
import Derived.Test.YthcejnpknjepfaaGreatXi
import Derived.Test.YthcejnpknjepfaaGreatBk
namespace Go.Proofs.YthcejnpknjepfaaGreat
open Go.RowKit

theorem args_nodes (d : Nat) (ih : ∀ t : Tn d, formB d t = true → (flat d t).length ≤ (textT d t).length) : ∀ ts : List (Tn d), (∀ a ∈ ts, formB d a = true) → (flats d ts).length ≤ (argsT d ts).length
  | [], _ => by simp [flats]
  | t :: ts, h => by
    have h1 := ih t (h t (by simp))
    have h2 := args_nodes d ih ts fun a ha => h a (by simp [ha])
    rw [argsT_cons, flats_cons]
    simp
    omega
theorem nodes_text : ∀ (d : Nat) (t : Tn d), formB d t = true → (flat d t).length ≤ (textT d t).length
  | 0, t, _ => t.elim
  | d + 1, t, h => by
    rcases form_cases h with rfl | ⟨n, hn, rfl⟩ | ⟨a, b, ha, hb, rfl⟩ | ⟨n, ts, hn, hl, hts, rfl⟩
    · rw [text_int, flat_succ, flats_nil]; simp
    · rw [text_var, flat_succ, flats_nil]
      have := List.length_pos_iff.2 (var_plain hn).1
      simp
      omega
    · rw [text_fun, flat_succ, flats_cons, flats_cons, flats_nil]
      have h1 := nodes_text d a ha
      have h2 := nodes_text d b hb
      simp
      omega
    · have := List.length_pos_iff.2 (data_plain hn).1
      cases ts with
      | nil => rw [text_data0, flat_succ, flats_nil]; simp; omega
      | cons t ts =>
        rw [text_data, flat_succ]
        have h2 := args_nodes d (nodes_text d) (t :: ts) hts
        simp
        omega
theorem read_whole {s : ByteArray} {m : Nat} {w w' : World} {x : Value} {n : Int} (h : RdOk w w' (rs s 0) 0 m x n) : (n = s.size ∧ ∃ t : Tn m, formB m t = true ∧ textT m t = s.data.toList ∧ TyS w' (fun g => w.heap.size ≤ g ∧ g < w'.heap.size) m x t) ∨ (n ≠ s.size ∧ ∀ d (t : Tn d), formB d t = true → textT d t ≠ s.data.toList) := by
  obtain ⟨t, r, hf, hl, hE, hn, hT⟩ := h
  have h0 : rs s 0 = s.data.toList := by simp [rs]
  have hlen := congrArg List.length hl
  rw [h0, List.length_append] at hlen
  have hsz : s.data.toList.length = s.size := by simp
  by_cases hr : r = []
  · subst hr
    refine .inl ⟨by rw [hn]; simp at hlen; omega, t, hf, ?_, hT⟩
    rw [← h0, hl, List.append_nil]
  · refine .inr ⟨?_, fun d u hu he => hr ?_⟩
    · have := List.length_pos_iff.2 hr
      rw [hn]
      omega
    · have := text_inj2 m t d u r [] hf hu hE (fun _ => ends_nil) (by rw [← hl, h0, he, List.append_nil])
      exact this.2
set_option maxHeartbeats 8000000 in
set_option maxRecDepth 10000 in
theorem read_ref : Reads 7 := by
  intro l w hl
  generalize hs : (⟨l.toArray⟩ : ByteArray) = s
  have hsl : s.data.toList = l := by rw [← hs]
  have hsz : s.size = l.length := by rw [← hs]; show l.toArray.size = _; simp
  show Calls Tryz.prog 7 #[.string ⟨l.toArray⟩] w _
  rw [hs]
  clear hs
  obtain ⟨W0, hW0, hbW0, hsW0, hres⟩ := res_at w
  have HR : Hid (∀ U, Below W0.heap.size W0 U → U.heap[w.heap.size]? = some (.cells #[.int .i64 0, .string ⟨#[]⟩, .slice none 0 0] 25 (0, 0)) ∧ Below w.heap.size w U) := hres
  have HW0 : Hid (W0.heap.size = w.heap.size + 1) := hsW0
  by_cases hbig : 65536 < s.size
  · have hbig' : (65536 : Int) < (s.size : Int) := by omega
    obtain ⟨resU, hwU⟩ := hres W0 (Below.refl _ _)
    obtain ⟨r0, r1, r2⟩ := heap_cells resU
    have g0 := heap_frozen (o := 0) resU
    have g1 := heap_frozen (o := 1) resU
    have g2 := heap_frozen (o := 2) resU
    have HL : Hid (65536 < l.length) := by show 65536 < l.length; omega
    clear hbig hsl hl hsz hres hbW0 hsW0 HW0
    go_enter Tryz.func7, Tryz.ntmps7
    go_upto_region 1 with fail
    rw [← hW0]
    generalize hz : w.heap.size = z at *
    have HZ : Hid (w.heap.size = z) := hz
    clear hz hW0
    go_wp2
    obtain ⟨W', hW', hz', hoth, hsz', hbz'⟩ := store3 resU (.int .i64 0) (.string ⟨#[]⟩) (.slice none 0 0)
    rw [← hW']
    obtain ⟨s0, s1, s2⟩ := heap_cells hz'
    refine bodyPost_ret (v := .tuple #[.agg #[.int .i64 0, .string ⟨#[]⟩, .slice none 0 0], .int .i64 2]) (by simp [results, Tryz.results7, go_sem, s0, s1, s2]) rfl ?_
    exact ⟨by rw [HZ.out]; exact hwU.trans hbz', _, _, rfl, .inr ⟨by decide, ⟨_, _, rfl⟩, .inl ⟨HL.out, rfl⟩⟩⟩
  · have hbig' : ¬ (65536 : Int) < (s.size : Int) := by omega
    have R1 := read_refd (s.size + 1) s 0 W0 (by omega) (by omega) (by omega)
    have HLs : Hid (s.data.toList = l ∧ l.length ≤ 65536) := ⟨hsl, by omega⟩
    clear hsl hl hsz hres hbW0 hsW0 hbig
    go_enter Tryz.func7, Tryz.ntmps7
    go_upto_region 1 with fail
    rw [← hW0]
    generalize hz : w.heap.size = z at *
    have HZ : Hid (w.heap.size = z) := hz
    clear hz hW0
    go_upto_region 4 with (first
      | (go_at_call 28; (with_reducible refine Calls.mono R1 ?_); intro e' w1 hpost; obtain ⟨hb1, ka, na, ada, lena, capa, n1, one, rfl, hcase⟩ := hpost))
    obtain ⟨U, hU, hbU, hsU, u0, u1, u2⟩ := cells_box w1 (.int .i64 ka) (.string na) (.slice ada lena capa) 25
    rw [← hU]
    have hbU2 := hb1.trans (hbU.mono hb1.size)
    obtain ⟨resU, hwU⟩ := HR.out U hbU2
    obtain ⟨r0, r1, r2⟩ := heap_cells resU
    have g0 := heap_frozen (o := 0) resU
    have g1 := heap_frozen (o := 1) resU
    have g2 := heap_frozen (o := 2) resU
    have hz1 : z < w1.heap.size := by have := hb1.size; have := HW0.out; omega
    have HS1 : Hid (U.heap.size = w1.heap.size + 1) := hsU
    have HU1 : Hid (∀ g, g < w1.heap.size → U.heap[g]? = w1.heap[g]?) := fun g hg => hbU.block g hg
    have HB1 : Hid (Below W0.heap.size W0 U) := hbU2
    clear hU hsU hb1 hbU hbU2 R1
    generalize hq1 : w1.heap.size = z1 at u0 u1 u2 hz1 ⊢
    have HQ1 : Hid (w1.heap.size = z1) := hq1
    have nz1 : ¬ z1 = z := by omega
    have hzU : z1 < U.heap.size := by have := HS1.out; omega
    clear hq1
    have FAIL : Hid ((∀ d (t : Tn d), formB d t = true → textT d t ≠ l) → ∀ W', Below z U W' → ReadPost w l (.returned (.tuple #[zeroT, .int .i64 52])) W') := fun hno W' hb => by
      exact ⟨by rw [HZ.out]; exact hwU.trans hb, _, _, rfl, .inr ⟨by decide, ⟨_, _, rfl⟩, .inr (.inr ⟨HLs.out.2, hno, rfl⟩)⟩⟩
    rcases hcase with ⟨rfl, hok⟩ | ⟨rfl, hno⟩
    · rcases read_whole hok with ⟨rfl, t, hf, ht, hT⟩ | ⟨hne, hno⟩
      · have HTs : Hid (TyS w1 (fun g => W0.heap.size ≤ g ∧ g < w1.heap.size) (s.size + 1) (.agg #[.int .i64 ka, .string na, .slice ada lena capa]) t) := hT
        have hTU : TyAt U U.heap.size (s.size + 1) (.agg #[.int .i64 ka, .string na, .slice ada lena capa]) t := by
          have h1 := HS1.out
          have hS : TyS U (fun g => g < U.heap.size) (s.size + 1) (.agg #[.int .i64 ka, .string na, .slice ada lena capa]) t := TyS.on (S := fun g => W0.heap.size ≤ g ∧ g < w1.heap.size) (fun g q => by omega) (fun g q => HU1.out g q.2) _ _ _ hT
          exact TyS.at (fun g hg => hg) _ _ _ hS
        have hnn := nodes_text _ t hf
        rw [ht, HLs.out.1] at hnn
        have hl6 := HLs.out.2
        have C1 := nodes_any _ _ t U U.heap.size (Nat.le_refl _) hTU (by omega)
        have HF : Hid (formB (s.size + 1) t = true ∧ textT (s.size + 1) t = l) := ⟨hf, by rw [ht, HLs.out.1]⟩
        have HNd : Hid ((flat (s.size + 1) t).length = (flat (s.size + 1) t).length) := rfl
        generalize hnd : (flat (s.size + 1) t).length = nd at C1 hnn
        have HND : Hid ((flat (s.size + 1) t).length = nd) := hnd
        have HTU : Hid (TyAt U U.heap.size (s.size + 1) (.agg #[.int .i64 ka, .string na, .slice ada lena capa]) t) := hTU
        have X1 : ∀ w2, Below U.heap.size U w2 → (w2.cell? ⟨z1, 0, none⟩ = some (.int .i64 ka) ∧ w2.cell? ⟨z1, 1, none⟩ = some (.string na) ∧ w2.cell? ⟨z1, 2, none⟩ = some (.slice ada lena capa)) ∧ w2.heap[z]? = some (.cells #[.int .i64 0, .string ⟨#[]⟩, .slice none 0 0] 25 (0, 0)) := fun w2 hb =>
          ⟨⟨(hb.cell (p := ⟨z1, 0, none⟩) hzU).trans u0, (hb.cell (p := ⟨z1, 1, none⟩) hzU).trans u1, (hb.cell (p := ⟨z1, 2, none⟩) hzU).trans u2⟩, (hb.block z (by omega)).trans resU⟩
        have HwU : Hid (Below z w U) := hwU
        have hzU2 : z + 1 ≤ U.heap.size := by omega
        clear hT hTU hf ht hnd HNd hok FAIL hnn hwU resU r0 r1 r2 g0 g1 g2
        by_cases h5 : 500 < nd
        · have h5' : (500 : Int) < (nd : Int) := by omega
          go_wp2_with (first | (go_at_call 29; (with_reducible refine Calls.mono C1 ?_); rintro e' w2 ⟨rfl, hb2⟩; obtain ⟨⟨y0, y1, y2⟩, resV⟩ := X1 w2 hb2; obtain ⟨r0, r1, r2⟩ := heap_cells resV; have g0 := heap_frozen (o := 0) resV; have g1 := heap_frozen (o := 1) resV; have g2 := heap_frozen (o := 2) resV))
          obtain ⟨W', hW', hz', hoth, hsz', hbz'⟩ := store3 resV (.int .i64 0) (.string ⟨#[]⟩) (.slice none 0 0)
          rw [← hW']
          obtain ⟨s0, s1, s2⟩ := heap_cells hz'
          refine bodyPost_ret (v := .tuple #[.agg #[.int .i64 0, .string ⟨#[]⟩, .slice none 0 0], .int .i64 4]) (by simp [results, Tryz.results7, go_sem, s0, s1, s2]) rfl ?_
          exact ⟨by rw [HZ.out]; exact (HwU.out.trans (hb2.mono (by omega))).trans hbz', _, _, rfl, .inr ⟨by decide, ⟨_, _, rfl⟩, .inr (.inl ⟨HLs.out.2, ⟨_, t, HF.out.1, HF.out.2, by rw [HND.out]; exact h5⟩, rfl⟩)⟩⟩
        · have h5' : ¬ (500 : Int) < (nd : Int) := by omega
          go_wp2_with (first | (go_at_call 29; (with_reducible refine Calls.mono C1 ?_); rintro e' w2 ⟨rfl, hb2⟩; obtain ⟨⟨y0, y1, y2⟩, resV⟩ := X1 w2 hb2; obtain ⟨r0, r1, r2⟩ := heap_cells resV; have g0 := heap_frozen (o := 0) resV; have g1 := heap_frozen (o := 1) resV; have g2 := heap_frozen (o := 2) resV))
          obtain ⟨W', hW', hz', hoth, hsz', hbz'⟩ := store3 resV (.int .i64 ka) (.string na) (.slice ada lena capa)
          rw [← hW']
          obtain ⟨s0, s1, s2⟩ := heap_cells hz'
          refine bodyPost_ret (v := .tuple #[.agg #[.int .i64 ka, .string na, .slice ada lena capa], .int .i64 0]) (by simp [results, Tryz.results7, go_sem, s0, s1, s2]) rfl ?_
          refine ⟨by rw [HZ.out]; exact (HwU.out.trans (hb2.mono (by omega))).trans hbz', _, _, rfl, .inl ⟨rfl, HLs.out.2, _, t, HF.out.1, HF.out.2, by rw [HND.out]; omega, ?_⟩⟩
          have h1 := HS1.out
          have hW0 := HW0.out
          have hb2s := hb2.size
          have hS : TyS W' (fun g => g < W'.heap.size) (s.size + 1) (.agg #[.int .i64 ka, .string na, .slice ada lena capa]) t :=
            TyS.on (S := fun g => W0.heap.size ≤ g ∧ g < w1.heap.size) (fun g q => by omega) (fun g q => by rw [hoth g (by omega), hb2.block g (by omega), HU1.out g q.2]) _ _ _ HTs.out
          exact TyS.at (fun g hg => hg) _ _ _ hS
      · have HN : Hid (∀ d (t : Tn d), formB d t = true → textT d t ≠ l) := by rw [← HLs.out.1]; exact hno
        have hne1 : (n1 != (s.size : Int)) = true := by rw [bne_iff_ne]; exact hne
        have hne2 : (n1 == (s.size : Int)) = false := by rw [beq_eq_false_iff_ne]; exact hne
        clear hno hok
        go_wp2
        obtain ⟨W', hW', hz', hoth, hsz', hbz'⟩ := store3 resU (.int .i64 0) (.string ⟨#[]⟩) (.slice none 0 0)
        rw [← hW']
        obtain ⟨s0, s1, s2⟩ := heap_cells hz'
        refine bodyPost_ret (v := .tuple #[.agg #[.int .i64 0, .string ⟨#[]⟩, .slice none 0 0], .int .i64 52]) (by simp [results, Tryz.results7, go_sem, s0, s1, s2]) rfl ?_
        exact FAIL.out HN.out W' hbz'
    · have HN : Hid (∀ d (t : Tn d), formB d t = true → textT d t ≠ l) := fun d t hf he => by
        refine hno d t [] hf ?_ fun _ => ends_nil
        rw [List.append_nil, he, ← HLs.out.1]
        simp [rs]
      clear hno
      go_wp2
      obtain ⟨W', hW', hz', hoth, hsz', hbz'⟩ := store3 resU (.int .i64 0) (.string ⟨#[]⟩) (.slice none 0 0)
      rw [← hW']
      obtain ⟨s0, s1, s2⟩ := heap_cells hz'
      refine bodyPost_ret (v := .tuple #[.agg #[.int .i64 0, .string ⟨#[]⟩, .slice none 0 0], .int .i64 52]) (by simp [results, Tryz.results7, go_sem, s0, s1, s2]) rfl ?_
      exact FAIL.out HN.out W' hbz'
end Go.Proofs.YthcejnpknjepfaaGreat
