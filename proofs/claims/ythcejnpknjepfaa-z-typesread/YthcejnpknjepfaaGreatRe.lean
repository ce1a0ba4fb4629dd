/- Read answers as the document says, and what it answers is its owner's. -/
import Derived.Test.YthcejnpknjepfaaGreatRc
namespace Go.Proofs.YthcejnpknjepfaaGreat
open Go.RowKit

theorem own_count {w : World} {lo : Nat} : ∀ (d : Nat) (x : Value) (t : Tn d) (rws : List (Value × Nat)), TyO w lo d x t rws → rws.length ≤ (flat d t).length ∧ (formB d t = true → ∀ p ∈ rws, p.2 ≤ 6)
  | 0, _, t, _, _ => t.elim
  | d + 1, x, ((k, n), ts), rws, ⟨v, hx, h1, h2, h⟩ => by
    rcases h with ⟨h0, _, rfl⟩ | ⟨h0, es, rss, k1, k2, hown, rfl, hj⟩
    · exact ⟨by simp, fun _ p hp => by simp at hp⟩
    · have k1 : es.length = ts.length := k1
      have k2 : rss.length = ts.length := k2
      have hall : ∀ j (h : j < ts.length) (h' : j < rss.length), rss[j].length ≤ (flat d ts[j]).length ∧ (formB d ts[j] = true → ∀ p ∈ rss[j], p.2 ≤ 6) := fun j h h' => own_count d _ _ _ (hj j h (by rw [k1]; exact h) h')
      have key : ∀ (ts : List (Tn d)) (rss : List (List (Value × Nat))), rss.length = ts.length → (∀ j (h : j < ts.length) (h' : j < rss.length), rss[j].length ≤ (flat d ts[j]).length ∧ (formB d ts[j] = true → ∀ p ∈ rss[j], p.2 ≤ 6)) → rss.flatten.length ≤ (flats d ts).length ∧ ((∀ a ∈ ts, formB d a = true) → ∀ p ∈ rss.flatten, p.2 ≤ 6) := by
        intro ts
        induction ts with
        | nil =>
          intro rss hl _
          have : rss = [] := List.length_eq_zero_iff.1 hl
          subst this
          simp
        | cons t ts ih =>
          intro rss hl hh
          cases rss with
          | nil => simp at hl
          | cons r rss =>
            obtain ⟨i1, i2⟩ := ih rss (by simpa using hl) fun j h h' => by
              have := hh (j + 1) (by simpa using h) (by simpa using h')
              simpa using this
            obtain ⟨j1, j2⟩ := hh 0 (by simp) (by simp)
            have j1 : r.length ≤ (flat d t).length := j1
            rw [flats_cons, List.length_append, List.flatten_cons, List.length_append]
            refine ⟨by omega, fun hF p hp => ?_⟩
            rcases List.mem_append.1 hp with hp | hp
            · exact j2 (hF t (by simp)) p hp
            · exact i2 (fun a ha => hF a (by simp [ha])) p hp
      obtain ⟨i1, i2⟩ := key ts rss k2 hall
      refine ⟨by rw [flat_succ, List.length_cons, List.length_cons]; omega, fun hF p hp => ?_⟩
      rw [form_succ] at hF
      simp only [Bool.and_eq_true, List.all_eq_true] at hF
      rcases List.mem_cons.1 hp with rfl | hp
      · show ts.length ≤ 6
        have := hF.1
        unfold okB at this
        split at this
        · simp only [Bool.and_eq_true, decide_eq_true_eq] at this; omega
        · split at this
          · simp only [Bool.and_eq_true, decide_eq_true_eq] at this; omega
          · split at this
            · simp only [Bool.and_eq_true, decide_eq_true_eq] at this; omega
            · split at this
              · simp only [Bool.and_eq_true, decide_eq_true_eq] at this; omega
              · cases this
      · exact i2 hF.2 p hp
/-- What Read says of a text whose reading is known. -/
theorem rel_part {l r : List UInt8} {m : Nat} {t : Tn m} (h6 : l.length ≤ 65536) (h : PartOk l m t r) :
    ((r ≠ [] ∨ wrongT m t = 53) → RelR l 52 [(0, [], 0)]) ∧ (r = [] → wrongT m t = 4 → RelR l 4 [(0, [], 0)]) ∧ (r = [] → wrongT m t = 0 → RelR l 0 (flat m t)) := by
  refine ⟨fun h0 => .inr ⟨by decide, rfl, .inr (.inr ⟨h6, fun d u hu he => ?_, rfl⟩)⟩, fun h0 h1 => ?_, fun h0 h1 => ?_⟩
  · obtain ⟨f1, f2⟩ := h.compl d u [] hu (by rw [he, List.append_nil]) fun _ => ends_nil
    rcases h0 with h0 | h0
    · exact h0 f2
    · unfold wrongT at h0
      rw [if_pos f1] at h0
      split at h0 <;> cases h0
  · have hF : formB m t = true ∧ 500 < (flat m t).length := by
      unfold wrongT at h1
      split at h1
      · rename_i hf
        split at h1
        · exact ⟨hf, by assumption⟩
        · cases h1
      · cases h1
    have := (h.sound hF.1).1
    rw [h0, List.append_nil] at this
    exact .inr ⟨by decide, rfl, .inr (.inl ⟨h6, ⟨m, t, hF.1, this.symm, hF.2⟩, rfl⟩)⟩
  · obtain ⟨f1, f2⟩ := wrong_zero h1
    have := (h.sound f1).1
    rw [h0, List.append_nil] at this
    exact .inl ⟨rfl, h6, m, t, f1, this.symm, f2, rfl⟩
theorem read_zero {w W : World} {l : List UInt8} {e : Int} (hb : Below w.heap.size w W) (h : RelR l e [(0, [], 0)]) : ReadPostO w l (.returned (.tuple #[.agg #[.int .i64 0, .string ⟨#[]⟩, .slice none 0 0], .int .i64 e])) W :=
  ⟨hb, 0, ⟨#[]⟩, none, 0, 0, e, 1, ((0, []), []), [], rfl, ⟨.slice none 0 0, rfl, by simp, by simp, .inl ⟨rfl, ⟨none, 0, rfl⟩, rfl⟩⟩, ⟨fun p hp => by simp at hp, by simp⟩, by simp, fun p hp => by simp at hp, by rw [flat_succ, flats_nil]; exact h⟩
set_option maxHeartbeats 16000000 in
set_option maxRecDepth 10000 in
theorem read_any (hF : Finds) : ReadsO 8 := by
  intro l w hl
  obtain ⟨W0, hW0, hbW0, hsW0, _, _, _⟩ := cells_box w (.int .i64 0) (.string ⟨#[]⟩) (.slice none 0 0) 25
  have hbox0 : W0.heap[w.heap.size]? = some (.cells #[.int .i64 0, .string ⟨#[]⟩, .slice none 0 0] 25 (0, 0)) := by rw [hW0]; exact heap_alloc_new w _
  have hsz : (⟨l.toArray⟩ : ByteArray).size = l.length := by show l.toArray.size = _; simp
  by_cases hbig : 65536 < l.length
  · have HR : Hid (∀ W, Below w.heap.size w W → ReadPostO w l (.returned (.tuple #[.agg #[.int .i64 0, .string ⟨#[]⟩, .slice none 0 0], .int .i64 2])) W) := fun W hb => read_zero hb (.inr ⟨by decide, rfl, .inl ⟨hbig, rfl⟩⟩)
    have hbig' : (65536 : Int) < ((⟨l.toArray⟩ : ByteArray).size : Int) := by omega
    obtain ⟨W, hWe, k1, k2, k3, k4⟩ := store3 hbox0 (.int .i64 0) (.string ⟨#[]⟩) (.slice none 0 0)
    obtain ⟨x0, x1, x2⟩ := heap_cells hbox0
    have g0 := heap_frozen (o := 0) hbox0
    have g1 := heap_frozen (o := 1) hbox0
    have g2 := heap_frozen (o := 2) hbox0
    have HB : Hid (Below w.heap.size w W) := hbW0.trans k4
    show Calls Tryz.prog 8 #[.string ⟨l.toArray⟩] w _
    generalize (⟨l.toArray⟩ : ByteArray) = s at *
    clear hbW0 hsW0 hF
    go_enter Tryz.func8, Tryz.ntmps8
    go_upto_region 1 with fail
    rw [← hW0]
    clear hW0
    go_wp2
    rw [← hWe]
    obtain ⟨s0, s1, s2⟩ := heap_cells k1
    refine bodyPost_ret (v := .tuple #[.agg #[.int .i64 0, .string ⟨#[]⟩, .slice none 0 0], .int .i64 2]) (by simp [results, Tryz.results8, go_sem, s0, s1, s2]) rfl ?_
    exact HR.out W HB.out
  · have h6 : l.length ≤ 65536 := by omega
    have hbig' : ¬ (65536 : Int) < ((⟨l.toArray⟩ : ByteArray).size : Int) := by omega
    obtain ⟨W1, hW1⟩ : ∃ W1, W1 = W0.alloc (Obj.cells #[strV l] 63) := ⟨_, rfl⟩
    have hbW1 : Below W0.heap.size W0 W1 := by rw [hW1]; exact (Below.refl _ _).alloc (Nat.le_refl _) _
    have hq : RdAt W1 W0.heap.size l := by rw [hW1]; exact heap_alloc_new W0 _
    have hsW1 : W1.heap.size = W0.heap.size + 1 := by rw [hW1]; simp
    have CP := part_any hF l.length l W0.heap.size W1 hq (by omega) h6
    have HP : Hid (∀ w2 r1, RdS W1 w2 W0.heap.size r1 → Below w.heap.size w w2 ∧ w2.heap[w.heap.size]? = some (.cells #[.int .i64 0, .string ⟨#[]⟩, .slice none 0 0] 25 (0, 0)) ∧ w.heap.size + 2 ≤ w2.heap.size) := fun w2 r1 h => by
      have hb : Below w.heap.size w W1 := hbW0.trans (hbW1.mono hbW0.size)
      have h2 := h.grow.size
      refine ⟨⟨h.grow.os.trans hb.os, h.grow.tape.trans hb.tape, h.grow.output.trans hb.output, Nat.le_trans hb.size h2, fun g hg => ?_⟩, ?_, by omega⟩
      · rw [h.grow.block g (by omega) (by intro e; have := Option.some.inj e; omega)]
        exact hb.block g hg
      · rw [h.grow.block _ (by omega) (by intro e; have := Option.some.inj e; omega), hbW1.block _ (by omega)]
        exact hbox0
    have HZQ : Hid (W0.heap.size = w.heap.size + 1 ∧ W1.heap.size = W0.heap.size + 1) := ⟨hsW0, hsW1⟩
    show Calls Tryz.prog 8 #[.string ⟨l.toArray⟩] w _
    have hW1' : W1 = W0.alloc (Obj.cells #[.string ⟨l.toArray⟩] 63) := hW1
    clear hbW0 hsW0 hF hbW1 hq hW1 hsW1 hbox0
    generalize hsn : (⟨l.toArray⟩ : ByteArray) = s at *
    go_enter Tryz.func8, Tryz.ntmps8
    go_upto_region 1 with fail
    rw [← hW0]
    clear hW0
    go_upto_region 4 with fail
    rw [← hW1']
    clear hW1'
    go_upto_region 5 with (first
      | (go_at_call 30; (with_reducible refine Calls.mono CP ?_); intro e' w2 hp; obtain ⟨k1, n1, ad1, len1, cap1, t1, rws1, r1, rfl, hr2, hok1, hnum1, hle1, hT1, hS1⟩ := hp))
    have hP2 := HP.out w2 r1 hr2
    obtain ⟨U, hU, hbU, hsU, u0, u1, u2, v0, v1, v2⟩ := cells_boxes w2 (.int .i64 k1) (.string n1) (.slice ad1 len1 cap1) (.int .i64 k1) (.string n1) (.slice ad1 len1 cap1) 25
    have hlt1 : ∀ p ∈ rws1, ∀ g, p.1.ownBlock = some g → W1.heap.size ≤ g ∧ g < w2.heap.size := fun p hp g hg => by
      obtain ⟨g', e, a, b⟩ := hS1.1 p hp
      rw [hg] at e
      have := Option.some.inj e
      exact ⟨by omega, by omega⟩
    have hTA : TyAt w2 w2.heap.size (l.length + 1) (.agg #[.int .i64 k1, .string n1, .slice ad1 len1 cap1]) t1 := TyO.at _ _ _ _ (fun p hp g hg => (hlt1 p hp g hg).2) hT1
    have C2 := wrong_one (l.length + 1) _ _ _ _ _ t1 w2 U w2.heap.size (w2.heap.size + 1) (by omega) (by omega) hTA hbU (by omega) v0 v1 v2
    obtain ⟨R1, R2, R3⟩ := rel_part h6 hok1
    have HRel : Hid (((r1 ≠ [] ∨ wrongT (l.length + 1) t1 = 53) → RelR l 52 [(0, [], 0)]) ∧ (r1 = [] → wrongT (l.length + 1) t1 = 4 → RelR l 4 [(0, [], 0)]) ∧ (r1 = [] → wrongT (l.length + 1) t1 = 0 → RelR l 0 (flat (l.length + 1) t1))) := ⟨R1, R2, R3⟩
    have hwr := wrong_range (l.length + 1) t1
    have HW3 : Hid (∀ w3, Below U.heap.size U w3 → Below w.heap.size w w3 ∧ w3.heap[w.heap.size]? = some (.cells #[.int .i64 0, .string ⟨#[]⟩, .slice none 0 0] 25 (0, 0)) ∧ RdAt w3 W0.heap.size r1 ∧ w3.heap[w2.heap.size]? = some (.cells #[.int .i64 k1, .string n1, .slice ad1 len1 cap1] 25 (0, 0)) ∧ TyO w3 W1.heap.size (l.length + 1) (.agg #[.int .i64 k1, .string n1, .slice ad1 len1 cap1]) t1 rws1 ∧ w2.heap.size + 2 ≤ w3.heap.size) := fun w3 hb => by
      have hb3 : Below w2.heap.size w2 w3 := hbU.trans (hb.mono hbU.size)
      have hbx : U.heap[w2.heap.size]? = some (.cells #[.int .i64 k1, .string n1, .slice ad1 len1 cap1] 25 (0, 0)) := by
        rw [hU, Below.heap_alloc _ _ _ (by simp)]
        exact heap_alloc_new w2 _
      refine ⟨hP2.1.trans (hb3.mono hP2.1.size), (hb3.block _ (lt_of_heap hP2.2.1)).trans hP2.2.1, (hb3.block _ (lt_of_heap hr2.at')).trans hr2.at', (hb.block _ (by omega)).trans hbx, TyO.on _ _ _ _ (fun p hp g hg => hb3.block g (hlt1 p hp g hg).2) hT1, by have := hb.size; omega⟩
    have HT1 : Hid (SepB W1.heap.size w2.heap.size rws1 ∧ rws1.length ≤ (flat (l.length + 1) t1).length ∧ (formB (l.length + 1) t1 = true → ∀ p ∈ rws1, p.2 ≤ 6)) := ⟨hS1, own_count _ _ _ _ hT1⟩
    rw [hU] at C2
    clear hok1 hnum1 hle1 hT1 hS1 hlt1 hTA hr2 R1 R2 R3 HP CP u0 u1 u2 v0 v1 v2
    have HP2 : Hid (w.heap.size + 2 ≤ w2.heap.size) := hP2.2.2
    clear hP2
    have HUD : Hid (U = (w2.alloc (Obj.cells #[.int .i64 k1, .string n1, .slice ad1 len1 cap1] 25)).alloc (Obj.cells #[.int .i64 k1, .string n1, .slice ad1 len1 cap1] 25)) := hU
    have hsl : (Value.string s) = strV l := by rw [← hsn]
    clear hU hbU hsU
    generalize hwc : wrongT (l.length + 1) t1 = wc at *
    have ZERO : Hid (∀ (e : Int) w3, Below U.heap.size U w3 → RelR l e [(0, [], 0)] → ∃ W, W = ((w3.setCell ⟨w.heap.size, 0, none⟩ (.int .i64 0)).setCell ⟨w.heap.size, 1, none⟩ (.string ⟨#[]⟩)).setCell ⟨w.heap.size, 2, none⟩ (.slice none 0 0) ∧ W.heap[w.heap.size]? = some (.cells #[.int .i64 0, .string ⟨#[]⟩, .slice none 0 0] 25 (0, 0)) ∧ ReadPostO w l (.returned (.tuple #[.agg #[.int .i64 0, .string ⟨#[]⟩, .slice none 0 0], .int .i64 e])) W) := fun e w3 hb hrel => by
      obtain ⟨a1, a2, _⟩ := HW3.out w3 hb
      obtain ⟨W, hWe, k1, k2, k3, k4⟩ := store3 a2 (.int .i64 0) (.string ⟨#[]⟩) (.slice none 0 0)
      exact ⟨W, hWe, k1, read_zero (a1.trans k4) hrel⟩
    have FACT : Hid (∀ w3, Below U.heap.size U w3 → (w3.cell? ⟨w.heap.size, 0, none⟩ = some (.int .i64 0) ∧ w3.cell? ⟨w.heap.size, 1, none⟩ = some (.string ⟨#[]⟩) ∧ w3.cell? ⟨w.heap.size, 2, none⟩ = some (.slice none 0 0)) ∧ (w3.frozen? ⟨w.heap.size, 0, none⟩ = false ∧ w3.frozen? ⟨w.heap.size, 1, none⟩ = false ∧ w3.frozen? ⟨w.heap.size, 2, none⟩ = false) ∧ w3.cell? ⟨W0.heap.size, 0, none⟩ = some (strV r1) ∧ (w3.cell? ⟨w2.heap.size, 0, none⟩ = some (.int .i64 k1) ∧ w3.cell? ⟨w2.heap.size, 1, none⟩ = some (.string n1) ∧ w3.cell? ⟨w2.heap.size, 2, none⟩ = some (.slice ad1 len1 cap1))) := fun w3 hb => by
      obtain ⟨a1, a2, a3, a4, _⟩ := HW3.out w3 hb
      exact ⟨heap_cells a2, ⟨heap_frozen a2, heap_frozen a2, heap_frozen a2⟩, rd_cell a3, heap_cells a4⟩
    have hbl : (⟨r1.toArray⟩ : ByteArray).toList = r1 := bytes_list r1
    have FACT2 := FACT
    by_cases hre : r1 = []
    · have HRl : Hid (r1 = []) := hre
      have hb0 : ((⟨r1.toArray⟩ : ByteArray).toList == []) = true := by rw [hbl, hre]; rfl
      have hb1 : ((⟨r1.toArray⟩ : ByteArray).toList != []) = false := by rw [hbl, hre]; rfl
      have hb2 : (⟨r1.toArray⟩ : ByteArray).toList.isEmpty = true := by rw [hbl, hre]; rfl
      clear hbl hre
      generalize (⟨r1.toArray⟩ : ByteArray) = rs at FACT hb0 hb1 hb2
      rcases hwr with h0 | h0 | h0
      · have HW0 : Hid (wc = 0) := h0
        subst h0
        go_wp2_with (first
        | (go_at_call 31; (with_reducible refine Calls.mono C2 ?_); rintro e' w3 ⟨rfl, hb3⟩; rw [← HUD.out] at hb3; obtain ⟨⟨x0, x1, x2⟩, ⟨g0, g1, g2⟩, y0, ⟨z0, z1, z2⟩⟩ := FACT.out w3 hb3))
        obtain ⟨a1, a2, a3, a4, a5, a6⟩ := HW3.out w3 hb3
        obtain ⟨W, hWe, k1', k2', k3', k4'⟩ := store3 a2 (.int .i64 k1) (.string n1) (.slice ad1 len1 cap1)
        rw [← hWe]
        obtain ⟨s0, s1, s2⟩ := heap_cells k1'
        refine bodyPost_ret (v := .tuple #[.agg #[.int .i64 k1, .string n1, .slice ad1 len1 cap1], .int .i64 0]) (by simp [results, Tryz.results8, go_sem, s0, s1, s2]) rfl ?_
        obtain ⟨c1, c2, c3⟩ := HT1.out
        obtain ⟨f1, f2⟩ := wrong_zero hwc
        have hz1 := HZQ.out
        refine ⟨a1.trans k4', k1, n1, ad1, len1, cap1, 0, _, t1, rws1, rfl, TyO.mono (by omega) _ _ _ _ (TyO.on _ _ _ _ (fun p hp g hg => k2' g ?_) a5), ⟨fun p hp => ?_, c1.2⟩, by omega, c3 f1, HRel.out.2.2 HRl.out (by first | rfl | trivial)⟩
        · obtain ⟨g', e, q1, q2⟩ := c1.1 p hp
          rw [hg] at e
          have := Option.some.inj e
          omega
        · obtain ⟨g', e, q1, q2⟩ := c1.1 p hp
          exact ⟨g', e, by omega⟩
      · have HW0 : Hid (wc = 4) := h0
        subst h0
        go_wp2_with (first
        | (go_at_call 31; (with_reducible refine Calls.mono C2 ?_); rintro e' w3 ⟨rfl, hb3⟩; rw [← HUD.out] at hb3; obtain ⟨⟨x0, x1, x2⟩, ⟨g0, g1, g2⟩, y0, ⟨z0, z1, z2⟩⟩ := FACT.out w3 hb3))
        obtain ⟨W, hWe, k1', HRes⟩ := ZERO.out 4 w3 hb3 (HRel.out.2.1 HRl.out (by first | rfl | trivial))
        rw [← hWe]
        obtain ⟨s0, s1, s2⟩ := heap_cells k1'
        refine bodyPost_ret (v := .tuple #[.agg #[.int .i64 0, .string ⟨#[]⟩, .slice none 0 0], .int .i64 4]) (by simp [results, Tryz.results8, go_sem, s0, s1, s2]) rfl ?_
        exact HRes
      · have HW0 : Hid (wc = 53) := h0
        subst h0
        go_wp2_with (first
        | (go_at_call 31; (with_reducible refine Calls.mono C2 ?_); rintro e' w3 ⟨rfl, hb3⟩; rw [← HUD.out] at hb3; obtain ⟨⟨x0, x1, x2⟩, ⟨g0, g1, g2⟩, y0, ⟨z0, z1, z2⟩⟩ := FACT.out w3 hb3))
        obtain ⟨W, hWe, k1', HRes⟩ := ZERO.out 52 w3 hb3 (HRel.out.1 (.inr (by first | rfl | trivial)))
        rw [← hWe]
        obtain ⟨s0, s1, s2⟩ := heap_cells k1'
        refine bodyPost_ret (v := .tuple #[.agg #[.int .i64 0, .string ⟨#[]⟩, .slice none 0 0], .int .i64 52]) (by simp [results, Tryz.results8, go_sem, s0, s1, s2]) rfl ?_
        exact HRes
    · have HRl : Hid (r1 ≠ []) := hre
      have hb0 : ((⟨r1.toArray⟩ : ByteArray).toList == []) = false := by rw [hbl]; simpa using hre
      have hb1 : ((⟨r1.toArray⟩ : ByteArray).toList != []) = true := by rw [hbl]; simpa using hre
      have hb2 : (⟨r1.toArray⟩ : ByteArray).toList.isEmpty = false := by rw [hbl]; simpa using hre
      clear hbl hre
      generalize (⟨r1.toArray⟩ : ByteArray) = rs at FACT hb0 hb1 hb2
      go_wp2_with (first
        | (go_at_call 31; (with_reducible refine Calls.mono C2 ?_); rintro e' w3 ⟨rfl, hb3⟩; rw [← HUD.out] at hb3; obtain ⟨⟨x0, x1, x2⟩, ⟨g0, g1, g2⟩, y0, ⟨z0, z1, z2⟩⟩ := FACT.out w3 hb3))
      obtain ⟨W, hWe, k1', HRes⟩ := ZERO.out 52 w3 hb3 (HRel.out.1 (.inl HRl.out))
      rw [← hWe]
      obtain ⟨s0, s1, s2⟩ := heap_cells k1'
      refine bodyPost_ret (v := .tuple #[.agg #[.int .i64 0, .string ⟨#[]⟩, .slice none 0 0], .int .i64 52]) (by simp [results, Tryz.results8, go_sem, s0, s1, s2]) rfl ?_
      exact HRes
end Go.Proofs.YthcejnpknjepfaaGreat
