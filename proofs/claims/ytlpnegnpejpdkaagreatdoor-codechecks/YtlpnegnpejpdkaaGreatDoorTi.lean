/- Print, whole. -/
import Derived.Test.YtlpnegnpejpdkaaGreatDoorMkx
import Derived.Test.YtlpnegnpejpdkaaGreatDoorRj
import Derived.Test.YtlpnegnpejpdkaaGreatDoorMhx
namespace Go.Proofs.YtlpnegnpejpdkaaGreatDoor
open Go.RowKit

theorem ins_iok {t : Tab} {len i : Nat} {x : Ins} (h : numP t.1.length t.2.length len i x = 0) (ha : x.2.1 < 9223372036854775808) (hb : x.2.2 < 9223372036854775808) : IOk t x := by
  obtain ⟨op, a, b⟩ := x
  unfold numP at h
  split at h
  · omega
  · rename_i hw
    simp only [Bool.not_eq_false, Bool.and_eq_true] at hw
    obtain ⟨⟨ho, h1⟩, h2⟩ := hw
    have ht : ∀ to, targetP (op, a, b) = some to → 0 ≤ to := fun to e => by
      rw [e] at h
      simp only at h
      split at h
      · omega
      · omega
    clear h
    obtain ⟨o1, o2⟩ := op_range ho
    generalize hns : t.1.length = ns at *
    generalize hng : t.2.length = ng at *
    simp only at ha hb h1 h2
    have hk : op = 1 ∨ op = 2 ∨ op = 3 ∨ op = 4 ∨ op = 5 ∨ op = 6 ∨ op = 7 ∨ op = 8 ∨ op = 9 ∨ op = 10 ∨ op = 11 ∨ op = 12 ∨ op = 13 ∨ op = 14 ∨ op = 15 ∨ op = 16 ∨ op = 17 := by
      omega
    refine ⟨ho, fun h0 => ?_, fun h0 => ?_⟩
    · clear ho o1 o2 h2 hb
      refine ⟨fun e => ?_, fun e => ?_, fun e => ?_, ?_⟩ <;> (try rw [hns]) <;> (try rw [hng]) <;> rcases hk with rfl | rfl | rfl | rfl | rfl | rfl | rfl | rfl | rfl | rfl | rfl | rfl | rfl | rfl | rfl | rfl | rfl <;>
        simp [fitsP, kindA, kindB, kindsP, targetP, i64] at * <;> omega
    · clear ho o1 o2 h1 ha
      refine ⟨fun e => ?_, fun e => ?_, fun e => ?_, ?_⟩ <;> (try rw [hns]) <;> (try rw [hng]) <;> rcases hk with rfl | rfl | rfl | rfl | rfl | rfl | rfl | rfl | rfl | rfl | rfl | rfl | rfl | rfl | rfl | rfl | rfl <;>
        simp [fitsP, kindA, kindB, kindsP, targetP, i64] at * <;> omega
theorem tx_ok {t : Tab} (h : checkP t = 0) (hs : Small t) : TxOk t := by
  have hf := fine_of h
  have ok := hf.ok hs
  have hb := hf.big
  unfold bigP at hb
  simp only [Bool.or_eq_false_iff, decide_eq_false_iff_not, List.any_eq_false, decide_eq_true_eq] at hb
  refine ⟨⟨fun s hm => (ok.shp s hm).1, fun g hg => (ok.glb g hg).1⟩, fun s hm => ?_, fun g hg => ?_, fun g hg x hx => ?_, fun g hg => by have := hb.1.2 g hg; omega, ok.shapes, ok.globals⟩
  · have := ok.shp s hm
    exact ⟨by omega, by omega⟩
  · have h2 := (ok.glb g hg).2.1
    have h3 := (ok.glb g hg).2.2.1
    exact ⟨by omega, by omega⟩
  · obtain ⟨i, hi, rfl⟩ := List.getElem_of_mem hx
    have h5 := nums_all _ 0 (code_nums (hf.code g hg)) i hi
    exact ins_iok h5 (hs g hg _ hx).1 (hs g hg _ hx).2
/-- What Print answers. -/
structure PrP (t : Tab) (w : World) (r : Ending) (w' : World) : Prop where
  bad : checkP t ≠ 0 → r = .returned (.tuple #[.string ⟨#[]⟩, .int .i64 (checkP t)])
  long : checkP t = 0 → 8388608 < (textT t).length → r = .returned (.tuple #[.string ⟨#[]⟩, .int .i64 4])
  good : checkP t = 0 → ¬ 8388608 < (textT t).length → r = .returned (.tuple #[.string ⟨(textT t).toArray⟩, .int .i64 0])
  bel : Below w.heap.size w w'
set_option maxHeartbeats 16000000 in
set_option maxRecDepth 10000 in
theorem print_any {w : World} {sv gv : Value} {t : Tab} (h : PB w sv gv t) : Calls Tryz.prog 17 #[.agg #[sv, gv]] w fun r w' => PrP t w r w' := by
  obtain ⟨sa, scap, rfl⟩ := RowK.len h.ck.tab.shp
  obtain ⟨bd, bcap, rfl⟩ := RowK.len h.ck.tab.glb
  obtain ⟨X, hX⟩ : ∃ X, X = w.heap.size := ⟨_, rfl⟩
  obtain ⟨W, hW⟩ : ∃ W, W = w.alloc (.cells #[.slice sa t.1.length scap, .slice bd t.2.length bcap] 25) := ⟨_, rfl⟩
  have hBW : Below w.heap.size w W := by rw [hW]; exact (Below.refl _ _).alloc (Nat.le_refl _) _
  have hXW : W.heap[X]? = some (.cells #[.slice sa t.1.length scap, .slice bd t.2.length bcap] 25 (0, 0)) := by rw [hW, hX]; exact new_blk _ _
  have x0 : W.cell? ⟨X, 0, none⟩ = some (.slice sa t.1.length scap) := heap_cl hXW rfl
  have x1 : W.cell? ⟨X, 1, none⟩ = some (.slice bd t.2.length bcap) := heap_cl hXW rfl
  have CC := check_any (h.below hBW).ck
  obtain ⟨F, hF⟩ : ∃ F : Ending → World → Prop, F = fun r w' => PrP t w r w' := ⟨_, rfl⟩
  rw [← hF]
  have HBAD : Hid (∀ w', checkP t ≠ 0 → Below w.heap.size w w' → F (.returned (.tuple #[.string ⟨#[]⟩, .int .i64 (checkP t)])) w') := fun w' h1 h2 => by rw [hF]; exact ⟨fun _ => rfl, fun h => absurd h h1, fun h => absurd h h1, h2⟩
  have HLONG : Hid (∀ w', checkP t = 0 → 8388608 < (textT t).length → Below w.heap.size w w' → F (.returned (.tuple #[.string ⟨#[]⟩, .int .i64 4])) w') := fun w' h1 h2 h3 => by rw [hF]; exact ⟨fun h => absurd h1 h, fun _ _ => rfl, fun _ h => absurd h2 h, h3⟩
  have HGOOD : Hid (∀ w' (l : Byt), checkP t = 0 → ¬ 8388608 < (textT t).length → l = textT t → Below w.heap.size w w' → F (.returned (.tuple #[.string ⟨l.toArray⟩, .int .i64 0])) w') := fun w' l h1 h2 h4 h3 => by subst h4; rw [hF]; exact ⟨fun h => absurd h1 h, fun _ h => absurd h h2, fun _ _ => rfl, h3⟩
  have HSM : Hid (Small t) := h.ck.small
  have HPB : Hid (PB w (.slice sa t.1.length scap) (.slice bd t.2.length bcap) t) := h
  have HXW : Hid (W.heap[X]? = some (.cells #[.slice sa t.1.length scap, .slice bd t.2.length bcap] 25 (0, 0)) ∧ Below w.heap.size w W ∧ W.heap.size = w.heap.size + 1) := ⟨hXW, hBW, by rw [hW]; exact World.size_alloc _ _⟩
  have HXE : Hid (X = w.heap.size) := hX
  clear hF h hXW hBW hX
  by_cases hck : checkP t = 0
  · rw [hck] at CC
    have ok := tx_ok hck HSM.out
    have HCK : Hid (checkP t = 0) := hck
    clear hck
    go_enter Tryz.func17, Tryz.ntmps17
    go_upto_region 1 with fail
    rw [← hW, ← HXE.out]
    clear hW
    go_upto_region 4 with (go_at_call 11; (with_reducible refine Calls.mono CC ?_); rintro e2 w2 ⟨rfl, H2⟩)
    have hX2 := (H2.out.block X (lt_heap HXW.out.1)).trans HXW.out.1
    have y0 : w2.cell? ⟨X, 0, none⟩ = some (.slice sa t.1.length scap) := heap_cl hX2 rfl
    have y1 : w2.cell? ⟨X, 1, none⟩ = some (.slice bd t.2.length bcap) := heap_cl hX2 rfl
    have hB2 : Below w.heap.size w w2 := HXW.out.2.1.trans (H2.out.mono (by rw [HXW.out.2.2]; omega))
    have hs2 := H2.out.size
    obtain ⟨P, hP⟩ : ∃ P, P = w2.heap.size := ⟨_, rfl⟩
    obtain ⟨W3, hW3⟩ : ∃ W3, W3 = w2.alloc (.cells #[.slice sa t.1.length scap, .slice bd t.2.length bcap, .slice none 0 0] 69) := ⟨_, rfl⟩
    have hb3 : Below w2.heap.size w2 W3 := by rw [hW3]; exact (Below.refl _ _).alloc (Nat.le_refl _) _
    have hwP : w.heap.size ≤ P := by have := HXW.out.2.2; omega
    have hTX : TX W3 P (.slice sa t.1.length scap) (.slice bd t.2.length bcap) [] none := ⟨.slice none 0 0, by rw [hW3, hP]; exact new_blk _ _, OwnN.nil _ _ _ _ _, rfl⟩
    have hB3 : Below w.heap.size w W3 := hB2.trans (hb3.mono (by omega))
    have CT := ttab_any hTX ⟨w, hwP, hB3, HPB.out⟩ ok
    have HB3 : Hid (Below w.heap.size w W3 ∧ w.heap.size ≤ P) := ⟨hB3, hwP⟩
    have HPE : Hid (P = w2.heap.size) := hP
    clear hX2 hB2 hs2 hP hb3 hwP hTX hB3 CC x0 x1 ok
    go_upto_region 5 with fail
    rw [← hW3, ← HPE.out]
    clear hW3 y0 y1
    go_upto_region 6 with (go_at_call 40; (with_reducible refine Calls.mono CT ?_); rintro e4 w4 ⟨rfl, H4⟩)
    obtain ⟨l, O4, k, m1, m2, m3⟩ := H4.out
    obtain ⟨m4, m5⟩ := m3.fin
    have HB4 : Hid (Below w.heap.size w w4) := HB3.out.1.trans (m2.mono HB3.out.2)
    have CF := full_any m1
    by_cases hf : 8388608 < l.length
    · rw [decide_eq_true hf] at CF
      have HFL : Hid (8388608 < (textT t).length) := m4.1 hf
      clear m1 m2 m3 m4 m5 H4 CT hf
      go_wp2_with (go_at_call 41; (with_reducible refine Calls.mono CF ?_); rintro e5 w5 ⟨rfl, hw⟩; obtain rfl := hw.symm; clear hw)
      exact HLONG.out _ HCK.out HFL.out HB4.out
    · rw [decide_eq_false hf] at CF
      have HFL : Hid (¬ 8388608 < (textT t).length ∧ l = textT t) := ⟨fun h => hf (m4.2 h), m5 hf⟩
      obtain ⟨v, hP4, hO4, _⟩ := m1
      obtain ⟨ad, cap, rfl⟩ := hO4.len
      have p2 : w4.cell? ⟨P, 2, none⟩ = some (.slice ad l.length cap) := heap_cl hP4 rfl
      have qcv := conv_bts (own_bts hO4)
      clear m2 m3 m4 m5 H4 CT hf hP4 hO4
      go_wp2_with (go_at_call 41; (with_reducible refine Calls.mono CF ?_); rintro e5 w5 ⟨rfl, hw⟩; obtain rfl := hw.symm; clear hw)
      exact HGOOD.out _ l HCK.out HFL.out.1 HFL.out.2 HB4.out
  · have e1 : (checkP t != 0) = true := by simp [hck]
    have HCK : Hid (checkP t ≠ 0) := hck
    clear hck
    generalize checkP t = c at *
    go_enter Tryz.func17, Tryz.ntmps17
    go_upto_region 1 with fail
    rw [← hW, ← HXE.out]
    clear hW
    go_wp2_with (go_at_call 11; (with_reducible refine Calls.mono CC ?_); rintro e2 w2 ⟨rfl, H2⟩)
    exact HBAD.out _ HCK.out (HXW.out.2.1.trans (H2.out.mono (by rw [HXW.out.2.2]; omega)))
end Go.Proofs.YtlpnegnpejpdkaaGreatDoor
