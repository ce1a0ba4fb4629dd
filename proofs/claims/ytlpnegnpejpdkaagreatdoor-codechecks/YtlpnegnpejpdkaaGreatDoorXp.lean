/- CodeChecks' walk. -/
import Derived.Test.YtlpnegnpejpdkaaGreatDoorXl
import Derived.Test.YtlpnegnpejpdkaaGreatDoorMsx
import Derived.Test.YtlpnegnpejpdkaaGreatDoorMrx
namespace Go.Proofs.YtlpnegnpejpdkaaGreatDoor
open Go.RowKit

set_option maxHeartbeats 16000000 in
set_option maxRecDepth 10000 in
theorem checks_any {w : World} {sv gv sv' gv' : Value} {t o : Tab} (hA : AwIn w) (hT : TabV w (fun y => y < w.heap.size) sv gv t) (hs : Small t) (hr : Room t) (hO : TabV w (fun y => y < w.heap.size) sv' gv' o) (hso : Small o) :
    Calls Tryz.prog 3 #[.agg #[sv, gv], .agg #[sv', gv']] w fun r w' => r = .returned (.bool true) ∧ Hid (Below w.heap.size w w') := by
  have HA : Hid (∀ wr, Below w.heap.size w wr → AwIn wr) := fun wr hb => hA.below hb
  obtain ⟨F, hF⟩ : ∃ F : Ending → World → Prop, F = fun r w' => r = .returned (.bool true) ∧ Hid (Below w.heap.size w w') := ⟨_, rfl⟩
  rw [← hF]
  have HF : Hid (∀ wr, Below w.heap.size w wr → F (.returned (.bool true)) wr) := fun wr hb => by rw [hF]; exact ⟨rfl, hb⟩
  obtain ⟨sa, sc, rfl⟩ := RowK.len hT.shp
  obtain ⟨ga, gc, rfl⟩ := RowK.len hT.glb
  obtain ⟨sb, sd, rfl⟩ := RowK.len hO.shp
  obtain ⟨gb, gd, rfl⟩ := RowK.len hO.glb
  obtain ⟨Z, hZ⟩ : ∃ Z, Z = w.heap.size := ⟨_, rfl⟩
  obtain ⟨V, hV⟩ : ∃ V, V = (w.alloc (.cells #[.slice sa t.1.length sc, .slice ga t.2.length gc] 25)).alloc (.cells #[.slice sb o.1.length sd, .slice gb o.2.length gd] 25) := ⟨_, rfl⟩
  have b1 : Below w.heap.size w (w.alloc (.cells #[.slice sa t.1.length sc, .slice ga t.2.length gc] 25)) := (Below.refl _ _).alloc (Nat.le_refl _) _
  have b2 : Below (w.alloc (.cells #[.slice sa t.1.length sc, .slice ga t.2.length gc] 25)).heap.size (w.alloc (.cells #[.slice sa t.1.length sc, .slice ga t.2.length gc] 25)) V := by rw [hV]; exact (Below.refl _ _).alloc (Nat.le_refl _) _
  have hs1 : (w.alloc (.cells #[.slice sa t.1.length sc, .slice ga t.2.length gc] 25)).heap.size = w.heap.size + 1 := World.size_alloc _ _
  have mV : V.heap[Z]? = some (.cells #[.slice sa t.1.length sc, .slice ga t.2.length gc] 25 (0, 0)) := by rw [b2.block Z (by rw [hs1, hZ]; omega), hZ]; exact new_blk _ _
  have mV2 : V.heap[Z + 1]? = some (.cells #[.slice sb o.1.length sd, .slice gb o.2.length gd] 25 (0, 0)) := by rw [hV, hZ, ← hs1]; exact new_blk _ _
  have bV : Below w.heap.size w V := b1.trans (b2.mono b1.size)
  have HT : Hid (∀ wr, Below w.heap.size w wr → CkIn wr (.slice sa t.1.length sc) (.slice ga t.2.length gc) t ∧ CkIn wr (.slice sb o.1.length sd) (.slice gb o.2.length gd) o) := fun wr hb =>
    ⟨⟨⟨row_below hT.shp hb, row_below hT.glb hb, hT.ls, hT.lg⟩, (HA.out wr hb).first, (HA.out wr hb).rd.rows, hs⟩, ⟨row_below hO.shp hb, row_below hO.glb hb, hO.ls, hO.lg⟩, (HA.out wr hb).first, (HA.out wr hb).rd.rows, hso⟩
  have HZ : Hid (∀ wr, Below V.heap.size V wr → (wr.cell? ⟨Z, 0, none⟩ = some (.slice sa t.1.length sc) ∧ wr.cell? ⟨Z, 1, none⟩ = some (.slice ga t.2.length gc)) ∧ (wr.cell? ⟨Z + 1, 0, none⟩ = some (.slice sb o.1.length sd) ∧ wr.cell? ⟨Z + 1, 1, none⟩ = some (.slice gb o.2.length gd)) ∧ Below w.heap.size w wr) := fun wr hb => ⟨⟨heap_cl ((hb.block Z (lt_heap mV)).trans mV) rfl, heap_cl ((hb.block Z (lt_heap mV)).trans mV) rfl⟩, ⟨heap_cl ((hb.block _ (lt_heap mV2)).trans mV2) rfl, heap_cl ((hb.block _ (lt_heap mV2)).trans mV2) rfl⟩, bV.trans (hb.mono bV.size)⟩
  have HR : Hid (Room t) := hr
  have HS : Hid (Small t) := hs
  have HZE : Hid (Z = w.heap.size) := hZ
  have CA := awake_any (HA.out V bV)
  clear hF hA hT hO mV mV2 hZ hs hso hr b1 b2 hs1
  go_enter Tryz.func3, Tryz.ntmps3
  go_upto_region 1 with fail
  rw [← hV, ← HZE.out]
  clear hV
  go_upto_region 2 with (go_at_call 9; (with_reducible refine Calls.mono CA ?_); rintro e1 w1 ⟨rfl, H1⟩)
  obtain ⟨⟨x0, x1⟩, _, hw1⟩ := HZ.out w1 H1.out
  have CL := lent_any (HT.out w1 hw1).1.tab HR.out
  obtain ⟨A, hAe⟩ : ∃ A, A = w1.heap.size + 2 := ⟨_, rfl⟩
  obtain ⟨G, hGe⟩ : ∃ G, G = w1.heap.size + 3 := ⟨_, rfl⟩
  rw [← hAe, ← hGe] at CL
  have HAG : Hid (A = w1.heap.size + 2 ∧ G = w1.heap.size + 3) := ⟨hAe, hGe⟩
  clear CA hAe hGe hw1 bV
  go_upto_region 3 with (go_at_call 10; (with_reducible refine Calls.mono CL ?_); rintro e2 w2 ⟨rfl, H2⟩)
  obtain ⟨U, hU⟩ : ∃ U, U = w2.heap.size := ⟨_, rfl⟩
  obtain ⟨V2, hV2⟩ : ∃ V2, V2 = w2.alloc (.cells #[.slice (some ⟨A, 0, none⟩) t.1.length (t.1.length + 2), .slice (some ⟨G, 0, none⟩) t.2.length (t.2.length + 2)] 25) := ⟨_, rfl⟩
  have bV2 : Below w2.heap.size w2 V2 := by rw [hV2]; exact (Below.refl _ _).alloc (Nat.le_refl _) _
  have mU : V2.heap[U]? = some (.cells #[.slice (some ⟨A, 0, none⟩) t.1.length (t.1.length + 2), .slice (some ⟨G, 0, none⟩) t.2.length (t.2.length + 2)] 25 (0, 0)) := by rw [hV2, hU]; exact new_blk _ _
  have hGU : Hid (G + t.2.length < U) := by
    show G + t.2.length < U
    rw [hU]
    have q := H2.out.1
    by_cases e : t.2.length = 0
    · have := q.glb.lt; omega
    · have := (q.cod (t.2.length - 1) (by omega)).lt; omega
  have HQ : Hid (∀ wr, Below V2.heap.size V2 wr → (wr.cell? ⟨U, 0, none⟩ = some (.slice (some ⟨A, 0, none⟩) t.1.length (t.1.length + 2)) ∧ wr.cell? ⟨U, 1, none⟩ = some (.slice (some ⟨G, 0, none⟩) t.2.length (t.2.length + 2))) ∧ Below V.heap.size V wr ∧ LentT wr A G t ∧ wr.heap[U]? = some (.cells #[.slice (some ⟨A, 0, none⟩) t.1.length (t.1.length + 2), .slice (some ⟨G, 0, none⟩) t.2.length (t.2.length + 2)] 25 (0, 0))) := fun wr hb => by
    have h2 : Below w2.heap.size w2 wr := bV2.trans (hb.mono bV2.size)
    have m := (hb.block U (lt_heap mU)).trans mU
    exact ⟨⟨heap_cl m rfl, heap_cl m rfl⟩, H1.out.trans (((H2.out.2).trans (h2.mono H2.out.2.size)).mono H1.out.size), H2.out.1.below h2, m⟩
  have HK : Hid (∀ wr, Below V2.heap.size V2 wr → CkIn wr (.slice (some ⟨A, 0, none⟩) t.1.length (t.1.length + 2)) (.slice (some ⟨G, 0, none⟩) t.2.length (t.2.length + 2)) t) := fun wr hb => by
    obtain ⟨_, b, c, _⟩ := HQ.out wr hb
    have hw := (HZ.out wr b).2.2
    exact ⟨c.tab HR.out, (HA.out wr hw).first, (HA.out wr hw).rd.rows, HS.out⟩
  have HWA : Hid (w.heap.size ≤ A) := by
    have q1 := (HZ.out w1 H1.out).2.2.size
    have q2 := HAG.out.1
    show w.heap.size ≤ A
    omega
  rw [← hV2, ← hU]
  have HB2 : Hid (Below V2.heap.size V2 V2) := Below.refl _ _
  clear hV2 bV2 mU x0 x1 CL H1 H2 hU HAG
  generalize V2 = w2' at *
  obtain ⟨⟨x0, x1⟩, hz2, _, _⟩ := HQ.out w2' HB2.out
  have hw2 := (HZ.out w2' hz2).2.2
  have C2 := check_any (HK.out w2' HB2.out)
  replace hz2 : Hid _ := hz2
  replace hw2 : Hid _ := hw2
  go_upto_region 4 with (go_at_call 11; (with_reducible refine Calls.mono C2 ?_); rintro e3 w3 ⟨rfl, H3⟩)
  have HB3 : Hid (Below w2'.heap.size w2' w3) := HB2.out.trans (H3.out.mono HB2.out.size)
  clear x0 x1 C2 H3 HB2 hz2 hw2
  obtain ⟨_, hz3, _, _⟩ := HQ.out w3 HB3.out
  obtain ⟨_, ⟨x0, x1⟩, _⟩ := HZ.out w3 hz3
  have hw3 := (HZ.out w3 hz3).2.2
  have C3 := check_any (HT.out w3 hw3).2
  replace hz3 : Hid _ := hz3
  replace hw3 : Hid _ := hw3
  go_upto_region 5 with (go_at_call 11; (with_reducible refine Calls.mono C3 ?_); rintro e4 w4 ⟨rfl, H4⟩)
  have HB4 : Hid (Below w2'.heap.size w2' w4) := HB3.out.trans (H4.out.mono HB3.out.size)
  clear x0 x1 C3 H4 HB3 hz3 hw3
  obtain ⟨⟨x0, x1⟩, hz4, _, _⟩ := HQ.out w4 HB4.out
  have hw4 := (HZ.out w4 hz4).2.2
  have C4 := check_any (HK.out w4 HB4.out)
  replace hz4 : Hid _ := hz4
  replace hw4 : Hid _ := hw4
  go_upto_region 6 with (go_at_call 11; (with_reducible refine Calls.mono C4 ?_); rintro e5 w5 ⟨rfl, H5⟩)
  have HB5 : Hid (Below w2'.heap.size w2' w5) := HB4.out.trans (H5.out.mono HB4.out.size)
  clear x0 x1 C4 H5 HB4 hz4 hw4
  obtain ⟨_, hz5, _, _⟩ := HQ.out w5 HB5.out
  obtain ⟨⟨x0, x1⟩, _, _⟩ := HZ.out w5 hz5
  have hw5 := (HZ.out w5 hz5).2.2
  have C5 := check_ref (HT.out w5 hw5).1.tab HS.out
  replace hz5 : Hid _ := hz5
  replace hw5 : Hid _ := hw5
  go_upto_region 7 with (go_at_call 12; (with_reducible refine Calls.mono C5 ?_); rintro e6 w6 ⟨rfl, H6⟩)
  have HB6 : Hid (Below w2'.heap.size w2' w6) := HB5.out.trans (H6.out.mono HB5.out.size)
  clear x0 x1 C5 H6 HB5 hz5 hw5
  obtain ⟨_, hz6, _, _⟩ := HQ.out w6 HB6.out
  obtain ⟨_, ⟨x0, x1⟩, _⟩ := HZ.out w6 hz6
  have hw6 := (HZ.out w6 hz6).2.2
  have C6 := check_ref (HT.out w6 hw6).2.tab (HT.out w6 hw6).2.small
  replace hz6 : Hid _ := hz6
  replace hw6 : Hid _ := hw6
  go_upto_region 8 with (go_at_call 12; (with_reducible refine Calls.mono C6 ?_); rintro e7 w7 ⟨rfl, H7⟩)
  have HB7 : Hid (Below w2'.heap.size w2' w7) := HB6.out.trans (H7.out.mono HB6.out.size)
  clear x0 x1 C6 H7 HB6 hz6 hw6
  obtain ⟨⟨x2, x3⟩, hz7, _, _⟩ := HQ.out w7 HB7.out
  obtain ⟨⟨x0, x1⟩, _, _⟩ := HZ.out w7 hz7
  have hw7 := (HZ.out w7 hz7).2.2
  have C7 := same_tab (fun _ h => h) (fun _ h => h) (HK.out w7 HB7.out).tab (HT.out w7 hw7).1.tab
  rw [same_yes rfl] at C7
  replace hz7 : Hid _ := hz7
  replace hw7 : Hid _ := hw7
  go_upto_region 9 with (go_at_call 13; (with_reducible refine Calls.mono C7 ?_); rintro e8 w8 ⟨rfl, H8⟩)
  have HB8 : Hid (Below w2'.heap.size w2' w8) := HB7.out.trans (H8.out.mono HB7.out.size)
  clear x0 x1 x2 x3 C7 H8 HB7 hz7 hw7
  obtain ⟨⟨x0, x1⟩, hz8, _, _⟩ := HQ.out w8 HB8.out
  have hw8 := (HZ.out w8 hz8).2.2
  have C8 := kept_any (HQ.out w8 HB8.out).2.2.1 HR.out
  replace hz8 : Hid _ := hz8
  replace hw8 : Hid _ := hw8
  go_upto_region 10 with (go_at_call 14; (with_reducible refine Calls.mono C8 ?_); rintro e9 w9 ⟨rfl, H9⟩)
  have HB9 : Hid (Below w2'.heap.size w2' w9) := HB8.out.trans (H9.out.mono HB8.out.size)
  clear x0 x1 C8 H9 HB8 hz8 hw8
  generalize checkP o = c2 at *
  obtain ⟨c1, hc1⟩ : ∃ c, c = checkP t := ⟨_, rfl⟩
  rw [← hc1]
  clear hc1
  have e1 : (c1 != c1) = false := by simp
  have e2 : (c2 != c2) = false := by simp
  go_upto_region 12 with fail
  clear e1 e2
  obtain ⟨⟨x0, x1⟩, hz9, hl9, hu9⟩ := HQ.out w9 HB9.out
  have hw9 := (HZ.out w9 hz9).2.2
  have CT := turn_any hl9 HR.out HS.out
  replace hz9 : Hid _ := hz9
  replace hw9 : Hid _ := hw9
  have HU9 : Hid _ := hu9
  clear hl9 hu9
  go_upto_region 13 with (go_at_call 15; (with_reducible refine Calls.mono CT ?_); rintro e10 w10 ⟨rfl, H10⟩)
  have hw10 : Below w.heap.size w w10 := hw9.out.trans (H10.out.1.1.mono HWA.out)
  have hu10 : w10.heap[U]? = some (.cells #[.slice (some ⟨A, 0, none⟩) t.1.length (t.1.length + 2), .slice (some ⟨G, 0, none⟩) t.2.length (t.2.length + 2)] 25 (0, 0)) := (H10.out.1.2 U (lt_heap HU9.out) (Or.inr hGU.out)).trans HU9.out
  obtain ⟨t', hT', hS'⟩ := H10.out.2
  have HQ2 : Hid (∀ wr, Below w10.heap.size w10 wr → (wr.cell? ⟨U, 0, none⟩ = some (.slice (some ⟨A, 0, none⟩) t.1.length (t.1.length + 2)) ∧ wr.cell? ⟨U, 1, none⟩ = some (.slice (some ⟨G, 0, none⟩) t.2.length (t.2.length + 2))) ∧ Below w.heap.size w wr ∧ CkIn wr (.slice (some ⟨A, 0, none⟩) t.1.length (t.1.length + 2)) (.slice (some ⟨G, 0, none⟩) t.2.length (t.2.length + 2)) t') := fun wr hb => by
    have m := (hb.block U (lt_heap hu10)).trans hu10
    have hw := hw10.trans (hb.mono hw10.size)
    exact ⟨⟨heap_cl m rfl, heap_cl m rfl⟩, hw, ⟨row_below hT'.shp hb, row_below hT'.glb hb, hT'.ls, hT'.lg⟩, (HA.out wr hw).first, (HA.out wr hw).rd.rows, hS'⟩
  clear x0 x1 CT hz9 HU9 H10 hw10 hu10 hT' hS' HB9 hw9
  obtain ⟨⟨x0, x1⟩, _, hk10⟩ := HQ2.out w10 (Below.refl _ _)
  have C10 := check_ref hk10.tab hk10.small
  clear hk10
  go_upto_region 14 with (go_at_call 12; (with_reducible refine Calls.mono C10 ?_); rintro e11 w11 ⟨rfl, H11⟩)
  clear x0 x1 C10
  obtain ⟨⟨x0, x1⟩, _, hk11⟩ := HQ2.out w11 H11.out
  have C11 := check_any hk11
  clear hk11
  go_upto_region 15 with (go_at_call 11; (with_reducible refine Calls.mono C11 ?_); rintro e12 w12 ⟨rfl, H12⟩)
  clear x0 x1 C11
  have hfin := HF.out w12 (HQ2.out w12 (H11.out.trans (H12.out.mono H11.out.size))).2.1
  generalize checkP t' = c3 at *
  have e3 : (c3 == c3) = true := by simp
  go_wp2
  exact hfin
end Go.Proofs.YtlpnegnpejpdkaaGreatDoor
