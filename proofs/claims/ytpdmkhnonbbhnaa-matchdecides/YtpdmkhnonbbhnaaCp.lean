/- columnsOf: the walk. -/
import Derived.Test.YtpdmkhnonbbhnaaMcx
import Derived.Deep.RegionLaw
namespace Go.Proofs.Ytpdmkhnonbbhnaa
open Go.RowKit

theorem Try.info106 : (Try.prog.info? 106).map (fun i => (i.zero, i.size, i.bytes)) = some (some (.agg #[.int .i64 0, .pointer none]), 2, 16) := by kernel_rfl
theorem Try.info88 : (Try.prog.info? 88).map (fun i => (i.zero, i.size, i.bytes)) = some (some (.pointer none), 1, 8) := by kernel_rfl
theorem heap_frozen {w : World} {b o : Nat} {cs : Array Value} {t : TypeId} (h : w.heap[b]? = some (.cells cs t (0, 0))) : w.frozen? ⟨b, o, none⟩ = false := by
  simp [World.frozen?, h]
set_option maxHeartbeats 4000000 in
set_option maxRecDepth 10000 in
theorem cols_any (S : Nat → Prop) (around : List Nat) (ad : Option Addr) (cap : Nat) (n : Nat) (lines : List (Nat × List Pt)) (lv : Value) (w : World) (hS : ∀ b, S b → b < w.heap.size) (hA : Nats w S (.slice ad around.length cap) around) (hn : n < 100000) (hL : Lines w S lv lines)
    (hrow : ∀ l ∈ lines, l.1 < 200) (hwd : ∀ l ∈ lines, n ≤ l.2.length ∧ l.2.length < 140737488355328) (hll : lines.length ≤ 200) :
    Calls Try.prog 31 #[.slice ad around.length cap, .int .i64 n, lv] w fun r w' => Below w.heap.size w w' ∧ ∃ v, r = .returned v ∧ Cols w' (fun b => S b ∨ (w.heap.size ≤ b ∧ b < w'.heap.size)) v (colsOf around n lines) := by
  obtain ⟨ad2, cap2, rfl, hlv⟩ := RowP.open hL
  have HS : Hid (∀ b, S b → b < w.heap.size) := hS
  have HA : Hid (Nats w S (.slice ad around.length cap) around) := hA
  have HRW : Hid ((∀ l ∈ lines, l.1 < 200) ∧ ∀ l ∈ lines, n ≤ l.2.length ∧ l.2.length < 140737488355328) := ⟨hrow, hwd⟩
  have HLV : Hid (lines ≠ [] → ∃ g o, ad2 = some ⟨g, o, none⟩ ∧ lines.length ≤ cap2 ∧ ∀ j (h : j < lines.length), S g ∧ w.cell? ⟨g, o + j * 2, none⟩ = some (.int .i64 lines[j].1) ∧ ∃ ad cap, w.cell? ⟨g, o + j * 2 + 1, none⟩ = some (.slice ad lines[j].2.length cap) ∧ Pats w S (.slice ad lines[j].2.length cap) lines[j].2) := hlv
  clear hS hA hL hlv hrow hwd
  go_enter Try.func31, Try.ntmps31
  go_wp2
  go_loopw [7, 14] (fun lc i wr => ∃ (j : Nat) (cs : List (Nat × Col)), j ≤ n ∧ i = .int .i64 j ∧ Hid (Outv w S around lines j cs lc wr)) (fun _ i _ => n - (intOf i).toNat)
  case atStart => exact ⟨0, [], by omega, by go_num, Outv.start w S around lines⟩
  case round =>
    obtain ⟨j, cs, hj, rfl, HO⟩ := hrel
    by_cases hlt : j < n
    · have hlt' : (j : Int) < n := by omega
      go_upto_region 6 with fail
      rw [colC_new]
      have HW : Hid (∃ W0, W0 = wr.alloc (Obj.cells (colC (.slice ad around.length cap) j (.slice none 0 0) (List.replicate 200 false)) 92) ∧ Inn w S lines (.slice ad around.length cap) j wr.heap.size W0 0 [] (.slice none 0 0) (List.replicate 200 false) W0 ∧ Below wr.heap.size wr W0 ∧ W0.heap.size = wr.heap.size + 1) :=
        ⟨_, rfl, Inn.start w wr S lines _ j, (Below.refl _ _).alloc (Nat.le_refl _) _, by simp⟩
      obtain ⟨W0, hW, HW⟩ := HW
      rw [← hW]
      generalize Value.agg (colC (.slice ad around.length cap) j (.slice none 0 0) (List.replicate 200 false)) = x19
      have HW : Hid (Inn w S lines (.slice ad around.length cap) j wr.heap.size W0 0 [] (.slice none 0 0) (List.replicate 200 false) W0 ∧ Below wr.heap.size wr W0 ∧ W0.heap.size = wr.heap.size + 1) := HW
      clear hW
      have hbw : w.heap.size ≤ wr.heap.size := HO.out.below.size
      generalize hC : wr.heap.size = C at *
      have HC : Hid (wr.heap.size = C) := hC
      clear hC
      go_wp2
      go_loopw [23] (fun iv wi => ∃ (i : Nat) (sp : List Sr) (sv : Value) (bs : List Bool), i ≤ lines.length ∧ iv = .int .i64 i ∧ Hid (Inn w S lines (.slice ad around.length cap) j C W0 i sp sv bs wi)) (fun iv _ => lines.length - (intOf iv).toNat)
      case atStart => exact ⟨0, [], _, _, by omega, by go_num, HW.out.1⟩
      case round =>
        obtain ⟨i, sp, sv, bs, hi, rfl, HI⟩ := hrel
        have HKp : Hid (Below w.heap.size w wr) := HO.out.below.trans ((HW.out.2.1.mono hbw).trans (HI.out.below.mono hbw))
        by_cases hil : i < lines.length
        · obtain ⟨g, o, rfl, hc, hlv2⟩ := HLV.out (fun e => by rw [e] at hil; simp at hil)
          obtain ⟨s0, s1, ad3, cap3, s2, s3⟩ := hlv2 i hil
          have hjl : j < lines[i].2.length := by have := (HRW.out.2 lines[i] (List.getElem_mem hil)).1; omega
          have hll2 := (HRW.out.2 lines[i] (List.getElem_mem hil)).2
          have hr2 := HRW.out.1 lines[i] (List.getElem_mem hil)
          rcases s3 with ⟨e, _⟩ | ⟨g4, o4, cap4, e4, _, hc4, hp4⟩
          · exact absurd hjl (by rw [e]; simp)
          · obtain ⟨rfl, rfl⟩ : ad3 = some ⟨g4, o4, none⟩ ∧ cap3 = cap4 := by simpa using e4
            have hp := hp4 j hjl
            have hk := Keeps.of HKp.out HS.out
            have q1 := (hk.cell (p := ⟨g, o + i * 2, none⟩) s0).trans s1
            have q2 := (hk.cell (p := ⟨g, o + i * 2 + 1, none⟩) s0).trans s2
            have HP : Hid (PtP w S g4 (o4 + j * 4) lines[i].2[j]) := hp
            have hgl : g < wr.heap.size := by have := HS.out g s0; have := HKp.out.size; omega
            have CW : ∀ W', Below wr.heap.size wr W' → Calls Try.prog 42 #[.pointer (some ⟨g4, o4 + j * 4, none⟩)] W' fun r w' => r = .returned (.bool (wild lines[i].2[j])) ∧ w' = W' := fun W' hb => by
              have h2 : Keeps S w W' := Keeps.of (HKp.out.trans (hb.mono HKp.out.size)) HS.out
              exact wild_any (HP.out.on h2)
            have i1 : (0 : Int) ≤ (i : Int) := by omega
            have i2 : (i : Int) < (lines.length : Int) := by omega
            have j1 : (0 : Int) ≤ (j : Int) := by omega
            have j2 : (j : Int) < (lines[i].2.length : Int) := by omega
            have HSKIP : Hid (wild lines[i].2[j] = true → ∀ wj, Below wr.heap.size wr wj → Inn w S lines (.slice ad around.length cap) j C W0 (i + 1) sp sv bs wj) := fun hw wj hb => (HI.out.on hb).skip hil hjl hw
            have HPUSH : Hid (wild lines[i].2[j] = false → ∀ wj w5 sv', Below wr.heap.size wr wj → w5.ownsRow (C + 1) 106 2 sv' (sp.length + 1) (sp.flatMap sE ++ [.int .i64 lines[i].1, .pointer (some ⟨g4, o4 + j * 4, none⟩)]) → wj.grownBy w5 sv.ownBlock →
                w5.heap[C]? = some (.cells (colC (.slice ad around.length cap) j sv bs) 92 (0, 0)) ∧ (w5.setCell ⟨C, 2, none⟩ sv').heap[C]? = some (.cells (colC (.slice ad around.length cap) j sv' bs) 92 (0, 0)) ∧ ∃ sp' bs', Inn w S lines (.slice ad around.length cap) j C W0 (i + 1) sp' sv' bs' ((w5.setCell ⟨C, 2, none⟩ sv').setCell ⟨C, 3 + lines[i].1, none⟩ (.bool true))) := fun hw wj w5 sv' hb hown hg => by
              obtain ⟨b5, b6, h7⟩ := (HI.out.on hb).push hil hjl hw HP.out hr2 hown hg
              exact ⟨b5, b6, _, _, h7⟩
            generalize wild lines[i].2[j] = wv at CW HSKIP HPUSH
            clear hp hp4 hk s0 s1 s2 e4 hlv2 HP hjl
            generalize lines[i].2.length = n4 at *
            generalize lines[i].1 = r4 at *
            obtain ⟨b1, b2, b3, b4⟩ := colC_get (.slice ad around.length cap) j sv bs
            have d2 := heap_cell HI.out.blk b2
            have d3 := heap_cell HI.out.blk b3
            have hCl : C < wr.heap.size := HI.out.lt
            go_upto_region 10 with fail
            have hW1 : ∃ W1, W1 = wr.alloc (Obj.cells #[Value.int .i64 r4, Value.slice (some ⟨g4, o4, none⟩) n4 cap3] 83) ∧ Below wr.heap.size wr W1 ∧ W1.heap.size = wr.heap.size + 1 ∧ W1.cell? ⟨wr.heap.size, 0, none⟩ = some (.int .i64 r4) :=
              ⟨_, rfl, (Below.refl _ _).alloc (Nat.le_refl _) _, by simp, heap_cell (new_block _ _) rfl⟩
            obtain ⟨W1, hW1, hb1, hs1, x0⟩ := hW1
            rw [← hW1]
            clear hW1
            have CW1 := CW W1 hb1
            have d2' := (hb1.cell (p := ⟨C, 1, none⟩) hCl).trans d2
            have d3' := (hb1.cell (p := ⟨C, 2, none⟩) hCl).trans d3
            have HB1 : Hid (Below wr.heap.size wr W1) := hb1
            have HOW : Hid (W1.ownsRow (C + 1) 106 2 sv sp.length (sp.flatMap sE)) := (HI.out.on hb1).own
            have HS1 : Hid (W1.heap.size = wr.heap.size + 1) := hs1
            clear CW q1 q2 d2 d3 hb1 hs1
            cases wv with
            | true =>
              go_wp2_with (go_at_call 42; (with_reducible refine Calls.mono CW1 ?_); rintro e' w1 ⟨rfl, rfl⟩)
              go_roundw
              case rel => exact ⟨i + 1, sp, sv, bs, hil, by go_num, HSKIP.out (by first | rfl | trivial) _ HB1.out⟩
              case measure => simp [intOf]; omega
            | false =>
              go_upto_region 11 with (first | (go_at_call 42; (with_reducible refine Calls.mono CW1 ?_); rintro e' w1 ⟨rfl, rfl⟩))
              clear CW1
              obtain ⟨va, vc, hva⟩ := (own_row HOW.out (fun _ _ => rfl)).len
              subst hva
              have HP2 : Hid (∀ g cap' w5, w5.ownsRow (C + 1) 106 2 (.slice (some ⟨g, 0, none⟩) (sp.length + 1) cap') (sp.length + 1) (sp.flatMap sE ++ [.int .i64 r4, .pointer (some ⟨g4, o4 + j * 4, none⟩)]) → ((w1.alloc (Obj.cells #[.int .i64 r4, .pointer (some ⟨g4, o4 + j * 4, none⟩)] 106)).drew).grownBy w5 (Value.slice va sp.length vc).ownBlock →
                  w5.heap[C]? = some (.cells (colC (.slice ad around.length cap) j (.slice va sp.length vc) bs) 92 (0, 0)) ∧ (∃ U, U = w5.setCell ⟨C, 2, none⟩ (.slice (some ⟨g, 0, none⟩) (sp.length + 1) cap') ∧ U.heap[C]? = some (.cells (colC (.slice ad around.length cap) j (.slice (some ⟨g, 0, none⟩) (sp.length + 1) cap') bs) 92 (0, 0)) ∧ U.cell? ⟨wr.heap.size, 0, none⟩ = some (.int .i64 r4) ∧ ∃ sp' bs', Inn w S lines (.slice ad around.length cap) j C W0 (i + 1) sp' (.slice (some ⟨g, 0, none⟩) (sp.length + 1) cap') bs' (U.setCell ⟨C, 3 + r4, none⟩ (.bool true)))) := fun g cap' w5 hown hg => by
                have hb2 : Below wr.heap.size wr (w1.alloc (Obj.cells #[.int .i64 r4, .pointer (some ⟨g4, o4 + j * 4, none⟩)] 106)) := HB1.out.alloc HB1.out.size _
                obtain ⟨b5, b6, h7⟩ := HPUSH.out (by first | rfl | trivial) _ w5 _ hb2 hown ⟨hg.os, hg.tape, hg.output, hg.size, hg.block⟩
                refine ⟨b5, _, rfl, b6, ?_, h7⟩
                have hX : (Value.slice va sp.length vc).ownBlock ≠ some wr.heap.size := fun e => by have := (HI.out.own.lt _ e).2; omega
                have : (w5.setCell ⟨C, 2, none⟩ (.slice (some ⟨g, 0, none⟩) (sp.length + 1) cap')).heap[wr.heap.size]? = w1.heap[wr.heap.size]? := by
                  rw [Below.heap_setCell _ _ _ _ (show wr.heap.size ≠ C by omega), hg.block _ (by have := HS1.out; show _ < (w1.alloc _).heap.size; simp; omega) (fun e => hX e.symm)]
                  exact Below.heap_alloc _ _ _ (by have := HS1.out; omega)
                rw [World.cell?_of_block this]
                exact x0
              obtain ⟨i0, hi0, hz0, hz1, hz2⟩ := info_parts Try.info106
              have hb0 : ∃ b0, bs[r4]? = some b0 := ⟨_, HI.out.has r4 hr2⟩
              obtain ⟨b0, hb0⟩ := hb0
              have r1 : (0 : Int) ≤ (r4 : Int) := by omega
              have r2 : (r4 : Int) < 200 := by omega
              have hsp : sp.length ≤ 200 := by
                have h1 := congrArg List.length HI.out.is
                rw [List.length_map] at h1
                have h2 : (spotsOf j (lines.take i)).length ≤ (lines.take i).length := List.length_filterMap_le _ _
                rw [List.length_take] at h2
                omega
              have hown3 := HOW.out
              have hC1 : C < w1.heap.size := by have := HS1.out; omega
              have hX1 : wr.heap.size < w1.heap.size := by have := HS1.out; omega
              have n1 : ¬ C = w1.heap.size := by have := HS1.out; omega
              have n2 : ¬ w1.heap.size = C := by have := HS1.out; omega
              have n3 : ¬ wr.heap.size = w1.heap.size := by have := HS1.out; omega
              have n4' : ¬ w1.heap.size = wr.heap.size := by have := HS1.out; omega
              go_region_law ((refine step_append_lies _ (by rfl) _ _ _ (by rfl) (C + 1) 106 i0 _ 2 16 Try.underlying89 hi0 hz0 hz1 hz2 rfl (by omega) (.slice va sp.length vc) sp.length (sp.flatMap sE) (by rfl) ((hown3.alloc _).drew) ⟨w1.heap.size, 0, none⟩ 1 1 [.int .i64 r4, .pointer (some ⟨g4, o4 + j * 4, none⟩)] (by rfl) (by rfl) (World.news_of_block (cs := #[.int .i64 r4, .pointer (some ⟨g4, o4 + j * 4, none⟩)]) (t := 106) (fr := (0, 0)) (new_block w1 _)) (by simp [Value.oneCell']) (by omega) (by unfold maxLen; omega) (by omega) (by have := HS1.out; simp; omega) (w1.heap.size + 1) (by simp) ?_; intro g cap' w5 hown5 hgrow hat hlt5; obtain ⟨hC5, U, hU, hUC, hUX, sp', bs', hIN⟩ := HP2.out g cap' w5 hown5 hgrow; obtain ⟨z1, z2, z3, z4⟩ := colC_get (.slice ad around.length cap) j (.slice va sp.length vc) bs; have e2 := heap_cell hC5 z3; have fC := heap_frozen (o := 2) hC5))
              all_goals
                rw [← hU]
                obtain ⟨z1, z2, z3, z4⟩ := colC_get (.slice ad around.length cap) j (.slice (some ⟨g, 0, none⟩) (sp.length + 1) cap') bs
                have e3 := heap_cell hUC ((z4 r4).trans (by rw [hb0]; rfl))
                have f3 := heap_frozen (o := 3 + r4) hUC
                have HIN : Hid (Inn w S lines (.slice ad around.length cap) j C W0 (i + 1) sp' (.slice (some ⟨g, 0, none⟩) (sp.length + 1) cap') bs' (U.setCell ⟨C, 3 + r4, none⟩ (.bool true))) := hIN
                clear hU hC5 e2 fC hUC hIN z1 z2 z3 z4 hown5 hgrow hat hlt5
                go_wp2
                go_region
                all_goals
                  go_wp2
                  go_roundw
                  case rel => exact ⟨i + 1, sp', _, bs', hil, by go_num, HIN.out.on ⟨rfl, rfl, rfl, Nat.le_refl _, fun _ _ => rfl⟩⟩
                  case measure => simp [intOf]; omega
        · obtain rfl : i = lines.length := by omega
          have HE := HI.out.col HA.out HS.out HKp.out
          obtain ⟨hspl, va, vc, rfl, HCol⟩ := HE
          have HCol : Hid (ColP wr (fun b => S b ∨ b = C ∨ (Value.slice va (spotsOf j lines).length vc).ownBlock = some b) C (around, j, spotsOf j lines)) := HCol
          obtain ⟨b1, b2, b3, b4⟩ := colC_get (.slice ad around.length cap) j (.slice va (spotsOf j lines).length vc) bs
          have d3 := heap_cell HI.out.blk b3
          have HO2 : Hid (Outv w S around lines j cs u7 wr) := HO.out.on HS.out (by rw [HC.out]; exact HW.out.2.1.trans HI.out.below)
          by_cases hz : (spotsOf j lines).length = 0
          · have HN : Hid (spotsOf j lines = []) := List.length_eq_zero_iff.1 hz
            rw [hz] at d3
            go_wp2
            go_roundw
            case rel => exact ⟨j + 1, cs, hlt, by go_num, HO2.out.skip HN.out⟩
            case measure => simp [intOf]; omega
          · have HN : Hid (spotsOf j lines ≠ []) := fun e => hz (by rw [e]; rfl)
            have hz' : (0 : Int) < ((spotsOf j lines).length : Int) := by omega
            generalize (spotsOf j lines).length = m at *
            clear hz
            obtain ⟨i0, hi0, hz0, hz1, hz2⟩ := info_parts Try.info88
            have hown := HO2.out.own
            have hcl : cs.length ≤ n := by
              have h1 := congrArg List.length HO2.out.is
              rw [List.length_map] at h1
              have h2 : (colsOf around j lines).length ≤ (List.range j).length := List.length_filterMap_le _ _
              rw [List.length_range] at h2
              omega
            have hbw2 : w.heap.size ≤ wr.heap.size := HKp.out.size
            go_wp2_with (at_builtin; refine wpList_append_lies _ rfl _ _ 61 rfl w.heap.size 88 i0 _ 1 8 Try.underlying61 hi0 hz0 hz1 hz2 rfl (by decide) _ _ _ rfl (hown.alloc _) ⟨wr.heap.size, 0, none⟩ 1 1 [.pointer (some ⟨C, 0, none⟩)] rfl rfl (World.news_of_block (new_block wr _)) (by intro u hu; simp at hu; subst hu; rfl) (by omega) (by unfold maxLen; omega) (by omega) (by simp; omega) (wr.heap.size + 1) (by simp) ?_; intro g' cap' W3 hown3 hgr3 hat3 hlt3)
            have HEND : Hid (Outv w S around lines (j + 1) (cs ++ [(C, (around, j, spotsOf j lines))]) (.slice (some ⟨g', 0, none⟩) (cs.length + 1) cap') W3) := by
              refine HO2.out.push HS.out HN.out HCol.out ⟨hbw, HI.out.lt, fun e => ?_⟩ (fun b e => ?_) hown3 hgr3 hat3 (by omega)
              · have := (HO.out.own.lt C e).2
                have := HC.out
                omega
              · have h1 := HI.out.own.lt b e
                refine ⟨by omega, h1.2, fun e2 => ?_⟩
                have := (HO.out.own.lt b e2).2
                have := HC.out
                omega
            clear hown3 hgr3 hat3 hlt3 hown
            go_wp2
            go_roundw
            case rel => exact ⟨j + 1, _, hlt, by go_num, HEND.out⟩
            case measure => simp [intOf]; omega
    · obtain rfl : j = n := by omega
      go_wp2
      go_ret
      exact ⟨HO.out.below, _, rfl, HO.out.done⟩
end Go.Proofs.Ytpdmkhnonbbhnaa
