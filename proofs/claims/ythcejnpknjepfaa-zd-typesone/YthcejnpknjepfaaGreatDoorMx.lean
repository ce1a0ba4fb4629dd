/- The reference's names: contracts of small, capital, sign, signs, Variable, upper, DataName. The reference's looks at a type: contracts of form, Nodes, Wrong. The reference's looks at a type: contracts of Nodes, Wrong. The reference's text of a type: contracts of text and Print. The reference's reading of a type, its small parts: contracts of begins, word, leaf. The reference's reading of a type: contract of leaf; what a reading of a type is. What a reading of a type is: where one begins, where its arguments end; nothing of the program stands here. -/
import Derived.Test.YthcejnpknjepfaaGreatDoorTx
import Derived.Test.YthcejnpknjepfaaGreatDoorMt
import Derived.WalkKit
import Derived.WalkSpells
import Derived.WalkLawsBesides
import Derived.WalkMore
import Derived.Deep.RegionHeld3
import Derived.Deep.Cut
import Derived.BigQuiet
import Derived.Test.YthcejnpknjepfaaGreatDoorPl
import Derived.Test.YthcejnpknjepfaaGreatDoorMo
import Derived.Deep.CutBlock
namespace Go.Proofs.YthcejnpknjepfaaGreatDoor
open Go.RowKit

theorem ref_small (c : UInt8) (w : World) : Calls Tryz.prog 89 #[.int .u8 c.toNat] w fun e w' => e = .returned (.bool (smallB c)) ∧ w' = w := by
  have HE : Hid ((decide (97 ≤ c.toNat) && decide (c.toNat ≤ 122)) = smallB c) := rfl
  generalize smallB c = r at HE
  have hc := c.toNat_lt
  generalize c.toNat = c at *
  go_enter Tryz.func89, Tryz.ntmps89
  go_wp2
  all_goals (go_ret; exact ⟨ret_bool (by rw [← HE.out, Bool.eq_iff_iff]; simp; omega), rfl⟩)
theorem ref_capital (c : UInt8) (w : World) : Calls Tryz.prog 107 #[.int .u8 c.toNat] w fun e w' => e = .returned (.bool (capB c)) ∧ w' = w := by
  have HE : Hid ((decide (65 ≤ c.toNat) && decide (c.toNat ≤ 90)) = capB c) := rfl
  generalize capB c = r at HE
  have hc := c.toNat_lt
  generalize c.toNat = c at *
  go_enter Tryz.func107, Tryz.ntmps107
  go_wp2
  all_goals (go_ret; exact ⟨ret_bool (by rw [← HE.out, Bool.eq_iff_iff]; simp; omega), rfl⟩)
theorem ref_sign (c : UInt8) (w : World) : Calls Tryz.prog 106 #[.int .u8 c.toNat] w fun e w' => e = .returned (.bool (signB c)) ∧ w' = w := by
  have HE : Hid ((smallB c || capB c || (decide (48 ≤ c.toNat) && decide (c.toNat ≤ 57)) || decide (c.toNat = 95) || decide (c.toNat = 39)) = signB c) := rfl
  have S1 := fun W => ref_small c W
  have S2 := fun W => ref_capital c W
  generalize signB c = r at HE
  generalize smallB c = b1 at *
  generalize capB c = b2 at *
  have hc := c.toNat_lt
  generalize c.toNat = c at *
  cases b1 <;> cases b2
  all_goals
    go_enter Tryz.func106, Tryz.ntmps106
    go_wp2_with (first
      | (go_at_call 89; (with_reducible refine Calls.mono (S1 _) ?_); rintro e w' ⟨rfl, rfl⟩)
      | (go_at_call 107; (with_reducible refine Calls.mono (S2 _) ?_); rintro e w' ⟨rfl, rfl⟩))
    all_goals (go_ret; exact ⟨ret_bool (by rw [← HE.out, Bool.eq_iff_iff]; simp <;> omega), rfl⟩)

set_option maxRecDepth 10000 in
theorem ref_signs (s : ByteArray) (f : Nat) (w : World) (hs : s.size < 140737488355328) (hf : f ≤ s.size) : Calls Tryz.prog 90 #[.string s, .int .i64 f] w fun e w' => e = .returned (.bool ((s.data.toList.drop f).all signB)) ∧ w' = w := by
  generalize hR : (s.data.toList.drop f).all signB = R
  have HR : Hid ((s.data.toList.drop f).all signB = R) := hR
  clear hR
  go_enter Tryz.func90, Tryz.ntmps90
  go_wp2
  go_loopw [5] (fun i wr => ∃ j : Nat, j ≤ s.size ∧ i = .int .i64 j ∧ wr = w ∧ Hid ((s.data.toList.drop j).all signB = R)) (fun i _ => s.size - (intOf i).toNat)
  case atStart => exact ⟨f, hf, by go_num, rfl, HR.out⟩
  case round =>
    obtain ⟨j, hj, rfl, rfl, HT⟩ := hrel
    by_cases hlt : j < s.size
    · have HN : Hid ((signB s[j] && (s.data.toList.drop (j + 1)).all signB) = R) := by
        rw [← drop_all hlt]; exact HT.out
      have S1 := fun W => ref_sign s[j] W
      generalize signB s[j] = b at S1 HN
      clear HT
      cases b with
      | true =>
        go_wp2_with (go_at_call 106; (with_reducible refine Calls.mono (S1 _) ?_); rintro e w' ⟨rfl, rfl⟩)
        go_roundw
        case rel => exact ⟨j + 1, by omega, by go_num, by first | rfl | trivial, HN.out⟩
        case measure => simp [intOf]; omega
      | false =>
        go_wp2_with (go_at_call 106; (with_reducible refine Calls.mono (S1 _) ?_); rintro e w' ⟨rfl, rfl⟩)
        go_ret
        exact ⟨ret_bool HN.out, rfl⟩
    · have HE : Hid (true = R) := by
        rw [← HT.out, List.drop_eq_nil_of_le (by simp; omega)]; rfl
      go_wp2
      go_ret
      exact ⟨ret_bool HE.out, rfl⟩
set_option maxRecDepth 10000 in
theorem ref_variable (s : ByteArray) (w : World) (hs : s.size < 140737488355328) : Calls Tryz.prog 72 #[.string s] w fun e w' => e = .returned (.bool (varB s.data.toList)) ∧ w' = w := by
  by_cases h0 : s = ⟨#[]⟩
  · subst h0
    go_enter Tryz.func72, Tryz.ntmps72
    go_wp2
    go_ret
    exact ⟨rfl, rfl⟩
  · have hp := size_pos h0
    have ht : ¬ s.toList = [] := fun h => by rw [ByteArray.toList_eq, list_cons hp] at h; cases h
    have he : s.toList.isEmpty = false := by simpa using ht
    have HE : Hid ((decide (s.size ≤ 4096) && (smallB s[0] && (s.data.toList.drop 1).all signB)) = varB s.data.toList) := by
      show _ = varB s.data.toList
      have hv : varB (s[0] :: s.data.toList.drop 1) = (decide ((s.data.toList.drop 1).length + 1 ≤ 4096) && (smallB s[0] && (s.data.toList.drop 1).all signB)) := rfl
      rw [← list_cons hp] at hv
      have hl : s.data.toList.length = s.size := by simp
      rw [hv]
      congr 1
      rw [decide_eq_decide, List.length_drop]
      omega
    generalize varB s.data.toList = r at HE
    have S1 := fun W => ref_small s[0] W
    have S2 := fun W => ref_signs s 1 W hs (by omega)
    generalize smallB s[0] = b1 at *
    generalize (s.data.toList.drop 1).all signB = b2 at *
    by_cases h1 : s.size ≤ 4096
    · cases b1 <;> cases b2
      all_goals
        go_enter Tryz.func72, Tryz.ntmps72
        go_wp2_with (first
          | (go_at_call 89; (with_reducible refine Calls.mono (S1 _) ?_); rintro e w' ⟨rfl, rfl⟩)
          | (go_at_call 90; (with_reducible refine Calls.mono (S2 _) ?_); rintro e w' ⟨rfl, rfl⟩))
        all_goals (go_ret; exact ⟨ret_bool (by rw [← HE.out]; simp [h1]), rfl⟩)
    · go_enter Tryz.func72, Tryz.ntmps72
      go_wp2
      go_ret
      exact ⟨ret_bool (by rw [← HE.out]; simp [h1]), rfl⟩
set_option maxRecDepth 10000 in
theorem ref_upper (s : ByteArray) (w : World) (hs : s.size < 140737488355328) : Calls Tryz.prog 91 #[.string s] w fun e w' => e = .returned (.bool (upperB s.data.toList)) ∧ w' = w := by
  by_cases h0 : s = ⟨#[]⟩
  · subst h0
    go_enter Tryz.func91, Tryz.ntmps91
    go_wp2
    go_ret
    exact ⟨rfl, rfl⟩
  · have hp := size_pos h0
    have ht : ¬ s.toList = [] := fun h => by rw [ByteArray.toList_eq, list_cons hp] at h; cases h
    have he : s.toList.isEmpty = false := by simpa using ht
    have HE : Hid ((capB s[0] && (s.data.toList.drop 1).all signB) = upperB s.data.toList) := by
      show _ = upperB s.data.toList
      rw [list_cons hp]
      rfl
    generalize upperB s.data.toList = r at HE
    have S1 := fun W => ref_capital s[0] W
    have S2 := fun W => ref_signs s 1 W hs (by omega)
    generalize capB s[0] = b1 at *
    generalize (s.data.toList.drop 1).all signB = b2 at *
    cases b1 <;> cases b2
    all_goals
      go_enter Tryz.func91, Tryz.ntmps91
      go_wp2_with (first
        | (go_at_call 107; (with_reducible refine Calls.mono (S1 _) ?_); rintro e w' ⟨rfl, rfl⟩)
        | (go_at_call 90; (with_reducible refine Calls.mono (S2 _) ?_); rintro e w' ⟨rfl, rfl⟩))
      all_goals (go_ret; exact ⟨ret_bool (by rw [← HE.out]; simp), rfl⟩)
set_option maxHeartbeats 4000000 in
set_option maxRecDepth 10000 in
theorem ref_data (s : ByteArray) (w : World) (hs : s.size < 140737488355328) : Calls Tryz.prog 73 #[.string s] w fun e w' => e = .returned (.bool (dataB s.data.toList)) ∧ w' = w := by
  have hl : s.data.toList.length = s.size := by simp
  by_cases hI : s.toList = [73, 110, 116]
  · have HE : Hid (dataB s.data.toList = false) := by rw [← ByteArray.toList_eq, hI]; exact int_not_data
    generalize dataB s.data.toList = r at HE
    go_enter Tryz.func73, Tryz.ntmps73
    go_wp2
    go_ret
    exact ⟨ret_bool HE.out.symm, rfl⟩
  · have hI2 : s.data.toList ≠ [73, 110, 116] := by rw [← ByteArray.toList_eq]; exact hI
    by_cases h1 : s.size ≤ 4096
    · have U := fun (s : ByteArray) (h : s.size < 140737488355328) W => ref_upper s W h
      have hI3 : (s.toList == [73, 110, 116]) = false := by simpa using hI
      rcases data_split s.data.toList with hno | ⟨i, hi, e1, e2⟩
      · have HE : Hid (upperB s.data.toList = dataB s.data.toList) := by
          show _ = dataB s.data.toList
          rw [data_plainly hno]
          simp [hI2, h1]
        have HP : Hid (∀ j (h : j < s.size), s[j] ≠ 46) := fun j h => hno _ (by show s.data[j] ∈ s.data.toList; simp)
        have U0 := U s hs
        generalize upperB s.data.toList = r0 at HE U0
        generalize dataB s.data.toList = r at HE
        clear hI hI2 hno U
        go_enter Tryz.func73, Tryz.ntmps73
        go_wp2
        go_loopw [3] (fun i wr => ∃ j : Nat, j ≤ s.size ∧ i = .int .i64 j ∧ wr = w) (fun i _ => s.size - (intOf i).toNat)
        case atStart => exact ⟨0, by omega, by go_num, rfl⟩
        case round =>
          obtain ⟨j, hj, rfl, rfl⟩ := hrel
          by_cases hlt : j < s.size
          · have hb := point_ne (HP.out j hlt)
            go_wp2
            go_roundw
            case rel => exact ⟨j + 1, by omega, by go_num, by first | rfl | trivial⟩
            case measure => simp [intOf]; omega
          · go_wp2_with (go_at_call 91; (with_reducible refine Calls.mono (U0 _) ?_); rintro e w' ⟨rfl, rfl⟩)
            go_ret
            exact ⟨ret_bool HE.out, rfl⟩
      · have hi' : i < s.size := by omega
        have HE : Hid ((upperB (s.data.toList.take i) && upperB (s.data.toList.drop (i + 1))) = dataB s.data.toList) := by
          show _ = dataB s.data.toList
          rw [data_pointed hi e1 e2]
          simp [hI2, h1]
        have HP : Hid (∀ j (h : j < s.size), j < i → s[j] ≠ 46) := fun j h hj => e2 j (by omega) hj
        have hb0 : ((s[i].toNat : Int) == 46) = true := by
          have : s[i] = 46 := e1
          rw [this]; rfl
        have U1 := U (s.extract 0 i) (by rw [ByteArray.size_extract]; omega)
        have U2 := U (s.extract (i + 1) s.size) (by rw [ByteArray.size_extract]; omega)
        rw [show (s.extract 0 i).data.toList = s.data.toList.take i by simp [ByteArray.data_extract]] at U1
        rw [show (s.extract (i + 1) s.size).data.toList = s.data.toList.drop (i + 1) by
          rw [ByteArray.data_extract, Array.toList_extract, List.extract_eq_take_drop, List.take_of_length_le]
          rw [List.length_drop]; omega] at U2
        generalize upperB (s.data.toList.take i) = r1 at HE U1
        generalize upperB (s.data.toList.drop (i + 1)) = r2 at HE U2
        generalize dataB s.data.toList = r at HE
        clear hI hI2 U e1 e2 hi hl
        go_enter Tryz.func73, Tryz.ntmps73
        go_wp2
        go_loopw [3] (fun i0 wr => ∃ j : Nat, j ≤ i ∧ i0 = .int .i64 j ∧ wr = w) (fun i0 _ => s.size - (intOf i0).toNat)
        case atStart => exact ⟨0, by omega, by go_num, rfl⟩
        case round =>
          obtain ⟨j, hj, rfl, rfl⟩ := hrel
          have hjs : j < s.size := by omega
          by_cases hlt : j < i
          · have hb := point_ne (HP.out j hjs hlt)
            clear hb0
            go_wp2
            go_roundw
            case rel => exact ⟨j + 1, by omega, by go_num, by first | rfl | trivial⟩
            case measure => simp [intOf]; omega
          · obtain rfl : j = i := by omega
            cases r1 <;> cases r2
            all_goals
              go_wp2_with (first
                | (go_at_call_of 91 (s.extract 0 j); (with_reducible refine Calls.mono (U1 _) ?_); rintro e w' ⟨rfl, rfl⟩)
                | (go_at_call 91; (with_reducible refine Calls.mono (U2 _) ?_); rintro e w' ⟨rfl, rfl⟩))
              go_ret
              exact ⟨ret_bool HE.out, rfl⟩
    · have HE : Hid (dataB s.data.toList = false) := by
        show _ = false
        unfold dataB
        simp [h1]
      generalize dataB s.data.toList = r at HE
      have hI3 : (s.toList == [73, 110, 116]) = false := by simpa using hI
      go_enter Tryz.func73, Tryz.ntmps73
      go_wp2
      go_ret
      exact ⟨ret_bool HE.out.symm, rfl⟩
end Go.Proofs.YthcejnpknjepfaaGreatDoor

namespace Go.Proofs.YthcejnpknjepfaaGreatDoor
open Go.RowKit

set_option maxHeartbeats 8000000 in
set_option maxRecDepth 10000 in
theorem form_step (d : Nat) (IH : ∀ (x : Value) (t : Tn d) (w : World) (B : Nat), B ≤ w.heap.size → TyAt w B d x t →
    Calls Tryz.prog 45 #[x] w fun r w' => r = .returned (.bool (formB d t)) ∧ Below w.heap.size w w') : ∀ (x : Value) (t : Tn (d + 1)) (w : World) (B : Nat), B ≤ w.heap.size → TyAt w B (d + 1) x t →
    Calls Tryz.prog 45 #[x] w fun r w' => r = .returned (.bool (formB (d + 1) t)) ∧ Below w.heap.size w w'
  | x, ((k, n), ts), w, B, hB, ⟨v, hx, h1, h2, h⟩ => by
    simp only at hx h1 h2 h
    subst hx
    obtain ⟨ad, cap, rfl, hrow⟩ := h.cells
    rw [form_succ]
    have CV := fun W => ref_variable ⟨n.toArray⟩ W (by show n.toArray.size < _; simpa using h1)
    have CD := fun W => ref_data ⟨n.toArray⟩ W (by show n.toArray.size < _; simpa using h1)
    have HN : Hid ((⟨n.toArray⟩ : ByteArray).toList = n) := bytes_list n
    rw [show (⟨n.toArray⟩ : ByteArray).data.toList = n by simp] at CV CD
    generalize hok : okB k n ts.length = ok
    have HO : Hid (okB k n ts.length = ok) := hok
    generalize hR : (ok && ts.all (formB d)) = R
    have HR : Hid ((ok && ts.all (formB d)) = R) := hR
    clear hR hok
    generalize hs : (⟨n.toArray⟩ : ByteArray) = s at CV CD HN ⊢
    clear hs
    obtain ⟨W, hW, hbW, hsW, b0, b1, b2⟩ := cells_box w (.int .i64 k) (.string s) (.slice ad ts.length cap) 24
    have HW : Hid (Below w.heap.size w W) := hbW
    have HS : Hid (W.heap.size = w.heap.size + 1) := hsW
    have HB : Hid (B ≤ w.heap.size) := hB
    have HC : Hid (ts ≠ [] → ∃ g o, ad = some ⟨g, o, none⟩ ∧ ts.length ≤ cap ∧ g < B ∧
      ∀ j (h : j < ts.length), ∃ k n ad' len' cap', (∀ w', Below B w w' → w'.cell? ⟨g, o + j * 3, none⟩ = some (.int .i64 k) ∧ w'.cell? ⟨g, o + j * 3 + 1, none⟩ = some (.string n) ∧ w'.cell? ⟨g, o + j * 3 + 2, none⟩ = some (.slice ad' len' cap')) ∧ TyAt w B d (.agg #[.int .i64 k, .string n, .slice ad' len' cap']) ts[j]) := hrow
    clear hrow h hB h1
    go_enter Tryz.func45, Tryz.ntmps45
    go_upto_block 0 with fail
    rw [← hW]
    generalize hz : w.heap.size = z at b0 b1 b2 ⊢
    have HZ : Hid (w.heap.size = z) := hz
    clear hW hbW hsW hz
    go_cut [3] from 4 (fun b wc => b = .bool ok ∧ wc = W)
    case first =>
      have HO := HO.out
      have HNo := HN.out
      unfold okB at HO
      have he : s.toList.isEmpty = n.isEmpty := by rw [HNo]
      have he2 : (s.toList == []) = n.isEmpty := by rw [HNo]; cases n <;> rfl
      generalize hne : n.isEmpty = ne at HO he he2
      generalize varB n = vb at HO CV
      generalize dataB n = db at HO CD
      have hnl : ne = true → s.toList = [] := fun h => by rw [h] at hne; rw [HNo]; simpa using hne
      have hnl2 : ne = false → ¬ s.toList = [] := fun h => by rw [h] at hne; rw [HNo]; simpa using hne
      clear HNo IH
      by_cases k1 : k = 1
      · rw [if_pos k1] at HO
        have H1 : Hid ((ne && decide (ts.length = 0)) = ok) := HO
        clear HO
        subst k1
        by_cases hl : ts.length = 0
        · have hl' : ((ts.length : Int) == 0) = true := by rw [hl]; rfl
          replace hl : Hid (ts.length = 0) := hl
          cases ne
          · have q1 := hnl2 rfl
            clear hnl hnl2
            go_wp2
            go_meet
            exact ⟨by rw [← H1.out]; rfl, rfl⟩
          · have q1 := hnl rfl
            clear hnl hnl2
            go_wp2
            go_meet
            exact ⟨by rw [← H1.out]; simp [hl.out] <;> omega, rfl⟩
        · have hl' : ((ts.length : Int) == 0) = false := by rw [beq_eq_false_iff_ne]; omega
          replace hl : Hid (¬ ts.length = 0) := hl
          cases ne
          · have q1 := hnl2 rfl
            clear hnl hnl2
            go_wp2
            go_meet
            exact ⟨by rw [← H1.out]; rfl, rfl⟩
          · have q1 := hnl rfl
            clear hnl hnl2
            go_wp2
            go_meet
            exact ⟨by rw [← H1.out]; simp [hl.out] <;> omega, rfl⟩
      rw [if_neg k1] at HO
      by_cases k2 : k = 2
      · rw [if_pos k2] at HO
        have H1 : Hid ((vb && decide (ts.length = 0)) = ok) := HO
        clear HO hnl hnl2 he he2
        subst k2
        by_cases hl : ts.length = 0
        · have hl' : ((ts.length : Int) == 0) = true := by rw [hl]; rfl
          replace hl : Hid (ts.length = 0) := hl
          cases vb
          all_goals
            go_wp2_with (go_at_call 72; (with_reducible refine Calls.mono (CV _) ?_); rintro e w' ⟨rfl, rfl⟩)
            go_meet
            exact ⟨by rw [← H1.out]; simp [hl.out] <;> omega, rfl⟩
        · have hl' : ((ts.length : Int) == 0) = false := by rw [beq_eq_false_iff_ne]; omega
          replace hl : Hid (¬ ts.length = 0) := hl
          cases vb
          all_goals
            go_wp2_with (go_at_call 72; (with_reducible refine Calls.mono (CV _) ?_); rintro e w' ⟨rfl, rfl⟩)
            go_meet
            exact ⟨by rw [← H1.out]; simp [hl.out] <;> omega, rfl⟩
      rw [if_neg k2] at HO
      by_cases k3 : k = 3
      · rw [if_pos k3] at HO
        have H1 : Hid ((ne && decide (ts.length = 2)) = ok) := HO
        clear HO
        subst k3
        by_cases hl : ts.length = 2
        · have hl' : ((ts.length : Int) == 2) = true := by simp; omega
          replace hl : Hid (ts.length = 2) := hl
          cases ne
          · have q1 := hnl2 rfl
            clear hnl hnl2
            go_wp2
            go_meet
            exact ⟨by rw [← H1.out]; rfl, rfl⟩
          · have q1 := hnl rfl
            clear hnl hnl2
            go_wp2
            go_meet
            exact ⟨by rw [← H1.out]; simp [hl.out] <;> omega, rfl⟩
        · have hl' : ((ts.length : Int) == 2) = false := by simp; omega
          replace hl : Hid (¬ ts.length = 2) := hl
          cases ne
          · have q1 := hnl2 rfl
            clear hnl hnl2
            go_wp2
            go_meet
            exact ⟨by rw [← H1.out]; rfl, rfl⟩
          · have q1 := hnl rfl
            clear hnl hnl2
            go_wp2
            go_meet
            exact ⟨by rw [← H1.out]; simp [hl.out] <;> omega, rfl⟩
      rw [if_neg k3] at HO
      by_cases k4 : k = 4
      · rw [if_pos k4] at HO
        have H1 : Hid ((db && decide (ts.length ≤ 6)) = ok) := HO
        clear HO hnl hnl2 he he2
        subst k4
        by_cases hl : ts.length ≤ 6
        · have hl' : (ts.length : Int) ≤ 6 := by omega
          replace hl : Hid (ts.length ≤ 6) := hl
          cases db
          all_goals
            go_wp2_with (go_at_call 73; (with_reducible refine Calls.mono (CD _) ?_); rintro e w' ⟨rfl, rfl⟩)
            go_meet
            exact ⟨by rw [← H1.out]; simp [hl.out] <;> omega, rfl⟩
        · have hl' : ¬ (ts.length : Int) ≤ 6 := by omega
          replace hl : Hid (¬ ts.length ≤ 6) := hl
          cases db
          all_goals
            go_wp2_with (go_at_call 73; (with_reducible refine Calls.mono (CD _) ?_); rintro e w' ⟨rfl, rfl⟩)
            go_meet
            exact ⟨by rw [← H1.out]; simp [hl.out] <;> omega, rfl⟩
      rw [if_neg k4] at HO
      have H1 : Hid (false = ok) := HO
      clear HO hnl hnl2 he he2
      go_wp2
      go_meet
      exact ⟨by rw [← H1.out], rfl⟩
    case rest =>
      obtain ⟨rfl, rfl⟩ := hcut
      clear CV CD
      go_wp2
      go_loopw [3, 6] (fun b i wr => ∃ (j : Nat) (c : Bool), j ≤ ts.length ∧ i = .int .i64 j ∧ b = .bool c ∧ Below (z + 1) wc wr ∧ Hid ((c && (ts.drop j).all (formB d)) = R)) (fun _ i _ => ts.length - (intOf i).toNat)
      case atStart => exact ⟨0, ok, by omega, by go_num, rfl, Below.refl _ _, HR.out⟩
      case round =>
        obtain ⟨j, c, hj, rfl, rfl, hbel, HJ⟩ := hrel
        have x2 := (hbel.cell (p := ⟨z, 2, none⟩) (by simp)).trans b2
        by_cases hlt : j < ts.length
        · cases c with
          | true =>
            obtain ⟨g, o, rfl, hcap, hg, hel⟩ := HC.out (by intro h; rw [h] at hlt; simp at hlt)
            obtain ⟨k1, n1, ad1, l1, cp1, hcel, T1⟩ := hel j hlt
            have hzB : B ≤ z := by have := HB.out; have := HZ.out; omega
            have hwz : Below z w wr := by
              have := HW.out
              rw [HZ.out] at this
              exact this.trans (hbel.mono (by omega))
            obtain ⟨p0, p1, p2⟩ := hcel wr (hwz.mono hzB)
            have hzr : z + 1 ≤ wr.heap.size := by have := hbel.size; have := HS.out; have := HZ.out; omega
            have CJ := IH _ _ wr B (by omega) (T1.on (hwz.mono hzB))
            have HN2 : Hid ((formB d ts[j] && (ts.drop (j + 1)).all (formB d)) = R) := by
              show _ = R
              rw [← HJ.out, drop_all' hlt, Bool.true_and]
            generalize formB d ts[j] = c2 at CJ HN2
            have i1 : (0 : Int) ≤ (j : Int) := by omega
            have i2 : (j : Int) < (ts.length : Int) := by omega
            have hjl : j + 1 ≤ ts.length := hlt
            clear T1 IH b0 b1 b2 hcel hel HJ
            go_wp2_with (go_at_call 45; (with_reducible refine Calls.mono CJ ?_); rintro e' w1 ⟨rfl, hb1⟩)
            have hb2 : Below (z + 1) wc w1 := hbel.trans (hb1.mono hzr)
            go_roundw
            case rel => exact ⟨j + 1, c2, hjl, by go_num, rfl, hb2, HN2⟩
            case measure => simp [intOf]; omega
          | false =>
            have HF : Hid (false = R) := by rw [← HJ.out, Bool.false_and]; rfl
            clear IH
            go_wp2
            go_ret
            exact ⟨ret_bool HF.out, by have h := HW.out; rw [HZ.out] at h ⊢; exact h.trans (hbel.mono (by omega))⟩
        · have HF : Hid (c = R) := by rw [← HJ.out, List.drop_eq_nil_of_le (by omega), List.all_nil, Bool.and_true]; rfl
          clear IH
          go_wp2
          go_ret
          exact ⟨ret_bool HF.out, by have h := HW.out; rw [HZ.out] at h ⊢; exact h.trans (hbel.mono (by omega))⟩
theorem form_any : ∀ (d : Nat) (x : Value) (t : Tn d) (w : World) (B : Nat), B ≤ w.heap.size → TyAt w B d x t →
    Calls Tryz.prog 45 #[x] w fun r w' => r = .returned (.bool (formB d t)) ∧ Below w.heap.size w w'
  | 0, _, _, _, _, _, h => h.elim
  | d + 1, x, t, w, B, hB, h => form_step d (form_any d) x t w B hB h
end Go.Proofs.YthcejnpknjepfaaGreatDoor

namespace Go.Proofs.YthcejnpknjepfaaGreatDoor
open Go.RowKit

set_option maxHeartbeats 4000000 in
set_option maxRecDepth 10000 in
theorem nodes_step (d : Nat) (IH : ∀ (x : Value) (t : Tn d) (w : World) (B : Nat), B ≤ w.heap.size → TyAt w B d x t → (flat d t).length ≤ 4194304 →
    Calls Tryz.prog 46 #[x] w fun r w' => r = .returned (.int .i64 (flat d t).length) ∧ Below w.heap.size w w') : ∀ (x : Value) (t : Tn (d + 1)) (w : World) (B : Nat), B ≤ w.heap.size → TyAt w B (d + 1) x t → (flat (d + 1) t).length ≤ 4194304 →
    Calls Tryz.prog 46 #[x] w fun r w' => r = .returned (.int .i64 (flat (d + 1) t).length) ∧ Below w.heap.size w w'
  | x, ((k, n), ts), w, B, hB, ⟨v, hx, h1, h2, h⟩, hN => by
    simp only at hx h1 h2 h
    subst hx
    obtain ⟨ad, cap, rfl, hrow⟩ := h.cells
    rw [flat_succ, List.length_cons] at hN ⊢
    generalize hR : (flats d ts).length + 1 = R at hN ⊢
    have HR : Hid (1 + (flats d ts).length = R) := by show _ = R; omega
    obtain ⟨W, hW, hbW, hsW, b0, b1, b2⟩ := cells_box w (.int .i64 k) (.string ⟨n.toArray⟩) (.slice ad ts.length cap) 24
    have HW : Hid (Below w.heap.size w W) := hbW
    have HS : Hid (W.heap.size = w.heap.size + 1) := hsW
    have HB : Hid (B ≤ w.heap.size) := hB
    have HC : Hid (ts ≠ [] → ∃ g o, ad = some ⟨g, o, none⟩ ∧ ts.length ≤ cap ∧ g < B ∧
      ∀ j (h : j < ts.length), ∃ k n ad' len' cap', (∀ w', Below B w w' → w'.cell? ⟨g, o + j * 3, none⟩ = some (.int .i64 k) ∧ w'.cell? ⟨g, o + j * 3 + 1, none⟩ = some (.string n) ∧ w'.cell? ⟨g, o + j * 3 + 2, none⟩ = some (.slice ad' len' cap')) ∧ TyAt w B d (.agg #[.int .i64 k, .string n, .slice ad' len' cap']) ts[j]) := hrow
    clear hrow h hB h1 hR
    go_enter Tryz.func46, Tryz.ntmps46
    go_wp2
    rw [← hW]
    generalize hz : w.heap.size = z at b0 b1 b2 ⊢
    have HZ : Hid (w.heap.size = z) := hz
    clear hW hbW hsW hz
    go_loopw [3, 4] (fun b i wr => ∃ (j N : Nat), j ≤ ts.length ∧ i = .int .i64 j ∧ b = .int .i64 N ∧ Below (z + 1) W wr ∧ Hid (N + (flats d (ts.drop j)).length = R)) (fun _ i _ => ts.length - (intOf i).toNat)
    case atStart => exact ⟨0, 1, by omega, by go_num, by go_num, Below.refl _ _, HR.out⟩
    case round =>
      obtain ⟨j, N, hj, rfl, rfl, hbel, HJ⟩ := hrel
      have x2 := (hbel.cell (p := ⟨z, 2, none⟩) (by simp)).trans b2
      by_cases hlt : j < ts.length
      · obtain ⟨g, o, rfl, hcap, hg, hel⟩ := HC.out (by intro h; rw [h] at hlt; simp at hlt)
        obtain ⟨k1, n1, ad1, l1, cp1, hcel, T1⟩ := hel j hlt
        have hzB : B ≤ z := by have := HB.out; have := HZ.out; omega
        have hwz : Below z w wr := by
          have := HW.out
          rw [HZ.out] at this
          exact this.trans (hbel.mono (by omega))
        obtain ⟨p0, p1, p2⟩ := hcel wr (hwz.mono hzB)
        have hzr : z + 1 ≤ wr.heap.size := by have := hbel.size; have := HS.out; have := HZ.out; omega
        have HN2 : Hid (N + (flat d ts[j]).length + (flats d (ts.drop (j + 1))).length = R) := by
          show _ = R
          rw [← HJ.out, List.drop_eq_getElem_cons hlt, flats_cons, List.length_append]
          omega
        have hsm : N + (flat d ts[j]).length ≤ 4194304 := by have := HN2.out; omega
        have CJ := IH _ _ wr B (by omega) (T1.on (hwz.mono hzB)) (by omega)
        generalize (flat d ts[j]).length = m at CJ HN2 hsm
        have i1 : (0 : Int) ≤ (j : Int) := by omega
        have i2 : (j : Int) < (ts.length : Int) := by omega
        have hjl : j + 1 ≤ ts.length := hlt
        clear T1 IH b0 b1 b2 hcel hel HJ hN
        go_wp2_with (go_at_call 46; (with_reducible refine Calls.mono CJ ?_); rintro e' w1 ⟨rfl, hb1⟩)
        have hb2 : Below (z + 1) W w1 := hbel.trans (hb1.mono hzr)
        go_roundw
        case rel => exact ⟨j + 1, N + m, hjl, by go_num, by go_num, hb2, HN2⟩
        case measure => simp [intOf]; omega
      · have HF : Hid (R = N) := by
          show R = N
          have := HJ.out
          rw [List.drop_eq_nil_of_le (by omega)] at this
          simpa [flats] using this.symm
        clear IH
        go_wp2
        go_ret
        exact ⟨by rw [HF.out]; rfl, by have h := HW.out; rw [HZ.out] at h ⊢; exact h.trans (hbel.mono (by omega))⟩
theorem nodes_any : ∀ (d : Nat) (x : Value) (t : Tn d) (w : World) (B : Nat), B ≤ w.heap.size → TyAt w B d x t → (flat d t).length ≤ 4194304 →
    Calls Tryz.prog 46 #[x] w fun r w' => r = .returned (.int .i64 (flat d t).length) ∧ Below w.heap.size w w'
  | 0, _, _, _, _, _, h, _ => h.elim
  | d + 1, x, t, w, B, hB, h, hN => nodes_step d (nodes_any d) x t w B hB h hN
set_option maxHeartbeats 4000000 in
set_option maxRecDepth 10000 in
theorem wrong_any (d : Nat) (x : Value) (t : Tn d) (w : World) (B : Nat) (hB : B ≤ w.heap.size) (h : TyAt w B d x t) (hN : (flat d t).length ≤ 4194304) :
    Calls Tryz.prog 26 #[x] w fun r w' => r = .returned (.int .i64 (wrongT d t)) ∧ Below w.heap.size w w' := by
  obtain ⟨d, rfl⟩ : ∃ e, d = e + 1 := by
    cases d with
    | zero => exact h.elim
    | succ e => exact ⟨e, rfl⟩
  have CF := fun W (hb : Below w.heap.size w W) => form_any _ x t W B (Nat.le_trans hB hb.size) (h.on (hb.mono hB))
  have CN := fun W (hb : Below w.heap.size w W) => nodes_any _ x t W B (Nat.le_trans hB hb.size) (h.on (hb.mono hB)) hN
  unfold wrongT
  generalize formB (d + 1) t = fb at CF ⊢
  generalize (flat (d + 1) t).length = nn at CN ⊢ hN
  obtain ⟨v, hx, h1, h2, h⟩ := h
  subst hx
  obtain ⟨ad, cap, rfl⟩ := h.len
  generalize t.1.1 = k at *
  generalize t.1.2 = n at *
  generalize t.2.length = len at *
  clear h
  obtain ⟨W, hW, hbW, hsW, b0, b1, b2⟩ := cells_box w (.int .i64 k) (.string ⟨n.toArray⟩) (.slice ad len cap) 24
  have CF := CF W hbW
  have HW : Hid (Below w.heap.size w W) := hbW
  have HS : Hid (W.heap.size = w.heap.size + 1) := hsW
  have HH : Hid (W = w.alloc (Obj.cells #[.int .i64 k, .string ⟨n.toArray⟩, .slice ad len cap] 24)) := hW
  have HX : Hid (∀ w1, Below W.heap.size W w1 → Below w.heap.size w w1) := fun w1 h1 => HW.out.trans (h1.mono (by have := HS.out; omega))
  clear hbW hsW
  cases fb with
  | false =>
    clear CN
    go_enter Tryz.func26, Tryz.ntmps26
    rw [hW] at CF
    go_wp2_with (go_at_call 45; (with_reducible refine Calls.mono CF ?_); rintro e' w1 ⟨rfl, hb1⟩)
    go_ret
    exact ⟨rfl, HX.out _ (by rw [HH.out]; exact hb1)⟩
  | true =>
    have X1 : ∀ w1, Below W.heap.size W w1 → w1.cell? ⟨w.heap.size, 0, none⟩ = some (.int .i64 k) ∧ w1.cell? ⟨w.heap.size, 1, none⟩ = some (.string ⟨n.toArray⟩) ∧ w1.cell? ⟨w.heap.size, 2, none⟩ = some (.slice ad len cap) := fun w1 hb => by
      have := HS.out
      exact ⟨(hb.cell (by simp; omega)).trans b0, (hb.cell (by simp; omega)).trans b1, (hb.cell (by simp; omega)).trans b2⟩
    have CN2 := fun w1 (hb : Below W.heap.size W w1) => CN w1 (HX.out w1 hb)
    rw [hW] at CF X1 CN2
    by_cases hbig : 500 < nn
    · rw [if_pos rfl, if_pos hbig]
      clear CN b0 b1 b2 hW
      go_enter Tryz.func26, Tryz.ntmps26
      go_wp2_with (first
        | (go_at_call 45; (with_reducible refine Calls.mono CF ?_); rintro e' w1 ⟨rfl, hb1⟩; obtain ⟨y0, y1, y2⟩ := X1 w1 hb1)
        | (go_at_call 46; (with_reducible refine Calls.mono (CN2 _ hb1) ?_); rintro e' w2 ⟨rfl, hb2⟩))
      go_ret
      exact ⟨rfl, (HX.out _ (by rw [HH.out]; exact hb1)).trans (hb2.mono (by have := hb1.size; simp at this; omega))⟩
    · rw [if_pos rfl, if_neg hbig]
      clear CN b0 b1 b2 hW
      go_enter Tryz.func26, Tryz.ntmps26
      go_wp2_with (first
        | (go_at_call 45; (with_reducible refine Calls.mono CF ?_); rintro e' w1 ⟨rfl, hb1⟩; obtain ⟨y0, y1, y2⟩ := X1 w1 hb1)
        | (go_at_call 46; (with_reducible refine Calls.mono (CN2 _ hb1) ?_); rintro e' w2 ⟨rfl, hb2⟩))
      go_ret
      exact ⟨rfl, (HX.out _ (by rw [HH.out]; exact hb1)).trans (hb2.mono (by have := hb1.size; simp at this; omega))⟩
end Go.Proofs.YthcejnpknjepfaaGreatDoor

namespace Go.Proofs.YthcejnpknjepfaaGreatDoor
open Go.RowKit

set_option maxHeartbeats 8000000 in
set_option maxRecDepth 10000 in
theorem text_step (d : Nat) (IH : ∀ (x : Value) (t : Tn d) (w : World) (B : Nat), B ≤ w.heap.size → TyAt w B d x t → formB d t = true → (flat d t).length ≤ 4194304 →
    Calls Tryz.prog 35 #[x] w fun r w' => r = .returned (strV (textT d t)) ∧ Below w.heap.size w w') : ∀ (x : Value) (t : Tn (d + 1)) (w : World) (B : Nat), B ≤ w.heap.size → TyAt w B (d + 1) x t → formB (d + 1) t = true → (flat (d + 1) t).length ≤ 4194304 →
    Calls Tryz.prog 35 #[x] w fun r w' => r = .returned (strV (textT (d + 1) t)) ∧ Below w.heap.size w w'
  | x, t, w, B, hB, h, hF, hN => by
    have hTL := text_len (d + 1) t hF
    rcases form_cases hF with rfl | ⟨n, hn, rfl⟩ | ⟨a, b, ha, hb, rfl⟩ | ⟨n, ts, hn, hl, hts, rfl⟩
    · obtain ⟨v, hx, h1, h2, h⟩ := h
      simp only at hx h1 h2 h
      subst hx
      obtain ⟨ad, cap, rfl⟩ := h.len
      clear h IH
      rw [text_int]
      go_enter Tryz.func35, Tryz.ntmps35
      go_wp2
      go_ret
      exact ⟨rfl, (Below.refl _ _).alloc (Nat.le_refl _) _⟩
    · obtain ⟨v, hx, h1, h2, h⟩ := h
      simp only at hx h1 h2 h
      subst hx
      obtain ⟨ad, cap, rfl⟩ := h.len
      clear h IH
      rw [text_var]
      go_enter Tryz.func35, Tryz.ntmps35
      go_wp2
      go_ret
      exact ⟨rfl, (Below.refl _ _).alloc (Nat.le_refl _) _⟩
    · obtain ⟨v, hx, h1, h2, h⟩ := h
      simp only at hx h1 h2 h
      subst hx
      obtain ⟨ad, cap, rfl, hrow⟩ := h.cells
      obtain ⟨g, o, rfl, hcap, hg, hel⟩ := hrow (by simp)
      obtain ⟨k1, n1, ad1, l1, cp1, hcel1, T1⟩ := hel 0 (by simp)
      obtain ⟨k2, n2, ad2, l2, cp2, hcel2, T2⟩ := hel 1 (by simp)
      simp only [List.getElem_cons_zero, List.getElem_cons_succ] at T1 T2
      rw [flat_succ, flats_cons, flats_cons, flats_nil] at hN hTL
      simp only [List.length_cons, List.length_append, List.length_nil] at hN hTL
      rw [text_fun] at hTL ⊢
      obtain ⟨W, hW, hbW, hsW, b0, b1, b2⟩ := cells_box w (.int .i64 3) (.string ⟨([] : List UInt8).toArray⟩) (.slice (some ⟨g, o, none⟩) [a, b].length cap) 24
      have C1 := fun W' (hb' : Below w.heap.size w W') => IH _ _ W' B (Nat.le_trans hB hb'.size) (T1.on (hb'.mono hB)) ha (by omega)
      have C2 := fun W' (hb' : Below w.heap.size w W') => IH _ _ W' B (Nat.le_trans hB hb'.size) (T2.on (hb'.mono hB)) hb (by omega)
      generalize textT d a = ta at hTL C1 ⊢
      generalize textT d b = tb at hTL C2 ⊢
      have HX : ∀ w1, Below W.heap.size W w1 → Below w.heap.size w w1 := fun w1 h1 => hbW.trans (h1.mono (by omega))
      have X2 : ∀ w1, Below W.heap.size W w1 → w1.cell? ⟨w.heap.size, 2, none⟩ = some (.slice (some ⟨g, o, none⟩) 2 cap) ∧ (w1.cell? ⟨g, o, none⟩ = some (.int .i64 k1) ∧ w1.cell? ⟨g, o + 1, none⟩ = some (.string n1) ∧ w1.cell? ⟨g, o + 2, none⟩ = some (.slice ad1 l1 cp1)) ∧ w1.cell? ⟨g, o + 3, none⟩ = some (.int .i64 k2) ∧ w1.cell? ⟨g, o + 3 + 1, none⟩ = some (.string n2) ∧ w1.cell? ⟨g, o + 3 + 2, none⟩ = some (.slice ad2 l2 cp2) := fun w1 hb => by
        refine ⟨(hb.cell (by simp; omega)).trans b2, ?_, ?_⟩
        · have := hcel1 w1 ((HX w1 hb).mono hB)
          simpa using this
        · have := hcel2 w1 ((HX w1 hb).mono hB)
          simpa using this
      have HT : Hid ((40 :: (ta ++ ([32, 45, 62, 32] ++ (tb ++ [41])))).length ≤ 4104 * ((flat d a).length + ((flat d b).length + 0) + 1)) := hTL
      have hta : ta.length ≤ 20000000000 := by simp at hTL; omega
      have htb : tb.length ≤ 20000000000 := by simp at hTL; omega
      have D1 := C1 W hbW
      have D2 := fun w1 (h : Below W.heap.size W w1) => C2 w1 (HX w1 h)
      have HX' : Hid (∀ w1, Below W.heap.size W w1 → Below w.heap.size w w1) := HX
      have HS : Hid (W.heap.size = w.heap.size + 1) := hsW
      obtain ⟨c2, ⟨p0, p1, p2⟩, _⟩ := X2 W (Below.refl _ _)
      have hc2 : (2 : Int) ≤ (cap : Int) := by simp at hcap; omega
      have hW' : W = w.alloc (Obj.cells #[Value.int IntKind.i64 3, Value.string ⟨#[]⟩, Value.slice (some ⟨g, o, none⟩) 2 cap] 24) := hW
      clear hTL C1 C2 HX b1 b2 hbW hsW hcel1 hcel2 hel hrow T1 T2 IH h hF hN h1 h2 hcap hW
      show Calls Tryz.prog 35 #[.agg #[.int .i64 3, .string ⟨#[]⟩, .slice (some ⟨g, o, none⟩) 2 cap]] w _
      go_enter Tryz.func35, Tryz.ntmps35
      go_upto_region 1 with fail
      rw [← hW']
      have HX2 : Hid (∀ w1, Below W.heap.size W w1 → Below w.heap.size w w1) := HX'
      clear HX'
      generalize w.heap.size = z at b0 c2 X2 ⊢
      clear hW'
      go_wp2_with (first
        | (go_at_call_of 35 ad1; (with_reducible refine Calls.mono D1 ?_); rintro e' w1 ⟨rfl, hb1⟩; obtain ⟨d2, _, q0, q1, q2⟩ := X2 w1 hb1)
        | (go_at_call_of 35 ad2; (with_reducible refine Calls.mono (D2 w1 hb1) ?_); rintro e' w2 ⟨rfl, hb2⟩))
      go_ret
      exact ⟨congrArg (fun v => Ending.returned (.string v)) (str_fun ta tb), HX2.out _ (hb1.trans (hb2.mono hb1.size))⟩
    · cases ts with
      | nil =>
        obtain ⟨v, hx, h1, h2, h⟩ := h
        simp only at hx h1 h2 h
        subst hx
        obtain ⟨ad, cap, rfl⟩ := h.len
        clear h IH
        rw [text_data0]
        show Calls Tryz.prog 35 #[.agg #[.int .i64 4, .string ⟨n.toArray⟩, .slice ad 0 cap]] w _
        go_enter Tryz.func35, Tryz.ntmps35
        go_wp2
        go_ret
        exact ⟨rfl, (Below.refl _ _).alloc (Nat.le_refl _) _⟩
      | cons t0 ts0 =>
        rw [text_data] at hTL ⊢
        obtain ⟨v, hx, h1, h2, h⟩ := h
        simp only at hx h1 h2 h
        subst hx
        obtain ⟨ad, cap, rfl, hrow⟩ := h.cells
        obtain ⟨g, o, rfl, hcap, hg, hel⟩ := hrow (by simp)
        rw [flat_succ] at hN hTL
        have h0 : ¬ ((t0 :: ts0).length : Int) = 0 := by simp; omega
        have h0b : (((t0 :: ts0).length : Int) == 0) = false := by rw [beq_eq_false_iff_ne]; exact h0
        generalize htsd : t0 :: ts0 = ts at *
        clear htsd
        have hN : (flats d ts).length + 1 ≤ 4194304 := hN
        have hTL : (40 :: (n ++ (argsT d ts ++ [41]))).length ≤ 4104 * ((flats d ts).length + 1) := hTL
        obtain ⟨W, hW, hbW, hsW, b0, b1, b2⟩ := cells_box w (.int .i64 4) (.string ⟨n.toArray⟩) (.slice (some ⟨g, o, none⟩) ts.length cap) 24
        have hnl := data_len hn
        have HW : Hid (Below w.heap.size w W) := hbW
        have HS : Hid (W.heap.size = w.heap.size + 1) := hsW
        have HB : Hid (B ≤ w.heap.size) := hB
        have HE : Hid (∀ j (h : j < ts.length), ∃ k n ad' len' cap', (∀ w', Below B w w' → w'.cell? ⟨g, o + j * 3, none⟩ = some (.int .i64 k) ∧ w'.cell? ⟨g, o + j * 3 + 1, none⟩ = some (.string n) ∧ w'.cell? ⟨g, o + j * 3 + 2, none⟩ = some (.slice ad' len' cap')) ∧ TyAt w B d (.agg #[.int .i64 k, .string n, .slice ad' len' cap']) ts[j]) := hel
        have HF : Hid (∀ a ∈ ts, formB d a = true) := hts
        have HA : Hid ((flats d ts).length + 1 ≤ 4194304) := hN
        generalize hR : (40 :: (n ++ (argsT d ts ++ [41]))) = R at hTL ⊢
        have HR : Hid ((40 :: n) ++ (argsT d ts ++ [41]) = R) := hR
        have HL : Hid (R.length ≤ 4104 * ((flats d ts).length + 1)) := hTL
        have hW' : W = w.alloc (Obj.cells #[Value.int IntKind.i64 4, Value.string ⟨n.toArray⟩, Value.slice (some ⟨g, o, none⟩) ts.length cap] 24) := hW
        clear hR hrow h hB h1 hel hTL hN hts hn hF hW hbW hsW hl
        go_enter Tryz.func35, Tryz.ntmps35
        go_upto_region 1 with fail
        rw [← hW']
        generalize hz : w.heap.size = z at b0 b1 b2 ⊢
        have HZ : Hid (w.heap.size = z) := hz
        clear hW' hz
        go_wp2
        go_loopw [5, 6] (fun b i wr => ∃ (j : Nat) (acc : List UInt8), j ≤ ts.length ∧ i = .int .i64 j ∧ b = strV acc ∧ Below (z + 1) W wr ∧ Hid (acc ++ (argsT d (ts.drop j) ++ [41]) = R)) (fun _ i _ => ts.length - (intOf i).toNat)
        case atStart => exact ⟨0, 40 :: n, by omega, by go_num, congrArg Value.string (str_open n), Below.refl _ _, HR.out⟩
        case round =>
          obtain ⟨j, acc, hj, rfl, rfl, hbel, HJ⟩ := hrel
          have hRl : R.length ≤ 20000000000 := by have := HL.out; have := HA.out; omega
          have hal : acc.length ≤ 20000000000 := by
            have h := congrArg List.length HJ.out
            simp at h
            omega
          have x2 := (hbel.cell (p := ⟨z, 2, none⟩) (by simp)).trans b2
          by_cases hlt : j < ts.length
          · obtain ⟨k1, n1, ad1, l1, cp1, hcel, T1⟩ := HE.out j hlt
            have hzB : B ≤ z := by have := HB.out; have := HZ.out; omega
            have hwz : Below z w wr := by
              have := HW.out
              rw [HZ.out] at this
              exact this.trans (hbel.mono (by omega))
            obtain ⟨p0, p1, p2⟩ := hcel wr (hwz.mono hzB)
            have hzr : z + 1 ≤ wr.heap.size := by have := hbel.size; have := HS.out; have := HZ.out; omega
            have HN2 : Hid ((acc ++ 32 :: textT d ts[j]) ++ (argsT d (ts.drop (j + 1)) ++ [41]) = R) := by
              show _ = R
              rw [← HJ.out, List.drop_eq_getElem_cons hlt, argsT_cons]
              simp
            have hfl : (flat d ts[j]).length ≤ (flats d ts).length := flat_le hlt
            have CJ := IH _ _ wr B (by omega) (T1.on (hwz.mono hzB)) (HF.out _ (List.getElem_mem hlt)) (by have := HA.out; omega)
            have htl : (textT d ts[j]).length ≤ 20000000000 := by
              have h := congrArg List.length HN2.out
              simp at h
              omega
            generalize textT d ts[j] = tj at CJ HN2 htl
            have i1 : (0 : Int) ≤ (j : Int) := by omega
            have i2 : (j : Int) < (ts.length : Int) := by omega
            have hjl : j + 1 ≤ ts.length := hlt
            clear T1 IH b0 b1 b2 hcel HJ hRl hfl
            go_wp2_with (go_at_call 35; (with_reducible refine Calls.mono CJ ?_); rintro e' w1 ⟨rfl, hb1⟩)
            have hb2 : Below (z + 1) W w1 := hbel.trans (hb1.mono hzr)
            go_roundw
            case rel => exact ⟨j + 1, acc ++ 32 :: tj, hjl, by go_num, congrArg Value.string (str_more acc tj), hb2, HN2⟩
            case measure => simp [intOf]; omega
          · have HG : Hid (acc ++ [41] = R) := by
              show _ = R
              rw [← HJ.out, List.drop_eq_nil_of_le (by omega)]
              rfl
            clear IH hRl
            go_wp2
            go_ret
            exact ⟨by rw [← HG.out]; exact congrArg (fun v => Ending.returned (.string v)) (str_shut acc), by have h := HW.out; rw [HZ.out] at h ⊢; exact h.trans (hbel.mono (by omega))⟩
theorem text_any : ∀ (d : Nat) (x : Value) (t : Tn d) (w : World) (B : Nat), B ≤ w.heap.size → TyAt w B d x t → formB d t = true → (flat d t).length ≤ 4194304 →
    Calls Tryz.prog 35 #[x] w fun r w' => r = .returned (strV (textT d t)) ∧ Below w.heap.size w w'
  | 0, _, _, _, _, _, h, _, _ => h.elim
  | d + 1, x, t, w, B, hB, h, hF, hN => text_step d (text_any d) x t w B hB h hF hN

set_option maxHeartbeats 4000000 in
set_option maxRecDepth 10000 in
theorem print_ref (d : Nat) (x : Value) (t : Tn d) (w : World) (B : Nat) (hB : B ≤ w.heap.size) (h : TyAt w B d x t) (hN : (flat d t).length ≤ 4194304) :
    Calls Tryz.prog 11 #[x] w fun r w' => r = .returned (printV d t) ∧ Below w.heap.size w w' := by
  obtain ⟨d, rfl⟩ : ∃ e, d = e + 1 := by
    cases d with
    | zero => exact h.elim
    | succ e => exact ⟨e, rfl⟩
  have CW := fun W (hb : Below w.heap.size w W) => wrong_any _ x t W B (Nat.le_trans hB hb.size) (h.on (hb.mono hB)) hN
  have CT := fun W (hb : Below w.heap.size w W) (h0 : wrongT _ t = 0) => text_any _ x t W B (Nat.le_trans hB hb.size) (h.on (hb.mono hB)) (wrong_zero h0).1 hN
  have hTL := fun (h0 : wrongT _ t = 0) => text_len _ t (wrong_zero h0).1
  have hWR := wrong_range _ t
  unfold printV
  generalize wrongT (d + 1) t = e0 at CW CT hTL hWR ⊢
  generalize textT (d + 1) t = tx at CT hTL ⊢
  generalize (flat (d + 1) t).length = nn at hTL hN
  obtain ⟨v, hx, h1, h2, h⟩ := h
  subst hx
  obtain ⟨ad, cap, rfl⟩ := h.len
  generalize t.1.1 = k at *
  generalize t.1.2 = n at *
  generalize t.2.length = len at *
  clear h
  obtain ⟨W, hW, hbW, hsW, b0, b1, b2⟩ := cells_box w (.int .i64 k) (.string ⟨n.toArray⟩) (.slice ad len cap) 24
  have HX : Hid (∀ w1, Below W.heap.size W w1 → Below w.heap.size w w1) := fun w1 h1 => hbW.trans (h1.mono (by omega))
  have X1 : ∀ w1, Below W.heap.size W w1 → w1.cell? ⟨w.heap.size, 0, none⟩ = some (.int .i64 k) ∧ w1.cell? ⟨w.heap.size, 1, none⟩ = some (.string ⟨n.toArray⟩) ∧ w1.cell? ⟨w.heap.size, 2, none⟩ = some (.slice ad len cap) := fun w1 hb =>
    ⟨(hb.cell (by simp; omega)).trans b0, (hb.cell (by simp; omega)).trans b1, (hb.cell (by simp; omega)).trans b2⟩
  have CW1 := CW W hbW
  have CT1 := fun w1 (hb : Below W.heap.size W w1) => CT w1 (HX.out w1 hb)
  clear CW CT hbW hsW hB
  rcases hWR with rfl | rfl | rfl
  · have CT2 := fun w1 hb => CT1 w1 hb rfl
    have htl : tx.length ≤ 20000000000 := by have := hTL rfl; omega
    clear CT1 hTL
    by_cases hbig : 65536 < tx.length
    · rw [if_neg (by simp), if_pos hbig]
      have hbig' : (65536 : Int) < (tx.length : Int) := by omega
      go_enter Tryz.func11, Tryz.ntmps11
      go_upto_region 1 with fail
      rw [← hW]
      generalize w.heap.size = z at b0 b1 b2 X1 ⊢
      clear hW
      go_wp2_with (first
        | (go_at_call 26; (with_reducible refine Calls.mono CW1 ?_); rintro e' w1 ⟨rfl, hb1⟩; obtain ⟨y0, y1, y2⟩ := X1 w1 hb1)
        | (go_at_call 35; (with_reducible refine Calls.mono (CT2 _ hb1) ?_); rintro e' w2 ⟨rfl, hb2⟩))
      go_ret2
      exact ⟨rfl, HX.out _ (hb1.trans (hb2.mono hb1.size))⟩
    · rw [if_neg (by simp), if_neg hbig]
      have hbig' : ¬ (65536 : Int) < (tx.length : Int) := by omega
      go_enter Tryz.func11, Tryz.ntmps11
      go_upto_region 1 with fail
      rw [← hW]
      generalize w.heap.size = z at b0 b1 b2 X1 ⊢
      clear hW
      go_wp2_with (first
        | (go_at_call 26; (with_reducible refine Calls.mono CW1 ?_); rintro e' w1 ⟨rfl, hb1⟩; obtain ⟨y0, y1, y2⟩ := X1 w1 hb1)
        | (go_at_call 35; (with_reducible refine Calls.mono (CT2 _ hb1) ?_); rintro e' w2 ⟨rfl, hb2⟩))
      go_ret2
      exact ⟨rfl, HX.out _ (hb1.trans (hb2.mono hb1.size))⟩
  all_goals
    rw [if_pos (by simp)]
    clear CT1 hTL
    go_enter Tryz.func11, Tryz.ntmps11
    go_upto_region 1 with fail
    rw [← hW]
    generalize w.heap.size = z at b0 b1 b2 X1 ⊢
    clear hW
    clear X1
    go_wp2_with (go_at_call 26; (with_reducible refine Calls.mono CW1 ?_); rintro e' w1 ⟨rfl, hb1⟩)
    go_ret2
    exact ⟨rfl, HX.out _ hb1⟩
end Go.Proofs.YthcejnpknjepfaaGreatDoor

namespace Go.Proofs.YthcejnpknjepfaaGreatDoor
open Go.RowKit

end Go.Proofs.YthcejnpknjepfaaGreatDoor

namespace Go.Proofs.YthcejnpknjepfaaGreatDoor
open Go.RowKit

end Go.Proofs.YthcejnpknjepfaaGreatDoor

namespace Go.Proofs.YthcejnpknjepfaaGreatDoor

end Go.Proofs.YthcejnpknjepfaaGreatDoor
