/- The program's looks at a node: contracts of isData and formOf. -/
import Derived.Test.YtgdflaapgfpdeaaGreatDoorNa
import Derived.Test.YtgdflaapgfpdeaaGreatDoorSh
import Derived.Deep.CutBlock
namespace Go.Proofs.YtgdflaapgfpdeaaGreatDoor
open Go.RowKit

theorem index_none : ∀ {l : List UInt8}, (∀ c ∈ l, c ≠ 46) → Lib.indexByte l 46 = -1
  | [], _ => rfl
  | b :: l, h => by
    have hb : (b == 46) = false := by simpa using h b (by simp)
    have ih := index_none (l := l) fun c hc => h c (by simp [hc])
    simp [Lib.indexByte, hb, ih]
theorem index_some : ∀ {l : List UInt8} {i : Nat} (h : i < l.length), l[i] = 46 → (∀ j (h' : j < l.length), j < i → l[j] ≠ 46) → Lib.indexByte l 46 = i
  | [], _, h, _, _ => by simp at h
  | b :: l, 0, _, h1, _ => by
    have hb : b = 46 := h1
    simp [Lib.indexByte, hb]
  | b :: l, i + 1, h, h1, h2 => by
    have hb0 : b ≠ 46 := h2 0 (by simp) (by omega)
    have hb : (b == 46) = false := by simpa using hb0
    have hi : i < l.length := by simpa using h
    have ih := index_some (l := l) (i := i) hi (by simpa using h1) fun j hj hji => by
      have := h2 (j + 1) (by simp; omega) (by omega)
      simpa using this
    have hn : ((i : Int) == -1) = false := by simp
    simp [Lib.indexByte, hb, ih, hn]
set_option maxRecDepth 10000 in
theorem cut_none (s : ByteArray) (w : World) (hno : ∀ c ∈ s.data.toList, c ≠ 46) : Calls Tryz.prog 94 #[.string s, .string ⟨#[46]⟩] w fun e w' => e = .returned (.tuple #[.string s, .string ⟨#[]⟩, .bool false]) ∧ w' = w := by
  have S1 := fun W => Tryz.stringslite_Index_one s 46 W
  rw [index_none hno] at S1
  have S2 : ∀ W, Calls Tryz.prog 100 #[.string s, .string ⟨#[46]⟩] W fun e w' => e = .returned (.tuple #[.string s, .string ⟨#[]⟩, .bool false]) ∧ w' = W := by
    intro w
    go_enter Tryz.func100, Tryz.ntmps100
    go_wp2_with (go_at_call 106; (with_reducible refine Calls.mono (S1 _) ?_); rintro e w' ⟨rfl, rfl⟩)
    refine bodyPost_ret (v := .tuple #[.string s, .string ⟨#[]⟩, .bool false]) (by simp [results, Tryz.results100, go_sem]) rfl ?_
    exact ⟨rfl, rfl⟩
  go_enter Tryz.func94, Tryz.ntmps94
  go_wp2_with (go_at_call 100; (with_reducible refine Calls.mono (S2 _) ?_); rintro e w' ⟨rfl, rfl⟩)
  refine bodyPost_ret (v := .tuple #[.string s, .string ⟨#[]⟩, .bool false]) (by simp [results, Tryz.results94, go_sem]) rfl ?_
  exact ⟨rfl, rfl⟩
set_option maxHeartbeats 4000000 in
set_option maxRecDepth 10000 in
theorem cut_some (s : ByteArray) (w : World) (i : Nat) (hs : s.size < 140737488355328) (hi : i < s.size) (hx : Lib.indexByte s.data.toList 46 = i) : Calls Tryz.prog 94 #[.string s, .string ⟨#[46]⟩] w fun e w' => e = .returned (.tuple #[.string (s.extract 0 i), .string (s.extract (i + 1) s.size), .bool true]) ∧ Below w.heap.size w w' := by
  have S1 := fun W => Tryz.stringslite_Index_one s 46 W
  rw [hx] at S1
  have S2 : ∀ W, Calls Tryz.prog 100 #[.string s, .string ⟨#[46]⟩] W fun e w' => e = .returned (.tuple #[.string (s.extract 0 i), .string (s.extract (i + 1) s.size), .bool true]) ∧ Below W.heap.size W w' := by
    intro w
    have i1 : (0 : Int) ≤ (i : Int) := by omega
    have i2 : (i : Int) < (s.size : Int) := by omega
    have i3 : (i : Int) ≤ (s.size : Int) := by omega
    have i4 : (i : Int) + 1 ≤ (s.size : Int) := by omega
    clear hx
    go_enter Tryz.func100, Tryz.ntmps100
    go_wp2_with (go_at_call 106; (with_reducible refine Calls.mono (S1 _) ?_); rintro e w' ⟨rfl, rfl⟩)
    go_quiet (fail)
    go_wp2
    refine bodyPost_ret (v := .tuple #[.string (s.extract 0 i), .string (s.extract (i + 1) s.size), .bool true]) (by simp [results, Tryz.results100, go_sem]) rfl ?_
    exact ⟨rfl, below_drewN (Below.refl _ _) _⟩
  go_enter Tryz.func94, Tryz.ntmps94
  go_wp2_with (go_at_call 100; (with_reducible refine Calls.mono (S2 _) ?_); rintro e w' ⟨rfl, hb⟩)
  refine bodyPost_ret (v := .tuple #[.string (s.extract 0 i), .string (s.extract (i + 1) s.size), .bool true]) (by simp [results, Tryz.results94, go_sem]) rfl ?_
  exact ⟨rfl, hb⟩
set_option maxHeartbeats 4000000 in
set_option maxRecDepth 10000 in
theorem isData_any (s : ByteArray) (w : World) (hs : s.size < 140737488355328) : Calls Tryz.prog 91 #[.string s] w fun e w' => e = .returned (.bool (dataB s.data.toList)) ∧ Below w.heap.size w w' := by
  have hl : s.data.toList.length = s.size := by simp
  have U : ∀ (s : ByteArray) (h : s.size < 140737488355328) (W : World), Calls Tryz.prog 93 #[.string s, .int .u8 65, .int .u8 90] W fun e w' => e = .returned (.bool (upperB s.data.toList)) ∧ w' = W := fun s h W => by
    have := isWord_any s 65 90 W h cap_signs
    rw [word_upper] at this
    exact this
  by_cases h1 : s.size ≤ 4096
  · by_cases hI : s.toList = [73, 110, 116]
    · have HE : Hid (dataB s.data.toList = false) := by rw [← ByteArray.toList_eq, hI]; exact int_not_data
      generalize dataB s.data.toList = r at HE
      have hI3 : (s.toList == [73, 110, 116]) = true := by simpa using hI
      clear U
      go_enter Tryz.func91, Tryz.ntmps91
      go_wp2
      go_ret
      exact ⟨ret_bool HE.out.symm, Below.refl _ _⟩
    · have hI2 : s.data.toList ≠ [73, 110, 116] := by rw [← ByteArray.toList_eq]; exact hI
      have hI3 : (s.toList == [73, 110, 116]) = false := by simpa using hI
      rcases data_split s.data.toList with hno | ⟨i, hi, e1, e2⟩
      · have HE : Hid (upperB s.data.toList = dataB s.data.toList) := by
          show _ = dataB s.data.toList
          rw [data_plainly hno]
          simp [hI2, h1]
        have U0 := U s hs
        have C0 := fun W => cut_none s W hno
        generalize upperB s.data.toList = r0 at HE U0
        generalize dataB s.data.toList = r at HE
        clear hI hI2 hno U
        cases r0
        all_goals
          go_enter Tryz.func91, Tryz.ntmps91
          go_wp2_with (first
            | (go_at_call 94; (with_reducible refine Calls.mono (C0 _) ?_); rintro e w' ⟨rfl, rfl⟩)
            | (go_at_call 93; (with_reducible refine Calls.mono (U0 _) ?_); rintro e w' ⟨rfl, rfl⟩))
          go_ret
          exact ⟨ret_bool HE.out, Below.refl _ _⟩
      · have hi' : i < s.size := by omega
        have HE : Hid ((upperB (s.data.toList.take i) && upperB (s.data.toList.drop (i + 1))) = dataB s.data.toList) := by
          show _ = dataB s.data.toList
          rw [data_pointed hi e1 e2]
          simp [hI2, h1]
        have C0 := fun W => cut_some s W i hs hi' (index_some hi e1 e2)
        have U1 := U (s.extract 0 i) (by rw [ByteArray.size_extract]; omega)
        have U2 := U (s.extract (i + 1) s.size) (by rw [ByteArray.size_extract]; omega)
        rw [show (s.extract 0 i).data.toList = s.data.toList.take i by simp [ByteArray.data_extract]] at U1
        rw [show (s.extract (i + 1) s.size).data.toList = s.data.toList.drop (i + 1) by
          rw [ByteArray.data_extract, Array.toList_extract, List.extract_eq_take_drop, List.take_of_length_le]
          rw [List.length_drop]; omega] at U2
        generalize upperB (s.data.toList.take i) = r1 at HE U1
        generalize upperB (s.data.toList.drop (i + 1)) = r2 at HE U2
        generalize dataB s.data.toList = r at HE
        generalize s.extract 0 i = sa at U1 C0
        generalize s.extract (i + 1) s.size = sb at U2 C0
        clear hI hI2 U e1 e2 hi hl hi'
        cases r1 <;> cases r2
        all_goals
          go_enter Tryz.func91, Tryz.ntmps91
          go_wp2_with (first
            | (go_at_call 94; (with_reducible refine Calls.mono (C0 _) ?_); rintro e w' ⟨rfl, hb⟩)
            | (go_at_call_of 93 sa; (with_reducible refine Calls.mono (U1 _) ?_); rintro e w' ⟨rfl, rfl⟩)
            | (go_at_call 93; (with_reducible refine Calls.mono (U2 _) ?_); rintro e w' ⟨rfl, rfl⟩))
          go_ret
          exact ⟨ret_bool HE.out, hb⟩
  · have HE : Hid (dataB s.data.toList = false) := by
      show _ = false
      unfold dataB
      simp [h1]
    generalize dataB s.data.toList = r at HE
    clear U
    go_enter Tryz.func91, Tryz.ntmps91
    go_wp2
    go_ret
    exact ⟨ret_bool HE.out.symm, Below.refl _ _⟩
/-- What formOf answers of a node. -/
def formN (k : Int) (n : List UInt8) (len : Nat) : Int := if okB k n len = true then k else 0
set_option maxHeartbeats 8000000 in
set_option maxRecDepth 10000 in
theorem formOf_any (k : Int) (n : List UInt8) (ad : Option Addr) (len cap : Nat) (w : World) (hn : n.length < 140737488355328) (hl : len < 140737488355328) : Calls Tryz.prog 83 #[.agg #[.int .i64 k, .string ⟨n.toArray⟩, .slice ad len cap]] w fun e w' => e = .returned (.int .i64 (formN k n len)) ∧ Below w.heap.size w w' := by
  have CV := fun W => isVariable_any ⟨n.toArray⟩ W (by show n.toArray.size < _; simpa using hn)
  have CD := fun W => isData_any ⟨n.toArray⟩ W (by show n.toArray.size < _; simpa using hn)
  have HN : Hid ((⟨n.toArray⟩ : ByteArray).toList = n) := bytes_list n
  rw [show (⟨n.toArray⟩ : ByteArray).data.toList = n by simp] at CV CD
  generalize hf : formN k n len = R
  have HO : Hid ((if (if k = 1 then n.isEmpty && decide (len = 0) else if k = 2 then varB n && decide (len = 0) else if k = 3 then n.isEmpty && decide (len = 2) else if k = 4 then dataB n && decide (len ≤ 6) else false) = true then k else 0) = R) := hf
  clear hf
  generalize hs : (⟨n.toArray⟩ : ByteArray) = s at CV CD HN ⊢
  clear hs
  obtain ⟨W, hW, hbW, hsW, b0, b1, b2⟩ := cells_box w (.int .i64 k) (.string s) (.slice ad len cap) 24
  have HW : Hid (Below w.heap.size w W) := hbW
  have HS : Hid (W.heap.size = w.heap.size + 1) := hsW
  have HQ := HO.out
  clear HO
  have HNo := HN.out
  have he : (s.toList == []) = n.isEmpty := by rw [HNo]; cases n <;> rfl
  generalize n.isEmpty = ne at HQ he
  generalize varB n = nv at HQ CV
  generalize dataB n = nd at HQ CD
  clear HNo HN
  have X1 : ∀ w1, Below W.heap.size W w1 → w1.cell? ⟨w.heap.size, 0, none⟩ = some (.int .i64 k) ∧ w1.cell? ⟨w.heap.size, 1, none⟩ = some (.string s) ∧ w1.cell? ⟨w.heap.size, 2, none⟩ = some (.slice ad len cap) := fun w1 hb => by
    have := HS.out
    exact ⟨(hb.cell (by simp; omega)).trans b0, (hb.cell (by simp; omega)).trans b1, (hb.cell (by simp; omega)).trans b2⟩
  have HF : Hid (∀ (v : Int) w1, v = R → Below W.heap.size W w1 → Ending.returned (.int .i64 v) = .returned (.int .i64 R) ∧ Below w.heap.size w w1) := fun v w1 e hb => ⟨by rw [e], HW.out.trans (hb.mono (by have := HS.out; omega))⟩
  clear HW HS hbW hsW
  go_enter Tryz.func83, Tryz.ntmps83
  go_upto_region 1 with fail
  rw [← hW]
  generalize w.heap.size = z at b0 b1 b2 X1 ⊢
  clear hW
  by_cases k1 : k = 1
  · subst k1
    rw [if_pos rfl] at HQ
    cases ne
    · go_wp2
      go_ret
      exact HF.out _ _ (by simpa using HQ) (Below.refl _ _)
    · by_cases h0 : len = 0
      · subst h0
        go_wp2
        go_ret
        exact HF.out _ _ (by simpa using HQ) (Below.refl _ _)
      · have h0' : ¬ (len : Int) = 0 := by omega
        go_wp2
        go_ret
        exact HF.out _ _ (by simpa [h0] using HQ) (Below.refl _ _)
  · rw [if_neg k1] at HQ
    by_cases k2 : k = 2
    · subst k2
      rw [if_pos rfl] at HQ
      cases nv
      · go_wp2_with (go_at_call 90; (with_reducible refine Calls.mono (CV _) ?_); rintro e w' ⟨rfl, rfl⟩)
        go_ret
        exact HF.out _ _ (by simpa using HQ) (Below.refl _ _)
      · by_cases h0 : len = 0
        · subst h0
          go_wp2_with (go_at_call 90; (with_reducible refine Calls.mono (CV _) ?_); rintro e w' ⟨rfl, rfl⟩)
          go_ret
          exact HF.out _ _ (by simpa using HQ) (Below.refl _ _)
        · have h0' : ¬ (len : Int) = 0 := by omega
          go_wp2_with (go_at_call 90; (with_reducible refine Calls.mono (CV _) ?_); rintro e w' ⟨rfl, rfl⟩)
          go_ret
          exact HF.out _ _ (by simpa [h0] using HQ) (Below.refl _ _)
    · rw [if_neg k2] at HQ
      by_cases k3 : k = 3
      · subst k3
        rw [if_pos rfl] at HQ
        cases ne
        · go_wp2
          go_ret
          exact HF.out _ _ (by simpa using HQ) (Below.refl _ _)
        · by_cases h0 : len = 2
          · subst h0
            go_wp2
            go_ret
            exact HF.out _ _ (by simpa using HQ) (Below.refl _ _)
          · have h0' : ¬ (len : Int) = 2 := by omega
            go_wp2
            go_ret
            exact HF.out _ _ (by simpa [h0] using HQ) (Below.refl _ _)
      · rw [if_neg k3] at HQ
        by_cases k4 : k = 4
        · subst k4
          rw [if_pos rfl] at HQ
          cases nd
          · go_wp2_with (go_at_call 91; (with_reducible refine Calls.mono (CD _) ?_); rintro e w' ⟨rfl, hb1⟩; obtain ⟨y0, y1, y2⟩ := X1 _ hb1)
            go_ret
            exact HF.out _ _ (by simpa using HQ) hb1
          · by_cases h0 : len ≤ 6
            · have h0' : (len : Int) ≤ 6 := by omega
              go_wp2_with (go_at_call 91; (with_reducible refine Calls.mono (CD _) ?_); rintro e w' ⟨rfl, hb1⟩; obtain ⟨y0, y1, y2⟩ := X1 _ hb1)
              go_ret
              exact HF.out _ _ (by simpa [h0] using HQ) hb1
            · have h0' : ¬ (len : Int) ≤ 6 := by omega
              go_wp2_with (go_at_call 91; (with_reducible refine Calls.mono (CD _) ?_); rintro e w' ⟨rfl, hb1⟩; obtain ⟨y0, y1, y2⟩ := X1 _ hb1)
              go_ret
              exact HF.out _ _ (by simpa [h0] using HQ) hb1
        · rw [if_neg k4] at HQ
          go_wp2
          go_ret
          exact HF.out _ _ (by simpa using HQ) (Below.refl _ _)
end Go.Proofs.YtgdflaapgfpdeaaGreatDoor
