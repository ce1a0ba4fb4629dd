/- Contracts of the ends of comments and of the kind of a run. -/
import Derived.Test.YtkfhdmkdkphmoaaGreatDoorW2
import Derived.Test.YtkfhdmkdkphmoaaGreatDoorScope
namespace Go.Proofs.YtkfhdmkdkphmoaaGreatDoor
open Go.RowKit

/-- How many bytes a comment in braces takes, so many being open; none: it has no end. -/
def blockL : List UInt8 → Nat → Option Nat
  | 123 :: 45 :: r, o => (blockL r (o + 1)).map (· + 2)
  | 45 :: 125 :: r, o => if o ≤ 1 then some 2 else (blockL r (o - 1)).map (· + 2)
  | _ :: r, o => (blockL r o).map (· + 1)
  | [], _ => none

/-- The place behind a comment, or -1. -/
def blockR (s : ByteArray) (j o : Nat) : Int := match blockL (s.data.toList.drop j) o with | some n => (j + n : Nat) | none => -1

theorem drop_two (s : ByteArray) (j : Nat) (h : j + 2 ≤ s.size) : s.data.toList.drop j = s[j] :: s[j + 1] :: s.data.toList.drop (j + 2) := by
  rw [List.drop_eq_getElem_cons (by simp; omega), List.drop_eq_getElem_cons (by simp; omega)]
  rfl
theorem pair_eq (s : ByteArray) (j : Nat) (h : j + 2 ≤ s.size) : (s.extract j (j + 2)).toList = [s[j], s[j + 1]] := by
  rw [ByteArray.toList_eq, ByteArray.data_extract, Array.toList_extract, List.extract_eq_take_drop, drop_two s j h]
  simp
theorem blockR_out (s : ByteArray) (j o : Nat) (h : ¬ j + 2 ≤ s.size) : blockR s j o = -1 := by
  unfold blockR
  by_cases h2 : j < s.size
  · rw [List.drop_eq_getElem_cons (by simp; omega), List.drop_eq_nil_of_le (by simp; omega)]
    unfold blockL
    simp [blockL]
  · rw [List.drop_eq_nil_of_le (by simp; omega)]
    simp [blockL]
theorem blockR_open (s : ByteArray) (j o : Nat) (h : j + 2 ≤ s.size) (h1 : ((s.extract j (j + 2)).toList == [123, 45]) = true) : blockR s j o = blockR s (j + 2) (o + 1) := by
  rw [pair_eq s j h] at h1
  simp at h1
  unfold blockR
  rw [drop_two s j h, h1.1, h1.2, blockL]
  cases blockL (s.data.toList.drop (j + 2)) (o + 1) <;> simp
  omega
theorem blockR_shut (s : ByteArray) (j o : Nat) (h : j + 2 ≤ s.size) (h1 : ((s.extract j (j + 2)).toList == [45, 125]) = true) : blockR s j o = if o ≤ 1 then ((j + 2 : Nat) : Int) else blockR s (j + 2) (o - 1) := by
  rw [pair_eq s j h] at h1
  simp at h1
  unfold blockR
  rw [drop_two s j h, h1.1, h1.2, blockL]
  by_cases ho : o ≤ 1
  · simp [ho]
  · simp only [ho, if_false]
    cases blockL (s.data.toList.drop (j + 2)) (o - 1) <;> simp
    omega
theorem blockR_step (s : ByteArray) (j o : Nat) (h : j + 2 ≤ s.size) (h1 : ((s.extract j (j + 2)).toList == [123, 45]) = false) (h2 : ((s.extract j (j + 2)).toList == [45, 125]) = false) : blockR s j o = blockR s (j + 1) o := by
  rw [pair_eq s j h] at h1 h2
  simp at h1 h2
  unfold blockR
  rw [List.drop_eq_getElem_cons (i := j) (by simp; omega), List.drop_eq_getElem_cons (i := j + 1) (by simp; omega)]
  have e1 : s.data.toList[j]'(by simp; omega) = s[j] := rfl
  have e2 : s.data.toList[j + 1]'(by simp; omega) = s[j + 1] := rfl
  rw [e1, e2]
  have e3 : blockL (s[j] :: s[j + 1] :: s.data.toList.drop (j + 1 + 1)) o = (blockL (s[j + 1] :: s.data.toList.drop (j + 1 + 1)) o).map (· + 1) := by
    generalize s[j] = x at *
    generalize s[j + 1] = y at *
    rw [blockL]
    · intro r hx hy; simp at hy; exact h1 hx hy.1
    · intro r hx hy; simp at hy; exact h2 hx hy.1
  rw [e3]
  cases blockL (s[j + 1] :: s.data.toList.drop (j + 1 + 1)) o <;> simp
  omega

def blkJ (s : ByteArray) (R : Int) (w : World) (l : Nat) (a : Act) (w' : World) : Prop :=
  w' = w ∧ ((l = 0 ∧ ∃ (j o : Nat) (u6 u7 u8 u9 u10 u11 u12 u13 u14 u15 u16 u17 u18 u19 u20 u21 u22 u23 u24 u25 u26 u27 u28 u29 u30 : Value), a = { tmps := #[.string s, .int .i64 (j : Int), undef, undef, .int .i64 0, .int .i64 (o : Int), u6, u7, u8, u9, u10, u11, u12, u13, u14, u15, u16, u17, u18, u19, u20, u21, u22, u23, u24, u25, u26, u27, u28, u29, u30], defers := [] } ∧ j ≤ s.size ∧ o ≤ j ∧ blockR s j o = R) ∨
      (l = 1 ∧ ∃ (j : Nat) (o : Int) (u6 u7 u8 u9 u10 u11 u12 u13 u14 u15 u16 u17 u18 u19 u20 u21 u22 u23 u24 u25 u26 u27 u28 u29 u30 : Value), a = { tmps := #[.string s, .int .i64 (j : Int), undef, undef, .int .i64 0, .int .i64 (o : Int), u6, u7, u8, u9, u10, u11, u12, u13, u14, u15, u16, u17, u18, u19, u20, u21, u22, u23, u24, u25, u26, u27, u28, u29, u30], defers := [] } ∧ j + 2 ≤ s.size ∧ -1 ≤ o ∧ o ≤ j + 2 ∧ (0 < o → blockR s (j + 2) o.toNat = R) ∧ (o ≤ 0 → R = (j + 2 : Nat))))
def blkM (s : ByteArray) (l : Nat) (a : Act) (_ : World) : Nat := 2 * (s.size - (intOf (a.tmps.getD 1 undef)).toNat) - (if l = 0 then 0 else 1)

theorem blkJ_0 {s : ByteArray} {R : Int} {w : World} {x y : Int} {u6 u7 u8 u9 u10 u11 u12 u13 u14 u15 u16 u17 u18 u19 u20 u21 u22 u23 u24 u25 u26 u27 u28 u29 u30 : Value} (j o : Nat) (hx : x = j) (hy : y = o) (h1 : j ≤ s.size) (h2 : o ≤ j) (h3 : blockR s j o = R) : blkJ s R w 0 { tmps := #[.string s, .int .i64 x, undef, undef, .int .i64 0, .int .i64 y, u6, u7, u8, u9, u10, u11, u12, u13, u14, u15, u16, u17, u18, u19, u20, u21, u22, u23, u24, u25, u26, u27, u28, u29, u30], defers := [] } w := by
  subst hx hy
  exact ⟨rfl, Or.inl ⟨rfl, j, o, u6, u7, u8, u9, u10, u11, u12, u13, u14, u15, u16, u17, u18, u19, u20, u21, u22, u23, u24, u25, u26, u27, u28, u29, u30, rfl, h1, h2, h3⟩⟩
theorem blkJ_1 {s : ByteArray} {R : Int} {w : World} {x y : Int} {u6 u7 u8 u9 u10 u11 u12 u13 u14 u15 u16 u17 u18 u19 u20 u21 u22 u23 u24 u25 u26 u27 u28 u29 u30 : Value} (j : Nat) (hx : x = j) (h1 : j + 2 ≤ s.size) (h2 : -1 ≤ y) (h3 : y ≤ j + 2) (h4 : 0 < y → blockR s (j + 2) y.toNat = R) (h5 : y ≤ 0 → R = (j + 2 : Nat)) : blkJ s R w 1 { tmps := #[.string s, .int .i64 x, undef, undef, .int .i64 0, .int .i64 y, u6, u7, u8, u9, u10, u11, u12, u13, u14, u15, u16, u17, u18, u19, u20, u21, u22, u23, u24, u25, u26, u27, u28, u29, u30], defers := [] } w := by
  subst hx
  exact ⟨rfl, Or.inr ⟨rfl, j, y, u6, u7, u8, u9, u10, u11, u12, u13, u14, u15, u16, u17, u18, u19, u20, u21, u22, u23, u24, u25, u26, u27, u28, u29, u30, rfl, h1, h2, h3, h4, h5⟩⟩

set_option maxHeartbeats 1000000 in
theorem blockEnd_any (s : ByteArray) (k : Nat) (w : World) (hs : s.size ≤ 65536) (hk : k ≤ s.size) :
    Calls Tryz.prog 34 #[.string s, .int .i64 k] w fun e w' => e = .returned (.int .i64 (blockR s k 0)) ∧ w' = w := by
  generalize hR : blockR s k 0 = R
  go_enter Tryz.func34, Tryz.ntmps34
  go_wp2_with fail
  refine wp_scope_entry 0 (blkJ s R w) (blkM s) rfl ?_ ?_
  · go_wp2
    exact blkJ_0 k 0 rfl rfl hk (by omega) hR
  · rintro l a w1 ⟨rfl, h⟩
    rcases h with ⟨rfl, j, o, u6, u7, u8, u9, u10, u11, u12, u13, u14, u15, u16, u17, u18, u19, u20, u21, u22, u23, u24, u25, u26, u27, u28, u29, u30, rfl, hj, ho, hb⟩ | ⟨rfl, j, o, u6, u7, u8, u9, u10, u11, u12, u13, u14, u15, u16, u17, u18, u19, u20, u21, u22, u23, u24, u25, u26, u27, u28, u29, u30, rfl, hj, ho1, ho2, hb1, hb2⟩
    · refine ⟨_, rfl, ?_⟩
      by_cases hend : j + 2 ≤ s.size
      · cases h1 : (s.extract j (j + 2)).toList == [123, 45]
        · cases h2 : (s.extract j (j + 2)).toList == [45, 125]
          · have HN : Hid (blockR s (j + 1) o = R) := (blockR_step s j o hend h1 h2).symm.trans hb
            clear hb hR
            go_wp2
            go_step3
            exact And.intro (blkJ_0 (j + 1) o (by omega) rfl (by omega) (by omega) HN.out) (by simp [blkM, intOf]; omega)
          · have HN : Hid (blockR s j o = R) := hb
            have HS : Hid (blockR s j o = if o ≤ 1 then ((j + 2 : Nat) : Int) else blockR s (j + 2) (o - 1)) := blockR_shut s j o hend h2
            clear hb hR
            go_wp2
            go_step3
            refine And.intro (blkJ_1 j rfl hend (by omega) (by omega) (fun h => ?_) (fun h => ?_)) (by simp [blkM, intOf]; omega)
            · have := HS.out
              rw [if_neg (by omega)] at this
              rw [← HN.out, this]
              congr 1
              omega
            · have := HS.out
              rw [if_pos (by omega)] at this
              rw [← HN.out, this]
        · have HN : Hid (blockR s (j + 2) (o + 1) = R) := (blockR_open s j o hend h1).symm.trans hb
          clear hb hR
          go_wp2
          go_step3
          refine And.intro (blkJ_1 j rfl hend (by omega) (by omega) (fun h => ?_) (fun h => ?_)) (by simp [blkM, intOf]; omega)
          · exact HN.out
          · omega
      · have HN : Hid (R = -1) := hb.symm.trans (blockR_out s j o hend)
        clear hb hR
        go_wp2
        refine jumps_ret ?_
        go_ret
        exact ⟨ret_int HN.out.symm, rfl⟩
    · refine ⟨_, rfl, ?_⟩
      have HA : Hid (0 < o → blockR s (j + 2) o.toNat = R) := hb1
      have HB : Hid (o ≤ 0 → R = (j + 2 : Nat)) := hb2
      clear hb1 hb2 hR
      by_cases h0 : 0 < o
      · go_wp2
        go_step3
        exact And.intro (blkJ_0 (j + 2) o.toNat (by omega) (by omega) (by omega) (by omega) (HA.out h0)) (by simp [blkM, intOf]; omega)
      · go_wp2
        refine jumps_ret ?_
        go_ret
        exact ⟨ret_int (by rw [HB.out (by omega)]; rfl), rfl⟩

def lineR (s : ByteArray) (k : Nat) : Nat := (s.data.toList.drop k).idxOf 10 + k
theorem indexByte_idxOf (l : List UInt8) : Lib.indexByte l 10 = if l.idxOf 10 < l.length then ((l.idxOf 10 : Nat) : Int) else -1 := by
  induction l with
  | nil => rfl
  | cons b l ih =>
    unfold Lib.indexByte
    rw [List.idxOf_cons]
    cases hb : b == 10
    · rw [ih]
      by_cases h : List.idxOf 10 l < l.length
      · have h2 : ¬ (((List.idxOf 10 l : Nat) : Int) = -1) := by omega
        simp [h, h2]
      · simp [h]
    · simp
set_option maxHeartbeats 400000 in
theorem lineEnd_any (s : ByteArray) (k : Nat) (w : World) (hs : s.size ≤ maxLen) (hk : k ≤ s.size) :
    Calls Tryz.prog 35 #[.string s, .int .i64 k] w fun e w' => e = .returned (.int .i64 (lineR s k)) ∧ w' = w := by
  unfold maxLen at hs
  have I := Tryz.strings_IndexByte (s.extract k s.size) 10 w
  have hl : ((s.extract k s.size).data.toList).length = s.size - k := by simp
  have he : (s.extract k s.size).data.toList = s.data.toList.drop k := Lib.extract_to_end s k
  rw [show (10 : Int).toNat.toUInt8 = 10 from rfl, he, indexByte_idxOf] at I
  rw [he] at hl
  have hR : lineR s k = (s.data.toList.drop k).idxOf 10 + k := rfl
  rw [hl] at I
  have hle : (s.data.toList.drop k).idxOf 10 ≤ s.size - k := by rw [← hl]; exact List.idxOf_le_length
  generalize (s.data.toList.drop k).idxOf 10 = i at I hR hle
  rw [hR]
  clear hR he hl
  by_cases h : i < s.size - k
  · rw [if_pos h] at I
    go_enter Tryz.func35, Tryz.ntmps35
    go_wp2_with (go_at_call 61; refine Calls.mono I ?_; rintro e w' ⟨rfl, rfl⟩)
    go_ret
    exact ⟨ret_int (by omega), rfl⟩
  · rw [if_neg h] at I
    go_enter Tryz.func35, Tryz.ntmps35
    go_wp2_with (go_at_call 61; refine Calls.mono I ?_; rintro e w' ⟨rfl, rfl⟩)
    go_ret
    exact ⟨ret_int (by omega), rfl⟩

def runKindP (l : List UInt8) : Nat :=
  if (l == [61] || l == [124] || l == [45, 62] || l == [58, 58]) then 11
  else if dashB l then 0
  else if (l.head? == some 58 && !(l == [58])) then 0
  else 5
theorem runKindP_eq {l : List UInt8} {b1 b2 b3 b4 d b5 b6 : Bool} (h1 : (l == [61]) = b1) (h2 : (l == [124]) = b2) (h3 : (l == [45, 62]) = b3) (h4 : (l == [58, 58]) = b4) (hd : dashB l = d) (h5 : (l.head? == some 58) = b5) (h6 : (l == [58]) = b6) :
    runKindP l = if (b1 || b2 || b3 || b4) then 11 else if d then 0 else if (b5 && !b6) then 0 else 5 := by
  subst h1 h2 h3 h4 hd h5 h6; rfl

set_option maxHeartbeats 1000000 in
theorem runKind_any (s : ByteArray) (w : World) (hs : s.size ≤ maxLen) (h0 : 0 < s.size) :
    Calls Tryz.prog 55 #[.string s] w fun e w' => e = .returned (.int .i64 (runKindP s.toList)) ∧ w' = w := by
  have D := isDashes_any s w hs
  unfold maxLen at hs
  have hh : s.toList.head? = some s[0] := by
    rw [ByteArray.toList_eq, List.head?_eq_getElem?, List.getElem?_eq_getElem (by simpa using h0)]; rfl
  have hz : (s.toList.head? == some (58 : UInt8)) = (((s[0].toNat : Nat) : Int) == 58) := by
    rw [hh, Bool.eq_iff_iff]
    simp [← UInt8.toNat_inj]
    omega
  have HK := fun b1 b2 b3 b4 d b5 b6 h1 h2 h3 h4 hd (h5 : (((s[0].toNat : Nat) : Int) == 58) = b5) h6 => runKindP_eq (l := s.toList) (b1 := b1) (b2 := b2) (b3 := b3) (b4 := b4) (d := d) (b5 := b5) (b6 := b6) h1 h2 h3 h4 hd (hz.trans h5) h6
  rw [ByteArray.toList_eq] at HK
  rw [ByteArray.toList_eq]
  generalize hrk : runKindP s.data.toList = r at HK
  generalize hdd : dashB s.data.toList = d at D HK
  rw [← ByteArray.toList_eq] at HK
  clear hz hh hrk hdd
  cases h1 : s.toList == [61]
  · cases h2 : s.toList == [124]
    · cases h3 : s.toList == [45, 62]
      · cases h4 : s.toList == [58, 58]
        · cases h6 : s.toList == [58]
          · cases h5 : (((s[0].toNat : Nat) : Int) == 58)
            · cases d
              · have HR : Hid (r = _) := HK _ _ _ _ _ _ _ h1 h2 h3 h4 rfl h5 h6
                clear HK
                go_enter Tryz.func55, Tryz.ntmps55
                go_wp2_with (go_at_call 31; refine Calls.mono D ?_; rintro e w' ⟨rfl, rfl⟩)
                go_ret
                exact ⟨ret_int (by rw [HR.out]; rfl), rfl⟩
              · have HR : Hid (r = _) := HK _ _ _ _ _ _ _ h1 h2 h3 h4 rfl h5 h6
                clear HK
                go_enter Tryz.func55, Tryz.ntmps55
                go_wp2_with (go_at_call 31; refine Calls.mono D ?_; rintro e w' ⟨rfl, rfl⟩)
                go_ret
                exact ⟨ret_int (by rw [HR.out]; rfl), rfl⟩
            · cases d
              · have HR : Hid (r = _) := HK _ _ _ _ _ _ _ h1 h2 h3 h4 rfl h5 h6
                clear HK
                go_enter Tryz.func55, Tryz.ntmps55
                go_wp2_with (go_at_call 31; refine Calls.mono D ?_; rintro e w' ⟨rfl, rfl⟩)
                go_ret
                exact ⟨ret_int (by rw [HR.out]; rfl), rfl⟩
              · have HR : Hid (r = _) := HK _ _ _ _ _ _ _ h1 h2 h3 h4 rfl h5 h6
                clear HK
                go_enter Tryz.func55, Tryz.ntmps55
                go_wp2_with (go_at_call 31; refine Calls.mono D ?_; rintro e w' ⟨rfl, rfl⟩)
                go_ret
                exact ⟨ret_int (by rw [HR.out]; rfl), rfl⟩
          · cases h5 : (((s[0].toNat : Nat) : Int) == 58)
            · cases d
              · have HR : Hid (r = _) := HK _ _ _ _ _ _ _ h1 h2 h3 h4 rfl h5 h6
                clear HK
                go_enter Tryz.func55, Tryz.ntmps55
                go_wp2_with (go_at_call 31; refine Calls.mono D ?_; rintro e w' ⟨rfl, rfl⟩)
                go_ret
                exact ⟨ret_int (by rw [HR.out]; rfl), rfl⟩
              · have HR : Hid (r = _) := HK _ _ _ _ _ _ _ h1 h2 h3 h4 rfl h5 h6
                clear HK
                go_enter Tryz.func55, Tryz.ntmps55
                go_wp2_with (go_at_call 31; refine Calls.mono D ?_; rintro e w' ⟨rfl, rfl⟩)
                go_ret
                exact ⟨ret_int (by rw [HR.out]; rfl), rfl⟩
            · cases d
              · have HR : Hid (r = _) := HK _ _ _ _ _ _ _ h1 h2 h3 h4 rfl h5 h6
                clear HK
                go_enter Tryz.func55, Tryz.ntmps55
                go_wp2_with (go_at_call 31; refine Calls.mono D ?_; rintro e w' ⟨rfl, rfl⟩)
                go_ret
                exact ⟨ret_int (by rw [HR.out]; rfl), rfl⟩
              · have HR : Hid (r = _) := HK _ _ _ _ _ _ _ h1 h2 h3 h4 rfl h5 h6
                clear HK
                go_enter Tryz.func55, Tryz.ntmps55
                go_wp2_with (go_at_call 31; refine Calls.mono D ?_; rintro e w' ⟨rfl, rfl⟩)
                go_ret
                exact ⟨ret_int (by rw [HR.out]; rfl), rfl⟩
        · have HR : Hid (r = 11) := (HK _ _ _ _ _ _ _ rfl rfl rfl rfl rfl rfl rfl).trans (by simp [h4])
          clear HK
          go_enter Tryz.func55, Tryz.ntmps55
          go_wp2_with (go_at_call 31; refine Calls.mono D ?_; rintro e w' ⟨rfl, rfl⟩)
          go_ret
          exact ⟨ret_int (by rw [HR.out]; rfl), rfl⟩
      · have HR : Hid (r = 11) := (HK _ _ _ _ _ _ _ rfl rfl rfl rfl rfl rfl rfl).trans (by simp [h3])
        clear HK
        go_enter Tryz.func55, Tryz.ntmps55
        go_wp2_with (go_at_call 31; refine Calls.mono D ?_; rintro e w' ⟨rfl, rfl⟩)
        go_ret
        exact ⟨ret_int (by rw [HR.out]; rfl), rfl⟩
    · have HR : Hid (r = 11) := (HK _ _ _ _ _ _ _ rfl rfl rfl rfl rfl rfl rfl).trans (by simp [h2])
      clear HK
      go_enter Tryz.func55, Tryz.ntmps55
      go_wp2_with (go_at_call 31; refine Calls.mono D ?_; rintro e w' ⟨rfl, rfl⟩)
      go_ret
      exact ⟨ret_int (by rw [HR.out]; rfl), rfl⟩
  · have HR : Hid (r = 11) := (HK _ _ _ _ _ _ _ rfl rfl rfl rfl rfl rfl rfl).trans (by simp [h1])
    clear HK
    go_enter Tryz.func55, Tryz.ntmps55
    go_wp2_with (go_at_call 31; refine Calls.mono D ?_; rintro e w' ⟨rfl, rfl⟩)
    go_ret
    exact ⟨ret_int (by rw [HR.out]; rfl), rfl⟩
end Go.Proofs.YtkfhdmkdkphmoaaGreatDoor
