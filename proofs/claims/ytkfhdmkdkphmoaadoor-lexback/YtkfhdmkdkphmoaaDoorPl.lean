/- The contract of plain: a text's bytes without those of which comments' pairs are made. -/
import Derived.Test.YtkfhdmkdkphmoaaDoorW5
namespace Go.Proofs.YtkfhdmkdkphmoaaDoor
open Go.RowKit

def keepB (c : Nat) : Bool := decide (c ≠ 123) && decide (c ≠ 45) && decide (c ≠ 125)
def plainL (l : List UInt8) : List UInt8 := l.filter (fun c => keepB c.toNat)

theorem take_in (s : ByteArray) (j : Nat) (h : j < s.size) : s.data.toList.take (j + 1) = s.data.toList.take j ++ [s[j]] := by
  rw [List.take_succ_eq_append_getElem (by simpa using h)]; rfl
theorem plain_keep (s : ByteArray) (j : Nat) (h : j < s.size) (hk : keepB s[j].toNat = true) : plainL (s.data.toList.take (j + 1)) = plainL (s.data.toList.take j) ++ [s[j]] := by
  rw [take_in s j h]; simp [plainL, List.filter_append, hk]
theorem plain_drop (s : ByteArray) (j : Nat) (h : j < s.size) (hk : keepB s[j].toNat = false) : plainL (s.data.toList.take (j + 1)) = plainL (s.data.toList.take j) := by
  rw [take_in s j h]; simp [plainL, List.filter_append, hk]
theorem plain_len (l : List UInt8) (j : Nat) : (plainL (l.take j)).length ≤ j := by
  have h1 : (plainL (l.take j)).length ≤ (l.take j).length := List.length_filter_le _ _
  have h2 : (l.take j).length ≤ j := List.length_take_le _ _
  omega

set_option maxHeartbeats 2000000 in
set_option maxRecDepth 10000 in
theorem plain_any (s : ByteArray) (w : World) (hs : s.size ≤ 140737488351232) :
    Calls Tryd.prog 17 #[.string s] w fun e w' => e = .returned (.string ⟨(plainL s.data.toList).toArray⟩) ∧ Below w.heap.size w w' := by
  obtain ⟨B, hB⟩ : ∃ B, B = w.heap.size := ⟨_, rfl⟩
  obtain ⟨i0, hi, hz0, hz1, hz2⟩ := info_parts Tryd.info5
  rw [← hB]
  have HB : Hid (B = w.heap.size) := hB
  clear hB
  go_enter Tryd.func17, Tryd.ntmps17
  go_wp2_with fail
  go_loopw [3, 4] (fun v i wr => ∃ (j : Nat) (t : List UInt8), j ≤ s.size ∧ t.length ≤ j ∧ i = .int .i64 j ∧ wr.ownsRow B 5 1 v t.length (t.map byteV) ∧ Below B w wr ∧ Hid (t = plainL (s.data.toList.take j))) (fun _ i _ => s.size - (intOf i).toNat)
  case atStart => exact ⟨0, [], by omega, by simp, by go_num, World.ownsRow_nil _ _ _ _, Below.refl _ _, rfl⟩
  case round =>
    obtain ⟨j, t, hj, ht, rfl, hown, hbel, HT⟩ := hrel
    by_cases hlt : j < s.size
    · have hc := s[j].toNat_lt
      have hsz := hbel.size
      cases hk : keepB s[j].toNat
      · have HN : Hid (t = plainL (s.data.toList.take (j + 1))) := HT.out.trans (plain_drop s j hlt hk).symm
        rcases (by simp [keepB] at hk; omega : s[j].toNat = 123 ∨ s[j].toNat = 45 ∨ s[j].toNat = 125) with h | h | h
        all_goals
          have h' : (s[j].toNat : Int) = s[j].toNat := rfl
          clear h' hk HT
        · have h' : (s[j].toNat : Int) = 123 := by omega
          clear h
          go_wp2
          go_roundw
          case rel => exact ⟨j + 1, t, by omega, by omega, by go_num, hown, hbel, HN⟩
          case measure => simp [intOf]; omega
        · have h' : (s[j].toNat : Int) = 45 := by omega
          clear h
          go_wp2
          go_roundw
          case rel => exact ⟨j + 1, t, by omega, by omega, by go_num, hown, hbel, HN⟩
          case measure => simp [intOf]; omega
        · have h' : (s[j].toNat : Int) = 125 := by omega
          clear h
          go_wp2
          go_roundw
          case rel => exact ⟨j + 1, t, by omega, by omega, by go_num, hown, hbel, HN⟩
          case measure => simp [intOf]; omega
      · have hu : s[j].toNat.toUInt8 = s[j] := by simp
        have HN : Hid (t ++ [s[j].toNat.toUInt8] = plainL (s.data.toList.take (j + 1))) := by
          show t ++ [s[j].toNat.toUInt8] = _
          rw [plain_keep s j hlt hk, ← HT.out, hu]
        have hk3 : s[j].toNat ≠ 123 ∧ s[j].toNat ≠ 45 ∧ s[j].toNat ≠ 125 := by simp [keepB] at hk; omega
        have q1 : (((s[j].toNat : Nat) : Int) != 123) = true := by simp; omega
        have q2 : (((s[j].toNat : Nat) : Int) != 45) = true := by simp; omega
        have q3 : (((s[j].toNat : Nat) : Int) != 125) = true := by simp; omega
        clear hk hk3 hu HT
        go_wp2_with (at_builtin; refine wpList_append_own _ rfl _ _ 46 rfl B 5 i0 (.int .u8 0) 1 1 Tryd.underlying46 hi hz0 hz1 hz2 rfl (by decide) _ _ _ rfl (hown.alloc _) ⟨wr.heap.size, 0, none⟩ 1 1 [.int .u8 (s[j].toNat : Int)] rfl rfl ?c1 ?c2 ?c3 ?c4 ?c5 ?_)
        case c1 =>
          intro j' u hj'
          match j', hj' with
          | 0, hj' => simp at hj'; subst hj'; simp [Addr.add]
        case c2 => intro u hu; simp at hu; subst hu; rfl
        case c3 => unfold maxLen; omega
        case c4 => omega
        case c5 => have := HB.out; simp; omega
        intro v' w1 hown' hgrow _
        have R1 := str_step (b := s[j].toNat) (by omega) HB.out hbel hown hown' hgrow
        clear hown' hgrow hown
        go_wp2
        go_roundw
        case rel => exact ⟨j + 1, t ++ [s[j].toNat.toUInt8], by omega, by simp; omega, by go_num, R1.1, R1.2, HN⟩
        case measure => simp [intOf]; omega
    · have HE : Hid (t = plainL s.data.toList) := HT.out.trans (by rw [List.take_of_length_le (by simp; omega)])
      have hrun := run_string_own t hown
      clear hown HT
      go_wp2
      go_ret
      exact ⟨by rw [← HE.out]; rfl, hbel⟩
end Go.Proofs.YtkfhdmkdkphmoaaDoor
