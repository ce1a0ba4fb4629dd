/- Small functions of package code: isName, isOp, isInteger, goesOn. -/
import Derived.Test.YtlpnegnpejpdkaaGreatDoorMax
import Derived.Test.YtlpnegnpejpdkaaGreatDoorKa
import Derived.WalkKit
import Derived.WalkSpells
import Derived.WalkLawsBesides
import Derived.WalkMore
import Derived.Deep.RegionHeld3
import Derived.Deep.Cut
import Derived.BigQuiet
namespace Go.Proofs.YtlpnegnpejpdkaaGreatDoor
open Go.RowKit

theorem ret_bool {a b : Bool} (h : a = b) : Ending.returned (.bool a) = .returned (.bool b) := by rw [h]
theorem isOp_any (op : Int) (w : World) : Calls Tryz.prog 67 #[.int .i64 op] w fun e w' => e = .returned (.bool (isOpP op)) ∧ w' = w := by
  have HE : Hid ((decide (1 ≤ op) && decide (op ≤ 17)) = isOpP op) := rfl
  generalize isOpP op = r at HE
  go_enter Tryz.func67, Tryz.ntmps67
  by_cases h1 : 1 ≤ op
  · by_cases h2 : op ≤ 17
    · go_wp2
      go_ret
      exact ⟨ret_bool (by rw [← HE.out]; simp [h1, h2]), rfl⟩
    · go_wp2
      go_ret
      exact ⟨ret_bool (by rw [← HE.out]; simp [h1, h2]), rfl⟩
  · go_wp2
    go_ret
    exact ⟨ret_bool (by rw [← HE.out, decide_eq_false (show ¬ 1 ≤ op by omega)]; rfl), rfl⟩
def isIntP (n : Int) : Bool := decide (-4611686018427387904 ≤ n) && decide (n ≤ 4611686018427387903)
theorem isInt_any (n : Int) (w : World) : Calls Tryz.prog 104 #[.int .i64 n] w fun e w' => e = .returned (.bool (isIntP n)) ∧ w' = w := by
  have HE : Hid ((decide (-4611686018427387904 ≤ n) && decide (n ≤ 4611686018427387903)) = isIntP n) := rfl
  generalize isIntP n = r at HE
  go_enter Tryz.func104, Tryz.ntmps104
  by_cases h1 : -4611686018427387904 ≤ n
  · by_cases h2 : n ≤ 4611686018427387903
    · go_wp2
      go_ret
      exact ⟨ret_bool (by rw [← HE.out]; simp [h1, h2]), rfl⟩
    · go_wp2
      go_ret
      exact ⟨ret_bool (by rw [← HE.out]; simp [h1, h2]), rfl⟩
  · go_wp2
    go_ret
    exact ⟨ret_bool (by rw [← HE.out, decide_eq_false (show ¬ -4611686018427387904 ≤ n by omega)]; rfl), rfl⟩
theorem goesOn_any (op : Int) (w : World) : Calls Tryz.prog 123 #[.int .i64 op] w fun e w' => e = .returned (.bool (goesP op)) ∧ w' = w := by
  have HE : Hid ((!(decide (op = 13) || decide (op = 16) || decide (op = 17))) = goesP op) := rfl
  generalize goesP op = r at HE
  go_enter Tryz.func123, Tryz.ntmps123
  by_cases h1 : op = 13
  · have q1 : (op != 13) = false := by simp [h1]
    go_wp2
    go_ret
    exact ⟨ret_bool (by rw [← HE.out]; simp [h1]), rfl⟩
  · have q1 : (op != 13) = true := by simp [h1]
    by_cases h2 : op = 16
    · have q2 : (op != 16) = false := by simp [h2]
      go_wp2
      go_ret
      exact ⟨ret_bool (by rw [← HE.out]; simp [h2]), rfl⟩
    · have q2 : (op != 16) = true := by simp [h2]
      by_cases h3 : op = 17
      · have q3 : (op != 17) = false := by simp [h3]
        go_wp2
        go_ret
        exact ⟨ret_bool (by rw [← HE.out]; simp [h3]), rfl⟩
      · have q3 : (op != 17) = true := by simp [h3]
        go_wp2
        go_ret
        exact ⟨ret_bool (by rw [← HE.out]; simp [h1, h2, h3]), rfl⟩
def signP (b : UInt8) : Bool := decide (32 ≤ b.toNat) && decide (b.toNat ≤ 126)
theorem drop_all {p : UInt8 → Bool} {s : ByteArray} {j : Nat} (h : j < s.size) : (s.data.toList.drop j).all p = (p s[j] && (s.data.toList.drop (j + 1)).all p) := by
  rw [List.drop_eq_getElem_cons (by simpa using h), List.all_cons]
  rfl
set_option maxRecDepth 10000 in
theorem isName_any (n : Byt) (w : World) (hn : n.length < 140737488355328) : Calls Tryz.prog 103 #[.string ⟨n.toArray⟩] w fun e w' => e = .returned (.bool (nameP n)) ∧ w' = w := by
  obtain ⟨s, hs0⟩ : ∃ s : ByteArray, s = ⟨n.toArray⟩ := ⟨_, rfl⟩
  have hsz : s.size = n.length := by rw [hs0]; show n.toArray.size = _; rw [List.size_toArray]
  have hsl : s.data.toList = n := by rw [hs0]
  rw [← hs0]
  generalize hR : nameP n = R
  have HR : Hid (nameP n = R) := hR
  have HA : Hid (nameP n = (decide (1 ≤ s.size) && decide (s.size ≤ 4096) && (s.data.toList.drop 0).all signP)) := by
    show _ = _
    rw [hsz, hsl, List.drop_zero]
    rfl
  clear hR hsl hs0
  have hs : s.size < 140737488355328 := hsz ▸ hn
  clear hsz hn
  go_enter Tryz.func103, Tryz.ntmps103
  by_cases h1 : s.size < 1
  · go_wp2
    go_ret
    exact ⟨ret_bool (by rw [← HR.out, HA.out, decide_eq_false (show ¬ 1 ≤ s.size by omega)]; rfl), rfl⟩
  · by_cases h2 : 4096 < s.size
    · go_wp2
      go_ret
      exact ⟨ret_bool (by rw [← HR.out, HA.out, decide_eq_false (show ¬ s.size ≤ 4096 by omega), Bool.and_false]; rfl), rfl⟩
    · have HB : Hid ((s.data.toList.drop 0).all signP = R) := by
        show _ = _
        rw [← HR.out, HA.out, decide_eq_true (show 1 ≤ s.size by omega), decide_eq_true (show s.size ≤ 4096 by omega)]
        simp
      clear HA HR
      go_upto_region 4 with fail
      go_loopw [14] (fun iv wr => ∃ j : Nat, j ≤ s.size ∧ iv = .int .i64 j ∧ wr = w ∧ Hid ((s.data.toList.drop j).all signP = R)) (fun iv _ => s.size - (intOf iv).toNat)
      case atStart => exact ⟨0, by omega, by go_num, rfl, HB.out⟩
      case round =>
        clear HB
        obtain ⟨j, hj, rfl, rfl, HT⟩ := hrel
        by_cases hlt : j < s.size
        · have HN : Hid ((signP s[j] && (s.data.toList.drop (j + 1)).all signP) = R) := by
            rw [← drop_all hlt]; exact HT.out
          have HS : Hid ((decide (32 ≤ s[j].toNat) && decide (s[j].toNat ≤ 126)) = signP s[j]) := rfl
          clear HT
          generalize signP s[j] = b at HN HS
          by_cases hb : b = true
          · subst hb
            have hs1 : 32 ≤ s[j].toNat ∧ s[j].toNat ≤ 126 := by have := HS.out; simpa using this
            obtain ⟨hs2, hs3⟩ := hs1
            clear HS
            go_wp2
            go_roundw
            case rel => exact ⟨j + 1, by omega, by go_num, by first | rfl | trivial, HN.out⟩
            case measure => simp [intOf]; omega
          · obtain rfl : b = false := by simpa using hb
            have HF : Hid (false = R) := HN.out
            clear HN
            by_cases h3 : s[j].toNat < 32
            · clear HS
              go_wp2
              go_ret
              exact ⟨ret_bool HF.out, rfl⟩
            · have h4 : 126 < s[j].toNat := by
                have := HS.out
                rw [decide_eq_true (show 32 ≤ s[j].toNat by omega), Bool.true_and] at this
                simpa using this
              clear HS
              go_wp2
              go_ret
              exact ⟨ret_bool HF.out, rfl⟩
        · have HE : Hid (true = R) := by
            rw [← HT.out, List.drop_eq_nil_of_le (by simp; omega)]; rfl
          clear HT
          go_wp2
          go_ret
          exact ⟨ret_bool HE.out, rfl⟩
end Go.Proofs.YtlpnegnpejpdkaaGreatDoor
