/- isBig: is there more of something than may be? The document's Name and big. -/
import Derived.Test.YtlpnegnpejpdkaaGreatDoorKb
import Derived.Test.YtlpnegnpejpdkaaGreatDoorKd
namespace Go.Proofs.YtlpnegnpejpdkaaGreatDoor
open Go.RowKit

theorem sum_take {l : List Glb} {i : Nat} (h : i < l.length) : instrsP (l.take (i + 1)) = instrsP (l.take i) + l[i].2.2.length := by
  unfold instrsP
  rw [List.take_succ_eq_append_getElem h, List.map_append, List.sum_append]
  simp
theorem big_one {t : Tab} (h : 2000 < t.1.length ∨ 2000 < t.2.length) : bigP t = true := by
  unfold bigP
  rcases h with h | h
  · rw [decide_eq_true h]; rfl
  · rw [decide_eq_true h]; simp
theorem big_two {t : Tab} {i : Nat} (hi : i < t.2.length) (h : 8000 < t.2[i].2.2.length) : bigP t = true := by
  unfold bigP
  have : t.2.any (fun g => decide (8000 < g.2.2.length)) = true := List.any_eq_true.2 ⟨t.2[i], List.getElem_mem hi, by simpa using h⟩
  rw [this]
  simp
theorem big_end {t : Tab} (h1 : t.1.length ≤ 2000) (h2 : t.2.length ≤ 2000) (h : ∀ i (hi : i < t.2.length), t.2[i].2.2.length ≤ 8000) : bigP t = decide (200000 < instrsP t.2) := by
  unfold bigP
  have : t.2.any (fun g => decide (8000 < g.2.2.length)) = false := List.any_eq_false.2 fun g hg => by
    obtain ⟨i, hi, rfl⟩ := List.getElem_of_mem hg
    have := h i hi
    simp
    omega
  rw [this, decide_eq_false (show ¬ 2000 < t.1.length by omega), decide_eq_false (show ¬ 2000 < t.2.length by omega)]
  rfl
theorem few_sum {l : List Glb} (n : Nat) (h : ∀ i (hi : i < l.length), l[i].2.2.length ≤ n) : ∀ k, k ≤ l.length → instrsP (l.take k) ≤ k * n
  | 0, _ => by simp [instrsP]
  | k + 1, hk => by
    rw [sum_take (by omega)]
    have := few_sum n h k (by omega)
    have := h k (by omega)
    rw [Nat.add_mul]
    omega
set_option maxHeartbeats 8000000 in
set_option maxRecDepth 10000 in
theorem isBig_any {w : World} {S : Nat → Prop} {sv gv : Value} {t : Tab} (hS : ∀ b, S b → b < w.heap.size) (h : TabV w S sv gv t) : Calls Tryz.prog 27 #[.agg #[sv, gv]] w fun r w' => r = .returned (.bool (bigP t)) ∧ Hid (Below w.heap.size w w') := by
  obtain ⟨ad, cap, rfl, _⟩ := shp_at h.shp
  obtain ⟨bd, bcap, rfl, HG⟩ := glb_at h.glb
  obtain ⟨X, hX⟩ : ∃ X, X = w.heap.size := ⟨_, rfl⟩
  obtain ⟨W, hW⟩ : ∃ W, W = w.alloc (.cells #[.slice ad t.1.length cap, .slice bd t.2.length bcap] 25) := ⟨_, rfl⟩
  have hBW : Below w.heap.size w W := by rw [hW]; exact (Below.refl _ _).alloc (Nat.le_refl _) _
  have hXW : W.heap[X]? = some (.cells #[.slice ad t.1.length cap, .slice bd t.2.length bcap] 25 (0, 0)) := by rw [hW, hX]; exact new_blk _ _
  have x0 : W.cell? ⟨X, 0, none⟩ = some (.slice ad t.1.length cap) := heap_cl hXW rfl
  have x1 : W.cell? ⟨X, 1, none⟩ = some (.slice bd t.2.length bcap) := heap_cl hXW rfl
  have HXE : Hid (X = w.heap.size) := hX
  have HBW : Hid (Below w.heap.size w W) := hBW
  have HAT : Hid (∀ i (hi : i < t.2.length), ∃ g o ca n cc, bd = some ⟨g, o, none⟩ ∧ t.2.length ≤ bcap ∧ n = t.2[i].2.2.length ∧ n < 140737488355328 ∧ W.cell? ⟨g, o + i * 3 + 2, none⟩ = some (.slice ca n cc)) := fun i hi => by
    obtain ⟨g, o, cv, e, hZ, hc, _, _, q3, _, q5, q6⟩ := HG i hi
    obtain ⟨ca, cc, e2⟩ := RowK.len q6
    subst e2
    exact ⟨g, o, ca, _, cc, e, hc, rfl, q5, (hBW.cell (p := ⟨g, o + i * 3 + 2, none⟩) (hS _ hZ)).trans q3⟩
  have hls := h.ls
  have hlg := h.lg
  obtain ⟨R, hR⟩ : ∃ R, R = bigP t := ⟨_, rfl⟩
  have HR : Hid (R = bigP t) := hR
  rw [← hR]
  clear h HG hBW hXW hX hR hS
  go_enter Tryz.func27, Tryz.ntmps27
  by_cases h1 : 2000 < t.1.length
  · have HT : Hid (R = true) := by rw [HR.out]; exact big_one (.inl h1)
    go_upto_region 1 with fail
    rw [← hW, ← HXE.out]
    clear hW
    go_wp2
    go_ret
    exact ⟨ret_bool HT.out.symm, HBW.out⟩
  · by_cases h2 : 2000 < t.2.length
    · have HT : Hid (R = true) := by rw [HR.out]; exact big_one (.inr h2)
      go_upto_region 1 with fail
      rw [← hW, ← HXE.out]
      clear hW
      go_wp2
      go_ret
      exact ⟨ret_bool HT.out.symm, HBW.out⟩
    · go_upto_region 1 with fail
      rw [← hW, ← HXE.out]
      clear hW
      go_upto_region 5 with fail
      go_loopw [3, 19] (fun av iv wr => ∃ i a : Nat, i ≤ t.2.length ∧ iv = .int .i64 i ∧ av = .int .i64 a ∧ a ≤ 16000000 ∧ wr = W ∧ Hid (a = instrsP (t.2.take i) ∧ a ≤ i * 8000 ∧ ∀ j (hj : j < t.2.length), j < i → t.2[j].2.2.length ≤ 8000)) (fun _ iv _ => t.2.length - (intOf iv).toNat)
      case atStart => exact ⟨0, 0, by omega, by go_num, by go_num, by omega, rfl, by simp [instrsP], by omega, fun j _ h => by omega⟩
      case round =>
        obtain ⟨i, a, hi, rfl, rfl, ha, rfl, HA⟩ := hrel
        by_cases hil : i < t.2.length
        · obtain ⟨g, o, ca, n, cc, rfl, hbc, hn, hnb, q⟩ := HAT.out i hil
          have HN : Hid (n = t.2[i].2.2.length) := hn
          have i1 : (0 : Int) ≤ (i : Int) := by omega
          have i2 : (i : Int) < (t.2.length : Int) := by omega
          clear hn
          by_cases h8 : 8000 < n
          · have HT : Hid (R = true) := by rw [HR.out]; exact big_two hil (by rw [← HN.out]; exact h8)
            go_wp2
            go_ret
            exact ⟨ret_bool HT.out.symm, HBW.out⟩
          · have HA2 : Hid (a + n = instrsP (t.2.take (i + 1)) ∧ a + n ≤ (i + 1) * 8000 ∧ ∀ j (hj : j < t.2.length), j < i + 1 → t.2[j].2.2.length ≤ 8000) := by
              obtain ⟨a1, a2, a3⟩ := HA.out
              refine ⟨by rw [sum_take (by omega), ← a1, HN.out], by rw [Nat.add_mul]; omega, fun j hj hji => ?_⟩
              rcases Nat.lt_succ_iff_lt_or_eq.1 hji with h9 | rfl
              · exact a3 j hj h9
              · have := HN.out; omega
            have ha2 : a + n ≤ 16000000 := by have := HA2.out.2.1; omega
            clear HA
            go_wp2
            go_roundw
            case rel => exact ⟨i + 1, a + n, hil, by go_num, by go_num, ha2, by first | rfl | trivial, HA2.out⟩
            case measure => simp [intOf]; omega
        · have HT : Hid (R = decide (200000 < a)) := by
            obtain ⟨a1, a2, a3⟩ := HA.out
            show R = _
            rw [HR.out, big_end (by omega) (by omega) (fun j hj => a3 j hj (by omega)), a1, List.take_of_length_le (by omega)]
          clear HA
          go_wp2
          go_ret
          exact ⟨ret_bool (by rw [HT.out]; exact decide_eq_decide.2 (by omega)), HBW.out⟩
end Go.Proofs.YtlpnegnpejpdkaaGreatDoor

namespace Go.Proofs.YtlpnegnpejpdkaaGreatDoor
open Go.RowKit

set_option maxRecDepth 10000 in
theorem name_ref (n : Byt) (w : World) (hn : n.length < 140737488355328) : Calls Tryz.prog 71 #[.string ⟨n.toArray⟩] w fun e w' => e = .returned (.bool (nameP n)) ∧ w' = w := by
  obtain ⟨s, hs0⟩ : ∃ s : ByteArray, s = ⟨n.toArray⟩ := ⟨_, rfl⟩
  have hsz : s.size = n.length := by rw [hs0]; show n.toArray.size = _; rw [List.size_toArray]
  have hsl : s.data.toList = n := by rw [hs0]
  rw [← hs0]
  generalize hR : nameP n = R
  have HA : Hid (R = (decide (1 ≤ s.size) && decide (s.size ≤ 4096) && (s.data.toList.drop 0).all signP)) := by
    show _ = _
    rw [← hR, hsz, hsl, List.drop_zero]
    rfl
  obtain ⟨A, hA⟩ : ∃ A, A = (s.data.toList.drop 0).all signP := ⟨_, rfl⟩
  rw [← hA] at HA
  have HB : Hid ((s.data.toList.drop 0).all signP = A) := hA.symm
  clear hR hsl hs0 hA
  have hs : s.size < 140737488355328 := hsz ▸ hn
  clear hsz hn
  go_enter Tryz.func71, Tryz.ntmps71
  go_upto_region 2 with fail
  go_loopw [3] (fun iv wr => ∃ j : Nat, j ≤ s.size ∧ iv = .int .i64 j ∧ wr = w ∧ Hid ((s.data.toList.drop j).all signP = A)) (fun iv _ => s.size - (intOf iv).toNat)
  case atStart => exact ⟨0, by omega, by go_num, rfl, HB.out⟩
  case round =>
    clear HB
    obtain ⟨j, hj, rfl, rfl, HT⟩ := hrel
    by_cases hlt : j < s.size
    · have HN : Hid ((signP s[j] && (s.data.toList.drop (j + 1)).all signP) = A) := by
        rw [← drop_all hlt]; exact HT.out
      have HS : Hid ((decide (32 ≤ s[j].toNat) && decide (s[j].toNat ≤ 126)) = signP s[j]) := rfl
      clear HT
      generalize signP s[j] = b at HN HS
      by_cases hb : b = true
      · subst hb
        have hs1 : 32 ≤ s[j].toNat ∧ s[j].toNat ≤ 126 := by have := HS.out; simpa using this
        obtain ⟨hs2, hs3⟩ := hs1
        clear HS
        go_wp2
        go_roundw
        case rel => exact ⟨j + 1, by omega, by go_num, by first | rfl | trivial, HN.out⟩
        case measure => simp [intOf]; omega
      · obtain rfl : b = false := by simpa using hb
        have HF : Hid (false = R) := by
          have h1 : false = A := HN.out
          show false = R
          rw [HA.out, ← h1, Bool.and_false]
        clear HN
        by_cases h3 : s[j].toNat < 32
        · clear HS
          go_wp2
          go_ret
          exact ⟨ret_bool HF.out, rfl⟩
        · have h4 : 126 < s[j].toNat := by
            have := HS.out
            rw [decide_eq_true (show 32 ≤ s[j].toNat by omega), Bool.true_and] at this
            simpa using this
          clear HS
          go_wp2
          go_ret
          exact ⟨ret_bool HF.out, rfl⟩
    · have HE : Hid (R = (decide (1 ≤ s.size) && decide (s.size ≤ 4096))) := by
        have h1 : true = A := by rw [← HT.out, List.drop_eq_nil_of_le (by simp; omega)]; rfl
        show R = _
        rw [HA.out, ← h1, Bool.and_true]
      clear HT
      by_cases h1 : 1 ≤ s.size
      · go_wp2
        go_ret
        exact ⟨ret_bool (by rw [HE.out, decide_eq_true h1, Bool.true_and]; exact decide_eq_decide.2 (by omega)), rfl⟩
      · go_wp2
        go_ret
        exact ⟨ret_bool (by rw [HE.out, decide_eq_false h1]; rfl), rfl⟩
set_option maxHeartbeats 8000000 in
set_option maxRecDepth 10000 in
theorem big_ref {w : World} {S : Nat → Prop} {sv gv : Value} {t : Tab} (hS : ∀ b, S b → b < w.heap.size) (h : TabV w S sv gv t) : Calls Tryz.prog 31 #[.agg #[sv, gv]] w fun r w' => r = .returned (.bool (bigP t)) ∧ Hid (Below w.heap.size w w') := by
  obtain ⟨ad, cap, rfl, _⟩ := shp_at h.shp
  obtain ⟨bd, bcap, rfl, HG⟩ := glb_at h.glb
  obtain ⟨X, hX⟩ : ∃ X, X = w.heap.size := ⟨_, rfl⟩
  obtain ⟨W, hW⟩ : ∃ W, W = w.alloc (.cells #[.slice ad t.1.length cap, .slice bd t.2.length bcap] 25) := ⟨_, rfl⟩
  have hBW : Below w.heap.size w W := by rw [hW]; exact (Below.refl _ _).alloc (Nat.le_refl _) _
  have hXW : W.heap[X]? = some (.cells #[.slice ad t.1.length cap, .slice bd t.2.length bcap] 25 (0, 0)) := by rw [hW, hX]; exact new_blk _ _
  have x0 : W.cell? ⟨X, 0, none⟩ = some (.slice ad t.1.length cap) := heap_cl hXW rfl
  have x1 : W.cell? ⟨X, 1, none⟩ = some (.slice bd t.2.length bcap) := heap_cl hXW rfl
  have HXE : Hid (X = w.heap.size) := hX
  have HBW : Hid (Below w.heap.size w W) := hBW
  have HAT : Hid (∀ i (hi : i < t.2.length), ∃ g o ca n cc, bd = some ⟨g, o, none⟩ ∧ t.2.length ≤ bcap ∧ n = t.2[i].2.2.length ∧ n < 140737488355328 ∧ W.cell? ⟨g, o + i * 3 + 2, none⟩ = some (.slice ca n cc)) := fun i hi => by
    obtain ⟨g, o, cv, e, hZ, hc, _, _, q3, _, q5, q6⟩ := HG i hi
    obtain ⟨ca, cc, e2⟩ := RowK.len q6
    subst e2
    exact ⟨g, o, ca, _, cc, e, hc, rfl, q5, (hBW.cell (p := ⟨g, o + i * 3 + 2, none⟩) (hS _ hZ)).trans q3⟩
  have hls := h.ls
  have hlg := h.lg
  obtain ⟨R, hR⟩ : ∃ R, R = bigP t := ⟨_, rfl⟩
  have HR : Hid (R = bigP t) := hR
  rw [← hR]
  clear h HG hBW hXW hX hR hS
  go_enter Tryz.func31, Tryz.ntmps31
  go_upto_region 1 with fail
  rw [← hW, ← HXE.out]
  clear hW
  go_upto_region 3 with fail
  go_loopw [3, 4] (fun av iv wr => ∃ i a : Nat, i ≤ t.2.length ∧ iv = .int .i64 i ∧ av = .int .i64 a ∧ wr = W ∧ Hid (a = instrsP (t.2.take i) ∧ a ≤ i * 8000 ∧ ∀ j (hj : j < t.2.length), j < i → t.2[j].2.2.length ≤ 8000)) (fun _ iv _ => t.2.length - (intOf iv).toNat)
  case atStart => exact ⟨0, 0, by omega, by go_num, by go_num, rfl, by simp [instrsP], by omega, fun j _ h => by omega⟩
  case round =>
    obtain ⟨i, a, hi, rfl, rfl, rfl, HA⟩ := hrel
    have ha9 : a < 4611686018427387904 := by have := HA.out.2.1; omega
    by_cases hil : i < t.2.length
    · obtain ⟨g, o, ca, n, cc, rfl, hbc, hn, hnb, q⟩ := HAT.out i hil
      have HN : Hid (n = t.2[i].2.2.length) := hn
      have i1 : (0 : Int) ≤ (i : Int) := by omega
      have i2 : (i : Int) < (t.2.length : Int) := by omega
      clear hn
      by_cases h8 : 8000 < n
      · have HT : Hid (R = true) := by rw [HR.out]; exact big_two hil (by rw [← HN.out]; exact h8)
        go_wp2
        go_ret
        exact ⟨ret_bool HT.out.symm, HBW.out⟩
      · have HA2 : Hid (a + n = instrsP (t.2.take (i + 1)) ∧ a + n ≤ (i + 1) * 8000 ∧ ∀ j (hj : j < t.2.length), j < i + 1 → t.2[j].2.2.length ≤ 8000) := by
          obtain ⟨a1, a2, a3⟩ := HA.out
          refine ⟨by rw [sum_take (by omega), ← a1, HN.out], by omega, fun j hj hji => ?_⟩
          rcases Nat.lt_succ_iff_lt_or_eq.1 hji with h9 | rfl
          · exact a3 j hj h9
          · have := HN.out; omega
        clear HA
        go_wp2
        go_roundw
        case rel => exact ⟨i + 1, a + n, hil, by go_num, by go_num, by first | rfl | trivial, HA2.out⟩
        case measure => simp [intOf]; omega
    · have HT : Hid (R = (decide (2000 < t.1.length) || decide (2000 < t.2.length) || decide (200000 < a))) := by
        obtain ⟨a1, _, a3⟩ := HA.out
        show R = _
        by_cases h1 : 2000 < t.1.length
        · rw [HR.out, big_one (.inl h1), decide_eq_true h1]; rfl
        · by_cases h2 : 2000 < t.2.length
          · rw [HR.out, big_one (.inr h2), decide_eq_true h2]; simp
          · rw [HR.out, big_end (by omega) (by omega) (fun j hj => a3 j hj (by omega)), a1, List.take_of_length_le (by omega), decide_eq_false h1, decide_eq_false h2]
            rfl
      clear HA
      by_cases h1 : 2000 < t.1.length
      · go_wp2
        go_ret
        exact ⟨ret_bool (by rw [HT.out, decide_eq_true h1]; rfl), HBW.out⟩
      · by_cases h2 : 2000 < t.2.length
        · go_wp2
          go_ret
          exact ⟨ret_bool (by rw [HT.out, decide_eq_true h2]; simp), HBW.out⟩
        · go_wp2
          go_ret
          exact ⟨ret_bool (by rw [HT.out, decide_eq_false h1, decide_eq_false h2, Bool.false_or, Bool.false_or, decide_eq_false (show ¬ 2000 < (t.1.length : Int) by omega), decide_eq_false (show ¬ 2000 < (t.2.length : Int) by omega), Bool.false_or, Bool.false_or]; exact decide_eq_decide.2 (by omega)), HBW.out⟩
end Go.Proofs.YtlpnegnpejpdkaaGreatDoor
