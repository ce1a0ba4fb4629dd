/- bytes.Equal, HasPrefix, CutPrefix. -/
import Derived.Test.YtlpnegnpejpdkaaGreatDoorMhx
import Derived.Test.YtlpnegnpejpdkaaGreatDoorKq
import Derived.Lib.SlBytesRow
namespace Go.Proofs.YtlpnegnpejpdkaaGreatDoor
open Go.RowKit

theorem conv_bts {w : World} {v : Value} {l : Byt} (h : Bts w v l) : (convert 40 9 v).run Tryz.prog w = .ok (.string ⟨l.toArray⟩) w := by
  obtain ⟨ad, cap, rfl, hh⟩ := h
  by_cases h0 : l = []
  · subst h0
    show (convert 40 9 (.slice ad 0 cap)).run Tryz.prog w = _
    rw [run_convert_bytes_string w 40 9 5 _ 0 cap (by kernel_rfl) (by kernel_rfl) (by kernel_rfl)]
    cases ad <;> simp [Conv.bytesToString, loadCells, loadCellsFrom]
    all_goals rfl
  · have hp : 0 < l.length := List.length_pos_iff.2 h0
    obtain ⟨g, o, rfl, _, _, _⟩ := hh 0 hp
    have hs : (⟨l.toArray⟩ : ByteArray).size = l.length := by show l.toArray.size = _; simp
    rw [← hs]
    refine Lib.run_convert_whole w 40 5 9 (by kernel_rfl) (by kernel_rfl) (by kernel_rfl) g o ⟨l.toArray⟩ (fun i hi => ?_) cap
    obtain ⟨g', o', e, _, _, h4⟩ := hh i (by rw [hs] at hi; exact hi)
    cases e
    rw [h4]
    have : (⟨l.toArray⟩ : ByteArray)[i] = l[i]'(by rw [hs] at hi; exact hi) := by
      show l.toArray[i] = _
      simp
    rw [this]
theorem Bts.take {w : World} {g o cap : Nat} {l : Byt} (h : Bts w (.slice (some ⟨g, o, none⟩) l.length cap) l) {k : Nat} (hk : k ≤ l.length) : Bts w (.slice (some ⟨g, o, none⟩) k cap) (l.take k) := by
  obtain ⟨ad, c, e, hh⟩ := h
  cases e
  refine ⟨_, cap, by rw [List.length_take, Nat.min_eq_left hk], fun i hi => ?_⟩
  rw [List.length_take] at hi
  obtain ⟨g', o', e, h1, h2, h3⟩ := hh i (by omega)
  cases e
  refine ⟨g, o, rfl, by rw [List.length_take]; omega, h2, ?_⟩
  rw [List.getElem_take]
  exact h3
theorem Bts.drop {w : World} {g o cap : Nat} {l : Byt} (h : Bts w (.slice (some ⟨g, o, none⟩) l.length cap) l) {k o' n : Nat} (hn : n = l.length - k) (ho : o' = o + k ∨ l.length ≤ k) : Bts w (.slice (some ⟨g, o', none⟩) n (cap - k)) (l.drop k) := by
  subst hn
  obtain ⟨ad, c, e, hh⟩ := h
  cases e
  refine ⟨_, cap - k, by rw [List.length_drop], fun i hi => ?_⟩
  rw [List.length_drop] at hi
  obtain ⟨g', o2, e, h1, h2, h3⟩ := hh (k + i) (by omega)
  cases e
  have e2 : o' = o + k := by omega
  refine ⟨g, o', rfl, by rw [List.length_drop]; omega, h2, ?_⟩
  rw [List.getElem_drop, e2, Nat.add_assoc]
  exact h3
theorem bts_at {w : World} {v : Value} {l : Byt} (h : Bts w v l) (h0 : 0 < l.length) : ∃ g o cap, v = .slice (some ⟨g, o, none⟩) l.length cap ∧ l.length ≤ cap ∧ g < w.heap.size := by
  obtain ⟨ad, cap, rfl, hh⟩ := h
  obtain ⟨g, o, rfl, h1, h2, _⟩ := hh 0 h0
  exact ⟨g, o, cap, rfl, h1, h2⟩
set_option maxRecDepth 10000 in
theorem equal_any {w : World} {u v : Value} {a b : Byt} (ha : Bts w u a) (hb : Bts w v b) : Calls Tryz.prog 97 #[u, v] w fun r w' => r = .returned (.bool (a == b)) ∧ w' = w := by
  have c1 := conv_bts ha
  have c2 := conv_bts hb
  obtain ⟨ua, uc, rfl, _⟩ := ha
  obtain ⟨va, vc, rfl, _⟩ := hb
  go_enter Tryz.func97, Tryz.ntmps97
  go_wp2
  go_ret
  exact ⟨rfl, rfl⟩
set_option maxRecDepth 10000 in
theorem sameb_any {w : World} {u v : Value} {a b : Byt} (ha : Bts w u a) (hb : Bts w v b) : Calls Tryz.prog 23 #[u, v] w fun r w' => r = .returned (.bool (a == b)) ∧ w' = w := by
  have c1 := conv_bts ha
  have c2 := conv_bts hb
  obtain ⟨ua, uc, rfl, _⟩ := ha
  obtain ⟨va, vc, rfl, _⟩ := hb
  go_enter Tryz.func23, Tryz.ntmps23
  go_wp2
  go_ret
  exact ⟨rfl, rfl⟩
theorem take_ne {a b : Byt} (h : a.length < b.length) : (a.take b.length == b) = false := by
  rw [beq_eq_false_iff_ne]
  intro e
  have := congrArg List.length e
  rw [List.length_take] at this
  omega
set_option maxRecDepth 10000 in
theorem hasprefix_any {w : World} {u v : Value} {a b : Byt} (ha : Bts w u a) (hb : Bts w v b) (h0 : 0 < b.length) (hl : a.length < 140737488355328) : Calls Tryz.prog 120 #[u, v] w fun r w' => r = .returned (.bool (a.take b.length == b)) ∧ w' = w := by
  by_cases hab : a.length < b.length
  · rw [take_ne hab]
    obtain ⟨ua, uc, rfl, _⟩ := ha
    obtain ⟨va, vc, rfl, _⟩ := hb
    have e1 : ¬ ((a.length : Int) ≥ (b.length : Int)) := by omega
    go_enter Tryz.func120, Tryz.ntmps120
    go_wp2
    go_ret
    exact ⟨rfl, rfl⟩
  · obtain ⟨g, o, cap, rfl, hc, _⟩ := bts_at ha (by omega)
    have ha2 := ha.take (k := b.length) (by omega)
    have CE := equal_any ha2 hb
    obtain ⟨va, vc, rfl, _⟩ := hb
    have e1 : ((a.length : Int) ≥ (b.length : Int)) := by omega
    have e2 : ((b.length : Int) ≤ (cap : Int)) := by omega
    go_enter Tryz.func120, Tryz.ntmps120
    go_wp2_with (go_at_call 97; (with_reducible refine Calls.mono CE ?_); rintro e2 w2 ⟨rfl, hw⟩; obtain rfl := hw.symm; clear hw)
    go_ret
    exact ⟨rfl, rfl⟩
end Go.Proofs.YtlpnegnpejpdkaaGreatDoor
