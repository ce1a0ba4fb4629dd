/- Lex of a text that is too long; alike of two rows that are alike: true. -/
import Derived.Test.YtkfhdmkdkphmoaaDoorLex
import Derived.Test.YtkfhdmkdkphmoaaDoorRowt
import Derived.Test.YtkfhdmkdkphmoaaDoorGt
namespace Go.Proofs.YtkfhdmkdkphmoaaDoor
open Go.RowKit

set_option maxRecDepth 10000 in
theorem lex_long (s : ByteArray) (w : World) (hs : 65536 < s.size) (hm : s.size ≤ maxLen) :
    Calls Tryd.prog 12 #[.string s] w fun e w' => (∃ b, w.heap.size ≤ b ∧ e = .returned (.tuple #[.slice none 0 0, .iface 48 (.pointer (some ⟨b, 0, none⟩))]) ∧ w'.heap[b]? = some (.cells (faultCells 2 (-1)) 37 (0, 0))) ∧ Below w.heap.size w w' := by
  unfold maxLen at hm
  have hs' : (65536 : Int) < (s.size : Int) := by omega
  go_enter Tryd.func12, Tryd.ntmps12
  go_wp2
  go_ret2
  refine ⟨⟨w.heap.size, Nat.le_refl _, rfl, ?_⟩, (Below.refl _ _).alloc (Nat.le_refl _) _⟩
  show (w.heap.push _)[w.heap.size]? = _
  simp [faultCells]

set_option maxHeartbeats 2000000 in
set_option maxRecDepth 10000 in
theorem alike_any (v1 v2 : Value) (ts us : List Tk) (w : World) (h1 : RowAt w v1 ts) (h2 : RowAt w v2 us) (hb : ts.length ≤ 20000) (he : ts.map bareT = us.map bareT) :
    Calls Tryd.prog 13 #[v1, v2] w fun e w' => e = .returned (.bool true) ∧ ∃ n, w' = w.drewN n := by
  have hl := bare_len he
  rcases h1 with ⟨rfl, rfl⟩ | ⟨g, cap, rfl, hcap, hg⟩
  · obtain rfl : us = [] := List.length_eq_zero_iff.1 hl.symm
    rcases h2 with ⟨rfl, _⟩ | ⟨g, cap, rfl, hcap, hg⟩
    all_goals
      go_enter Tryd.func13, Tryd.ntmps13
      go_wp2
      refine wp_loop_rounds 1 ?_
      rw [rounds_succ]
      go_wp2
      go_ret
      exact ⟨rfl, 0, rfl⟩
  · rcases h2 with ⟨rfl, rfl⟩ | ⟨g2, cap2, rfl, hcap2, hg2⟩
    · obtain rfl : ts = [] := List.length_eq_zero_iff.1 hl
      go_enter Tryd.func13, Tryd.ntmps13
      go_wp2
      refine wp_loop_rounds 1 ?_
      rw [rounds_succ]
      go_wp2
      go_ret
      exact ⟨rfl, 0, rfl⟩
    · have HX : Hid (ts.length = us.length) := hl
      have HE : Hid (ts.map bareT = us.map bareT) := he
      have hl' : (us.length : Int) = (ts.length : Int) := by omega
      clear hl he
      go_enter Tryd.func13, Tryd.ntmps13
      go_wp2
      go_loopw [5] (fun i wr => ∃ j n : Nat, j ≤ ts.length ∧ i = .int .i64 j ∧ wr = w.drewN n) (fun i _ => ts.length - (intOf i).toNat)
      case atStart => exact ⟨0, 0, by omega, by go_num, rfl⟩
      case round =>
        obtain ⟨j, n, hj, rfl, rfl⟩ := hrel
        by_cases hlt : j < ts.length
        · have hj2 : j < us.length := by have := HX.out; omega
          obtain ⟨a0, a1, a2, a3⟩ := hg j hlt
          obtain ⟨b0, b1, b2, b3⟩ := hg2 j hj2
          have he : bareT ts[j] = bareT us[j] := by
            have := HE.out
            have h := congrArg (·[j]?) this
            simp [hlt, hj2] at h
            exact h
          simp [bareT] at he
          obtain ⟨e0, e1, e2⟩ := he
          rw [← e0] at b0
          rw [← e1] at b1
          rw [← e2] at b2
          clear hg hg2 e0 e1 e2 a3 b3
          go_wp2
          go_quiet (fail)
          go_wp2
          go_roundw
          case rel => exact ⟨j + 1, _, by omega, by go_num, by first | rfl | rw [World.drewN_drewN]⟩
          case measure => simp [intOf]; omega
        · go_wp2
          go_ret
          exact ⟨rfl, _, rfl⟩

theorem lexL_max : ∀ (m : Nat) (l : List UInt8) (k c : Nat) (ts : List Tk), l.length ≤ m → lexL k l c = .ok ts → c ≤ 20000 → c + ts.length ≤ 20000 := by
  intro m
  induction m with
  | zero =>
    intro l k c ts hm h hc
    cases l with
    | nil => rw [lexL_nil] at h; cases h; simpa using hc
    | cons x r => simp at hm
  | succ m ih =>
    intro l k c ts hm h hc
    cases l with
    | nil => rw [lexL_nil] at h; cases h; simpa using hc
    | cons x r =>
      have hr : ∀ n, (r.drop n).length ≤ m := by intro n; simp at hm ⊢; omega
      rw [lexL_cons] at h
      cases hs : stepL (x :: r) with
      | error e => rw [hs] at h; cases h
      | ok y =>
        obtain ⟨o, n⟩ := y
        rw [hs] at h
        cases o with
        | none => exact ih _ (k + n) c ts (hr _) h hc
        | some t =>
          obtain ⟨kd, tx, nm⟩ := t
          simp only [] at h
          split at h
          · cases h
          · cases hl : lexL (k + n) (r.drop (n - 1)) (c + 1) with
            | error e => rw [hl] at h; cases h
            | ok ts' =>
              rw [hl] at h
              simp [Except.map] at h
              subst h
              have := ih _ (k + n) (c + 1) ts' (hr _) hl (by omega)
              simp
              omega
end Go.Proofs.YtkfhdmkdkphmoaaDoor
