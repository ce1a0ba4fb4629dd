/- Rows of tokens in memory; the contract of same: are two rows one? -/
import Derived.Test.YtkfhdmkdkphmoaaGreatDoorCutW
import Derived.Deep.QuietTactic
import Derived.BigQuiet
namespace Go.Proofs.YtkfhdmkdkphmoaaGreatDoor
open Go.RowKit

/-- A row of tokens that lies in memory. -/
def RowAt (w : World) (v : Value) (ts : List Tk) : Prop :=
  (v = .slice none 0 0 ∧ ts = []) ∨ ∃ g cap, v = .slice (some ⟨g, 0, none⟩) ts.length cap ∧ ts.length ≤ cap ∧ ∀ j (h : j < ts.length), w.cell? ⟨g, j * 4, none⟩ = some (.int .i64 ts[j].1) ∧ w.cell? ⟨g, j * 4 + 1, none⟩ = some (.string ⟨ts[j].2.1.toArray⟩) ∧ w.cell? ⟨g, j * 4 + 2, none⟩ = some (.int .i64 ts[j].2.2.1) ∧ w.cell? ⟨g, j * 4 + 3, none⟩ = some (.int .i64 ts[j].2.2.2)

theorem rowCells_get (ts : List Tk) (j i : Nat) (hj : j < ts.length) (hi : i < 4) : (rowCells ts)[j * 4 + i]? = (tokCells ts[j])[i]? := by
  induction ts generalizing j with
  | nil => simp at hj
  | cons t r ih =>
    cases j with
    | zero =>
      simp [rowCells, tokCells]
      match i, hi with
      | 0, _ => rfl
      | 1, _ => rfl
      | 2, _ => rfl
      | 3, _ => rfl
    | succ j =>
      have hj' : j < r.length := by simpa using hj
      have e : rowCells (t :: r) = tokCells t ++ rowCells r := by simp [rowCells]
      rw [e, List.getElem?_append_right (by simp [tokCells]; omega)]
      have e2 : (j + 1) * 4 + i - (tokCells t).length = j * 4 + i := by simp [tokCells]; omega
      rw [e2, ih j hj']
      rfl

theorem RowAt.of_own {w : World} {B : Nat} {v : Value} {ts : List Tk} (h : w.ownsRow B 39 4 v ts.length (rowCells ts)) : RowAt w v ts := by
  rcases id h.2 with ⟨rfl, h0⟩ | ⟨g, cap, cur, rfl, _, _, hcap, _⟩
  · exact .inl ⟨rfl, List.length_eq_zero_iff.1 h0⟩
  · refine .inr ⟨g, cap, rfl, hcap, fun j hj => ?_⟩
    have hc : ∀ i, i < 4 → ∀ u, (tokCells ts[j])[i]? = some u → w.cell? ⟨g, j * 4 + i, none⟩ = some u := by
      intro i hi u hu
      rw [h.cellAt (j * 4 + i) (by omega), rowCells_get ts j i hj hi]
      exact hu
    exact ⟨hc 0 (by omega) _ rfl, hc 1 (by omega) _ rfl, hc 2 (by omega) _ rfl, hc 3 (by omega) _ rfl⟩

theorem Tryz.su39 : Tryz.prog.underlying 39 = some (.struct (Tryz.prog.fieldsOf 39)) := by kernel_rfl
theorem Tryz.sh39 : Tryz.prog.stoodInHeld 39 = false := by kernel_rfl
theorem Tryz.eg39 : Tryz.prog.eqGuardType Tryz.prog.depth 39 = false := by kernel_rfl

theorem neq_tok (t u : Tk) (w : World) : (binOp .neq 39 (.agg #[.int .i64 t.1, .string ⟨t.2.1.toArray⟩, .int .i64 t.2.2.1, .int .i64 t.2.2.2]) (.agg #[.int .i64 u.1, .string ⟨u.2.1.toArray⟩, .int .i64 u.2.2.1, .int .i64 u.2.2.2])).run Tryz.prog w = .ok (.bool (decide (¬ t = u))) w := by
  rw [run_neq_struct, run_equalIn_agg w 9999 39 _ _ Tryz.su39 Tryz.sh39]
  simp only [go_sem, Tryz.underlying39]
  simp [go_sem, Tryz.underlying3, Tryz.underlying9]
  obtain ⟨a, b, c, d⟩ := t
  obtain ⟨a', b', c', d'⟩ := u
  by_cases h1 : a = a'
  · by_cases h2 : b = b'
    · by_cases h3 : c = c'
      · by_cases h4 : d = d'
        · subst h1 h2 h3 h4; simp
        · simp [h1, h2, h3, h4]; omega
      · simp [h1, h2, h3]; omega
    · simp [h1, h2]
  · simp [h1]; omega

set_option maxHeartbeats 2000000 in
set_option maxRecDepth 10000 in
theorem same_any (v1 v2 : Value) (ts us : List Tk) (w : World) (h1 : RowAt w v1 ts) (h2 : RowAt w v2 us) (hb : ts.length ≤ 20000) (hb2 : us.length ≤ 20000) :
    Calls Tryz.prog 8 #[v1, v2] w fun e w' => e = .returned (.bool (decide (ts = us))) ∧ ∃ n, w' = w.drewN n := by
  by_cases hl : ts.length = us.length
  · rcases h1 with ⟨rfl, rfl⟩ | ⟨g, cap, rfl, hcap, hg⟩
    · obtain rfl : us = [] := List.length_eq_zero_iff.1 hl.symm
      rcases h2 with ⟨rfl, _⟩ | ⟨g, cap, rfl, hcap, hg⟩
      all_goals
        go_enter Tryz.func8, Tryz.ntmps8
        go_wp2
        refine wp_loop_rounds 1 ?_
        rw [rounds_succ]
        go_wp2
        go_ret
        exact ⟨rfl, 0, rfl⟩
    · rcases h2 with ⟨rfl, rfl⟩ | ⟨g2, cap2, rfl, hcap2, hg2⟩
      · obtain rfl : ts = [] := List.length_eq_zero_iff.1 hl
        go_enter Tryz.func8, Tryz.ntmps8
        go_wp2
        refine wp_loop_rounds 1 ?_
        rw [rounds_succ]
        go_wp2
        go_ret
        exact ⟨rfl, 0, rfl⟩
      · have HX : Hid (ts.length = us.length) := hl
        have hl' : (us.length : Int) = (ts.length : Int) := by omega
        clear hl
        go_enter Tryz.func8, Tryz.ntmps8
        go_wp2
        go_loopw [5] (fun i wr => ∃ j n : Nat, j ≤ ts.length ∧ i = .int .i64 j ∧ wr = w.drewN n ∧ Hid (ts.take j = us.take j)) (fun i _ => ts.length - (intOf i).toNat)
        case atStart => exact ⟨0, 0, by omega, by go_num, rfl, rfl⟩
        case round =>
          obtain ⟨j, n, hj, rfl, rfl, HT⟩ := hrel
          by_cases hlt : j < ts.length
          · obtain ⟨a0, a1, a2, a3⟩ := hg j hlt
            obtain ⟨b0, b1, b2, b3⟩ := hg2 j (by have := HX.out; omega)
            have hj2 : j < us.length := by have := HX.out; omega
            have hE := Tryz.eg39
            clear hg hg2
            by_cases he : ts[j] = us[j]
            · have hN : ∀ W, (binOp .neq 39 (.agg #[.int .i64 ts[j].1, .string ⟨ts[j].2.1.toArray⟩, .int .i64 ts[j].2.2.1, .int .i64 ts[j].2.2.2]) (.agg #[.int .i64 us[j].1, .string ⟨us[j].2.1.toArray⟩, .int .i64 us[j].2.2.1, .int .i64 us[j].2.2.2])).run Tryz.prog W = .ok (.bool false) W := fun W => by rw [neq_tok]; simp [he]
              have HN : Hid (ts.take (j + 1) = us.take (j + 1)) := by
                show ts.take (j + 1) = us.take (j + 1)
                rw [List.take_succ_eq_append_getElem hlt, List.take_succ_eq_append_getElem hj2, HT.out, he]
              clear he
              go_wp2
              go_quiet (fail)
              go_wp2
              go_roundw
              case rel => exact ⟨j + 1, _, by omega, by go_num, by first | rfl | rw [World.drewN_drewN], HN⟩
              case measure => simp [intOf]; omega
            · have hN : ∀ W, (binOp .neq 39 (.agg #[.int .i64 ts[j].1, .string ⟨ts[j].2.1.toArray⟩, .int .i64 ts[j].2.2.1, .int .i64 ts[j].2.2.2]) (.agg #[.int .i64 us[j].1, .string ⟨us[j].2.1.toArray⟩, .int .i64 us[j].2.2.1, .int .i64 us[j].2.2.2])).run Tryz.prog W = .ok (.bool true) W := fun W => by rw [neq_tok]; simp [he]
              have HE : Hid (decide (ts = us) = false) := by
                show decide (ts = us) = false
                rw [decide_eq_false_iff_not]
                intro h
                subst h
                exact he rfl
              clear he
              go_wp2
              go_quiet (fail)
              go_wp2
              go_ret
              exact ⟨ret_bool HE.out.symm, _, by first | rfl | rw [World.drewN_drewN]⟩
          · have HE : Hid (decide (ts = us) = true) := by
              show decide (ts = us) = true
              rw [decide_eq_true_iff]
              have := HT.out
              rwa [List.take_of_length_le (by omega), List.take_of_length_le (by have := HX.out; omega)] at this
            go_wp2
            go_ret
            exact ⟨ret_bool HE.out.symm, _, rfl⟩
  · have HE : Hid (decide (ts = us) = false) := by
      show decide (ts = us) = false
      rw [decide_eq_false_iff_not]
      intro h
      exact hl (by rw [h])
    have hl' : (((ts.length : Nat) : Int) != ((us.length : Nat) : Int)) = true := by simp; omega
    obtain ⟨ad1, cap1, rfl⟩ : ∃ ad cap, v1 = .slice ad ts.length cap := by
      rcases h1 with ⟨rfl, rfl⟩ | ⟨g, cap, rfl, _⟩
      · exact ⟨none, 0, rfl⟩
      · exact ⟨_, _, rfl⟩
    obtain ⟨ad2, cap2, rfl⟩ : ∃ ad cap, v2 = .slice ad us.length cap := by
      rcases h2 with ⟨rfl, rfl⟩ | ⟨g, cap, rfl, _⟩
      · exact ⟨none, 0, rfl⟩
      · exact ⟨_, _, rfl⟩
    clear h1 h2 hl
    go_enter Tryz.func8, Tryz.ntmps8
    go_wp2
    go_ret
    exact ⟨ret_bool HE.out.symm, 0, rfl⟩
end Go.Proofs.YtkfhdmkdkphmoaaGreatDoor
