/- The contract of LexAhead: it answers true, whatever it is handed. -/
import Derived.Test.YtkfhdmkdkphmoabDoorLc
import Derived.Test.YtkfhdmkdkphmoabDoorAl
import Derived.Test.YtkfhdmkdkphmoabDoorSe
import Derived.Test.YtkfhdmkdkphmoabDoorAw
namespace Go.Proofs.YtkfhdmkdkphmoabDoor
open Go.RowKit

theorem count_le : ∀ (m : Nat) (l : List UInt8) (k c : Nat) (ts : List Tk), l.length ≤ m → lexL k l c = .ok ts → ts.length ≤ l.length := by
  intro m
  induction m with
  | zero =>
    intro l k c ts hm h
    cases l with
    | nil => rw [lexL_nil] at h; cases h; simp
    | cons x r => simp at hm
  | succ m ih =>
    intro l k c ts hm h
    cases l with
    | nil => rw [lexL_nil] at h; cases h; simp
    | cons x r =>
      have hr : ∀ n, (r.drop n).length ≤ m := by intro n; simp at hm ⊢; omega
      rw [lexL_cons] at h
      cases hs : stepL (x :: r) with
      | error e => rw [hs] at h; cases h
      | ok y =>
        obtain ⟨o, n⟩ := y
        rw [hs] at h
        cases o with
        | none =>
          simp only [] at h
          have := ih _ (k + n) c ts (hr _) h
          simp at this ⊢
          omega
        | some t =>
          obtain ⟨kd, tx, nm⟩ := t
          simp only [] at h
          split at h
          · cases h
          · cases hl : lexL (k + n) (r.drop (n - 1)) (c + 1) with
            | error e => rw [hl] at h; cases h
            | ok ts' =>
              rw [hl] at h
              simp [Except.map] at h
              subst h
              have := ih _ (k + n) (c + 1) ts' (hr _) hl
              simp at this ⊢
              omega

theorem eql_nil (s : ByteArray) (W : World) : (binOp .eql 9 (.string s) (.string ⟨#[]⟩)).run Tryd.prog W = .ok (.bool (s.toList == [])) W := by
  simp [go_sem]
theorem neq_self (s : ByteArray) (W : World) : (binOp .neq 9 (.string s) (.string s)).run Tryd.prog W = .ok (.bool false) W := by
  simp [go_sem]
theorem wrap_small (z : Int) (h0 : 0 ≤ z) (h1 : z ≤ 4294967296) : IntKind.i64.wrap z = z := by
  simp [IntKind.wrap, IntKind.bits, IntKind.signed]
  omega
/-- The place of the token ahead of the one at hand. -/
def lastI (l : List Tk) (j : Nat) : Int := if h : 0 < j ∧ j ≤ l.length then (l[j - 1].2.2.2 : Int) else -1
theorem lastI_lt {l : List Tk} (hp : l.Pairwise (fun x y => x.2.2.2 < y.2.2.2)) {j : Nat} (h : j < l.length) : lastI l j < (l[j].2.2.2 : Int) := by
  unfold lastI
  split
  · rename_i hj
    have := List.pairwise_iff_getElem.1 hp (j - 1) j (by omega) h (by omega)
    omega
  · omega
theorem lastI_next {l : List Tk} {j : Nat} (h : j < l.length) : lastI l (j + 1) = (l[j].2.2.2 : Int) := by
  unfold lastI
  rw [dif_pos ⟨by omega, by omega⟩]
  rfl
theorem stand_extract {a : ByteArray} {t : Tk} (h : StandT 0 (rest a 0) t) (h6 : t.1 ≠ 6) (h7 : t.1 ≠ 7) (h8 : t.1 ≠ 8) : ((⟨t.2.1.toArray⟩ : ByteArray).toList == []) = false ∧ t.2.2.2 + t.2.1.length ≤ a.size ∧ a.extract t.2.2.2 (t.2.2.2 + t.2.1.length) = ⟨t.2.1.toArray⟩ := by
  obtain ⟨h1, h2, h3⟩ := h.2.2 h6 h7 h8
  rw [rest_len] at h2
  refine ⟨?_, by omega, ?_⟩
  · rw [ByteArray.toList_eq]
    simpa using h1
  · rw [extract_rest]
    rw [rest_drop, Nat.zero_add, Nat.sub_zero] at h3
    rw [h3]

theorem rest_extract (a : ByteArray) (p : Nat) : rest (a.extract 0 p) 0 = (rest a 0).take p := by
  simp [rest, ByteArray.data_extract]

set_option maxHeartbeats 4000000 in
set_option maxRecDepth 10000 in
theorem ahead_any (a : ByteArray) (w : World) (hCl : Cl w) (hE : Et w) (h1 : 1 < w.heap.size) (ha : a.size ≤ 140737488351232) :
    Calls Tryd.prog 3 #[.string a] w fun e w' => e = .returned (.bool true) ∧ Below w.heap.size w w' := by
  have AW := awake_any w hCl h1
  have SF := fun W (h : Below w.heap.size w W) c p bb hbb => seen_fault bb c p W (hE.below h (by omega)) (by have := h.size; omega) hbb
  by_cases hbig : 65536 < a.size
  · have LL : ∀ W, Calls Tryd.prog 5 #[.string a] W fun e w' => (∃ b, W.heap.size ≤ b ∧ e = .returned (.tuple #[.slice none 0 0, .iface 39 (.pointer (some ⟨b, 0, none⟩))]) ∧ w'.heap[b]? = some (.cells #[.int .i64 2, .int .i64 0, .int .i64 (-1), .string ⟨#[]⟩] 30 (0, 0))) ∧ Below W.heap.size W w' := fun W => lex_long a W hbig (by unfold maxLen; omega)
    have hbig' : (65536 : Int) < (a.size : Int) := by omega
    clear hCl hE h1 ha hbig
    go_enter Tryd.func3, Tryd.ntmps3
    go_wp2_with (first
      | (go_at_call 4; with_reducible refine Calls.mono AW ?_; rintro e w1 ⟨rfl, hb1⟩)
      | (go_at_call 5; with_reducible refine Calls.mono (LL w1) ?_; rintro e w3 ⟨⟨bb, _, rfl, hbb⟩, hb3⟩; have B3 := hb1.trans (hb3.mono hb1.size))
      | (go_at_call 6; with_reducible refine Calls.mono (SF w3 B3 2 (-1) bb hbb) ?_; rintro e w4 ⟨rfl, hb4⟩; have B4 := B3.trans (hb4.mono B3.size)))
    go_ret
    exact ⟨rfl, B4.alloc B4.size _⟩
  · have hsz : a.size ≤ 65536 := by omega
    clear hbig ha
    cases hla : lexL 0 (rest a 0) 0 with
    | error x =>
      obtain ⟨ca, pa⟩ := x
      have h2 := lexL_err2 hla
      obtain ⟨_, hlt, _, ts, hts⟩ := lexL_ahead _ _ _ _ _ _ (Nat.le_refl _) hla
      rw [rest_len, Nat.zero_add] at hlt
      rw [Nat.sub_zero, ← rest_extract] at hts
      have hc2 : ((ca : Int) == 2) = false := by simp; omega
      have hlt' : pa < a.size := by omega
      have LA : ∀ W, Below w.heap.size w W → Calls Tryd.prog 5 #[.string a] W fun e w' => (∃ b, W.heap.size ≤ b ∧ e = .returned (.tuple #[.slice none 0 0, .iface 39 (.pointer (some ⟨b, 0, none⟩))]) ∧ w'.heap[b]? = some (.cells #[.int .i64 ca, .int .i64 0, .int .i64 pa, .string ⟨#[]⟩] 30 (0, 0))) ∧ Below W.heap.size W w' := fun W h => lex_bad a W hsz (hCl.below h h1) (Nat.lt_of_lt_of_le h1 h.size) hla
      have LP := fun W (h : Below w.heap.size w W) => lex_ok (a.extract 0 pa) W (by rw [ByteArray.size_extract]; omega) (hCl.below h h1) (Nat.lt_of_lt_of_le h1 h.size) hts
      clear hla hts h2 hlt hCl hE h1
      go_enter Tryd.func3, Tryd.ntmps3
      go_wp2_with (first
        | (go_at_call 4; with_reducible refine Calls.mono AW ?_; rintro e w1 ⟨rfl, hb1⟩)
        | (go_at_call 5; with_reducible refine Calls.mono (LA w1 hb1) ?_; rintro e w3 ⟨⟨bb, _, rfl, hbb⟩, hb3⟩; have B3 := hb1.trans (hb3.mono hb1.size))
        | (go_at_call 6; with_reducible refine Calls.mono (SF w3 B3 ca pa bb hbb) ?_; rintro e w4 ⟨rfl, hb4⟩; have B4 := B3.trans (hb4.mono B3.size))
        | (go_at_call 5; (with_reducible refine Calls.mono (LP _ (B4.alloc B4.size _)) ?_); rintro e w5 ⟨⟨tk, rfl, _⟩, hb5⟩; have q1 : w5.cell? ⟨w4.heap.size, 1, none⟩ = some (.int .i64 0) := (hb5.cell (p := ⟨w4.heap.size, 1, none⟩) (by simp)).trans (by simp); have q3 : w5.cell? ⟨w4.heap.size, 3, none⟩ = some (.string ⟨#[]⟩) := (hb5.cell (p := ⟨w4.heap.size, 3, none⟩) (by simp)).trans (by simp)))
      go_ret
      exact ⟨rfl, (B4.alloc B4.size _).trans (hb5.mono (B4.alloc B4.size _).size)⟩
    | ok l =>
      have LA := fun W (h : Below w.heap.size w W) => lex_ok a W hsz (hCl.below h h1) (Nat.lt_of_lt_of_le h1 h.size) hla
      obtain ⟨hst, hpw⟩ := lexL_stand _ _ _ _ _ (Nat.le_refl _) hla
      have hll : l.length ≤ 65536 := by
        have := count_le _ _ _ _ _ (Nat.le_refl _) hla
        rw [rest_len] at this
        omega
      have HS : Hid (∀ t ∈ l, StandT 0 (rest a 0) t) := hst
      have HP : Hid (l.Pairwise (fun x y => x.2.2.2 < y.2.2.2)) := hpw
      have SN := seen_nil
      clear hst hpw hla hCl hE h1
      go_enter Tryd.func3, Tryd.ntmps3
      go_wp2_with (first
        | (go_at_call 4; with_reducible refine Calls.mono AW ?_; rintro e w1 ⟨rfl, hb1⟩)
        | (go_at_call 5; with_reducible refine Calls.mono (LA w1 hb1) ?_; rintro e w3 ⟨⟨tl, rfl, OL⟩, hb3⟩; have B3 := hb1.trans (hb3.mono hb1.size))
        | (go_at_call 6; with_reducible refine Calls.mono (SN w3) ?_; rintro e w4 ⟨rfl, hb4⟩; have B4 := B3.trans (hb4.mono B3.size); have OL4 := own_below OL hb4))
      rcases RowAt.of_own (OL4.alloc (.cells #[.int .i64 0, .int .i64 0, .int .i64 0, .string ⟨#[]⟩] 30)) with ⟨rfl, rfl⟩ | ⟨g, cap, rfl, hcap, hg⟩
      · refine wp_loop_rounds 1 ?_
        rw [rounds_succ]
        go_wp2
        go_ret
        exact ⟨rfl, B4.alloc B4.size _⟩
      · have hgl : g < (w4.alloc (.cells #[.int .i64 0, .int .i64 0, .int .i64 0, .string ⟨#[]⟩] 30)).heap.size := ((OL4.alloc _).lt g rfl).2
        have hB := B4.alloc B4.size (.cells #[.int .i64 0, .int .i64 0, .int .i64 0, .string ⟨#[]⟩] 30)
        clear OL OL4 hb1 hb3 hb4 B3 B4 AW SF LA SN
        generalize w4.alloc (.cells #[.int .i64 0, .int .i64 0, .int .i64 0, .string ⟨#[]⟩] 30) = W0 at *
        go_loopw [10, 11] (fun la i wr => ∃ j : Nat, j ≤ l.length ∧ i = .int .i64 j ∧ la = .int .i64 (lastI l j) ∧ Below W0.heap.size W0 wr) (fun _ i _ => l.length - (intOf i).toNat)
        case atStart => exact ⟨0, by omega, by go_num, rfl, Below.refl _ _⟩
        case round =>
          obtain ⟨j, hj, rfl, rfl, hbel⟩ := hrel
          by_cases hlt : j < l.length
          · obtain ⟨a0, a1, a2, a3⟩ := hg j hlt
            rw [← hbel.cell (p := ⟨g, j * 4, none⟩) hgl] at a0
            rw [← hbel.cell (p := ⟨g, j * 4 + 1, none⟩) hgl] at a1
            rw [← hbel.cell (p := ⟨g, j * 4 + 2, none⟩) hgl] at a2
            rw [← hbel.cell (p := ⟨g, j * 4 + 3, none⟩) hgl] at a3
            have hst := HS.out l[j] (List.getElem_mem hlt)
            have hla := lastI_lt HP.out hlt
            have HN : Hid (lastI l (j + 1) = (l[j].2.2.2 : Int)) := lastI_next hlt
            have hat : l[j].2.2.2 < a.size := by have := hst.2.1; rw [rest_len] at this; omega
            have ng : ¬ g = wr.heap.size := by have := hbel.size; omega
            have hBr := hbel.size
            generalize lastI l j = la at hla
            by_cases h8 : l[j].1 = 8
            · have k8 : (l[j].1 : Int) = 8 := by omega
              clear hg hst h8
              go_wp2
              go_quiet (fail)
              go_wp2
              go_roundw
              case rel => exact ⟨j + 1, by omega, by go_num, by rw [HN.out], below_drewN (hbel.alloc hBr _) _⟩
              case measure => simp [intOf]; omega
            · have k8 : ((l[j].1 : Int) == 8) = false := by simp; omega
              by_cases h7 : l[j].1 = 7
              · have k7 : (l[j].1 : Int) = 7 := by omega
                clear hg hst h8 h7 k8
                go_wp2
                go_quiet (fail)
                go_wp2
                go_roundw
                case rel => exact ⟨j + 1, by omega, by go_num, by rw [HN.out], below_drewN (hbel.alloc hBr _) _⟩
                case measure => simp [intOf]; omega
              · have k7 : ((l[j].1 : Int) == 7) = false := by simp; omega
                by_cases h6 : l[j].1 = 6
                · have k6 : (l[j].1 : Int) = 6 := by omega
                  clear hg hst h8 h7 h6 k8 k7
                  go_wp2
                  go_quiet (fail)
                  go_wp2
                  go_roundw
                  case rel => exact ⟨j + 1, by omega, by go_num, by rw [HN.out], below_drewN (hbel.alloc hBr _) _⟩
                  case measure => simp [intOf]; omega
                · have k6 : ((l[j].1 : Int) == 6) = false := by simp; omega
                  obtain ⟨e1, e2, e3⟩ := stand_extract hst h6 h7 h8
                  have hus : (⟨l[j].2.1.toArray⟩ : ByteArray).size = l[j].2.1.length := by show l[j].2.1.toArray.size = _; simp
                  have hq1 : ∀ W, (binOp .eql 9 (.string ⟨l[j].2.1.toArray⟩) (.string ⟨#[]⟩)).run Tryd.prog W = .ok (.bool false) W := fun W => by rw [eql_nil, e1]
                  have hq2 := neq_self
                  have hne : l[j].2.1 ≠ [] := fun h0 => by rw [h0] at e1; exact absurd e1 (by rw [ByteArray.toList_eq]; decide)
                  have e1a : (l[j].2.1 == []) = false := by simpa using hne
                  have e1b : l[j].2.1.isEmpty = false := by simpa using hne
                  have hwr : IntKind.i64.wrap ((l[j].2.2.2 : Int) + (l[j].2.1.length : Int)) = (l[j].2.2.2 : Int) + (l[j].2.1.length : Int) := wrap_small _ (by omega) (by omega)
                  have hcmp : decide ((a.size : Int) < (l[j].2.2.2 : Int) + (l[j].2.1.length : Int)) = false := decide_eq_false (by omega)
                  have hb1 : (l[j].2.2.2 : Int) + (l[j].2.1.length : Int) ≤ (a.size : Int) := by omega
                  have hb2 : (l[j].2.2.2 : Int) ≤ (l[j].2.2.2 : Int) + (l[j].2.1.length : Int) := by omega
                  have hb3 : (0 : Int) ≤ (l[j].2.2.2 : Int) + (l[j].2.1.length : Int) := by omega
                  have htn : ((l[j].2.2.2 : Int) + (l[j].2.1.length : Int)).toNat = l[j].2.2.2 + l[j].2.1.length := by omega
                  clear hg hst h8 h7 h6
                  go_wp2
                  go_quiet (fail)
                  go_wp2
                  go_roundw
                  case rel => exact ⟨j + 1, by omega, by go_num, by rw [HN.out], below_drewN (hbel.alloc hBr _) _⟩
                  case measure => simp [intOf]; omega
          · go_wp2
            go_ret
            exact ⟨rfl, hB.trans (hbel.mono hB.size)⟩
end Go.Proofs.YtkfhdmkdkphmoabDoor
