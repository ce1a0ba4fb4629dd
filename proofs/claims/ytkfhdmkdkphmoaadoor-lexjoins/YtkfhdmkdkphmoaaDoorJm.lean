/- A fault from another place on is the same, moved; faulted of a fault that is just this: true. -/
import Derived.Test.YtkfhdmkdkphmoaaDoorSe
import Derived.Test.YtkfhdmkdkphmoaaDoorAp
namespace Go.Proofs.YtkfhdmkdkphmoaaDoor
open Go.RowKit

theorem lexL_move_err (d : Nat) : ∀ (m : Nat) (l : List UInt8) (k c c' e p : Nat), l.length ≤ m → lexL k l c = .error (e, p) → c + l.length ≤ 20000 → c' + l.length ≤ 20000 → lexL (k + d) l c' = .error (e, p + d) := by
  intro m
  induction m with
  | zero =>
    intro l k c c' e p hm h _ _
    cases l with
    | nil => rw [lexL_nil] at h; cases h
    | cons x r => simp at hm
  | succ m ih =>
    intro l k c c' e p hm h hc hc'
    cases l with
    | nil => rw [lexL_nil] at h; cases h
    | cons x r =>
      have hr : ∀ n, (r.drop n).length ≤ m := by intro n; simp at hm ⊢; omega
      rw [lexL_cons] at h ⊢
      cases hs : stepL (x :: r) with
      | error e' =>
        rw [hs] at h
        cases h
        rfl
      | ok y =>
        obtain ⟨o, n⟩ := y
        rw [hs] at h
        simp at hc hc'
        have hd : (r.drop (n - 1)).length ≤ r.length := by simp
        cases o with
        | none =>
          simp only [] at h ⊢
          have := ih _ (k + n) c c' e p (hr _) h (by omega) (by omega)
          rw [show k + d + n = k + n + d by omega]
          exact this
        | some t =>
          obtain ⟨kd, tx, nm⟩ := t
          simp only [] at h ⊢
          rw [if_neg (by omega)] at h ⊢
          cases hl : lexL (k + n) (r.drop (n - 1)) (c + 1) with
          | ok ts => rw [hl] at h; cases h
          | error z =>
            obtain ⟨e2, p2⟩ := z
            rw [hl] at h
            simp [Except.map] at h
            obtain ⟨rfl, rfl⟩ := h
            have := ih _ (k + n) (c + 1) (c' + 1) e2 p2 (hr _) hl (by omega) (by omega)
            rw [show k + d + n = k + n + d by omega, this]
            rfl

theorem join_ok {a b : ByteArray} {l m : List Tk} (ha : lexL 0 (rest a 0) 0 = .ok l) (hb : lexL 0 (rest b 0) 0 = .ok m) (hs : a.size + b.size ≤ 20000) :
    lexL 0 (rest (a ++ ⟨#[10]⟩ ++ b) 0) 0 = .ok (l ++ m.map (mvT (a.size + 1))) := by
  have h1 := lexL_count _ _ _ _ _ (Nat.le_refl _) ha
  have h2 := lexL_count _ _ _ _ _ (Nat.le_refl _) hb
  have e : rest (a ++ ⟨#[10]⟩ ++ b) 0 = rest a 0 ++ 10 :: rest b 0 := by
    simp [rest]
  rw [rest_len] at h1 h2
  have hm := lexL_move (a.size + 1) _ _ _ _ (0 + l.length) _ (Nat.le_refl _) hb (by omega)
  rw [e, lexL_join _ _ _ _ _ _ (Nat.le_refl _) ha, rest_len, show 0 + (a.size - 0) + 1 = 0 + (a.size + 1) by omega, hm]
  rfl
theorem join_bad {a b : ByteArray} {l : List Tk} {c p : Nat} (ha : lexL 0 (rest a 0) 0 = .ok l) (hb : lexL 0 (rest b 0) 0 = .error (c, p)) (hs : a.size + b.size ≤ 20000) :
    lexL 0 (rest (a ++ ⟨#[10]⟩ ++ b) 0) 0 = .error (c, p + (a.size + 1)) := by
  have h1 := lexL_count _ _ _ _ _ (Nat.le_refl _) ha
  have e : rest (a ++ ⟨#[10]⟩ ++ b) 0 = rest a 0 ++ 10 :: rest b 0 := by
    simp [rest]
  rw [rest_len] at h1
  have hm := lexL_move_err (a.size + 1) _ _ _ _ (0 + l.length) _ _ (Nat.le_refl _) hb (by rw [rest_len]; omega) (by rw [rest_len]; omega)
  rw [e, lexL_join _ _ _ _ _ _ (Nat.le_refl _) ha, rest_len, show 0 + (a.size - 0) + 1 = 0 + (a.size + 1) by omega, hm]
  rfl
theorem lexL_err_at : ∀ (m : Nat) (l : List UInt8) (k c e p : Nat), l.length ≤ m → lexL k l c = .error (e, p) → p ≤ k + l.length := by
  intro m
  induction m with
  | zero =>
    intro l k c e p hm h
    cases l with
    | nil => rw [lexL_nil] at h; cases h
    | cons x r => simp at hm
  | succ m ih =>
    intro l k c e p hm h
    cases l with
    | nil => rw [lexL_nil] at h; cases h
    | cons x r =>
      have hr : ∀ n, (r.drop n).length ≤ m := by intro n; simp at hm ⊢; omega
      rw [lexL_cons] at h
      cases hs : stepL (x :: r) with
      | error e' =>
        rw [hs] at h
        cases h
        omega
      | ok y =>
        obtain ⟨o, n⟩ := y
        have hn := stepL_len (by simp) hs
        rw [hs] at h
        cases o with
        | none =>
          simp only [] at h
          have := ih _ (k + n) c e p (hr _) h
          simp at this hn ⊢
          omega
        | some t0 =>
          obtain ⟨kd, tx, nm⟩ := t0
          simp only [] at h
          split at h
          · cases h
            omega
          · cases hl : lexL (k + n) (r.drop (n - 1)) (c + 1) with
            | ok ts => rw [hl] at h; cases h
            | error z =>
              obtain ⟨e2, p2⟩ := z
              rw [hl] at h
              simp [Except.map] at h
              obtain ⟨rfl, rfl⟩ := h
              have := ih _ (k + n) (c + 1) e2 p2 (hr _) hl
              simp at this hn ⊢
              omega

theorem Tryd.su37 : Tryd.prog.underlying 37 = some (.struct (Tryd.prog.fieldsOf 37)) := by kernel_rfl
theorem Tryd.sh37 : Tryd.prog.stoodInHeld 37 = false := by kernel_rfl
theorem Tryd.eg37 : Tryd.prog.eqGuardType Tryd.prog.depth 37 = false := by kernel_rfl
theorem eq_fault (c p : Int) (w : World) : (binOp .eql 37 (.agg #[.int .i64 c, .int .i64 0, .int .i64 p, .string ⟨#[]⟩]) (.agg #[.int .i64 c, .int .i64 0, .int .i64 p, .string ⟨#[]⟩])).run Tryd.prog w = .ok (.bool true) w := by
  rw [run_eql_struct, run_equalIn_agg w 9999 37 _ _ Tryd.su37 Tryd.sh37]
  simp only [go_sem, Tryd.underlying37]
  simp [go_sem, Tryd.underlying3, Tryd.underlying9, Tryd.underlying24]

set_option maxHeartbeats 1000000 in
theorem faulted_hit (b : Nat) (c p : Int) (w : World) (hc : ¬ c = 0) (hE : Et w) (h0 : 0 < w.heap.size) (hb : w.heap[b]? = some (.cells #[.int .i64 c, .int .i64 0, .int .i64 p, .string ⟨#[]⟩] 37 (0, 0))) :
    Calls Tryd.prog 15 #[.iface 48 (.pointer (some ⟨b, 0, none⟩)), .agg #[.int .i64 c, .int .i64 0, .int .i64 p, .string ⟨#[]⟩]] w fun e w' => e = .returned (.bool true) ∧ Below w.heap.size w w' := by
  have hb' := lt_of_heap hb
  have hA := (Below.refl w.heap.size w).alloc (Nat.le_refl _) (.cells #[.int .i64 c, .int .i64 0, .int .i64 p, .string ⟨#[]⟩] 37)
  have hr : (w.alloc (.cells #[.int .i64 c, .int .i64 0, .int .i64 p, .string ⟨#[]⟩] 37)).heap[w.heap.size]? = some (.cells #[.int .i64 c, .int .i64 0, .int .i64 p, .string ⟨#[]⟩] 37 (0, 0)) := by
    show (w.heap.push _)[w.heap.size]? = _
    simp
  have SN : Calls Tryd.prog 14 #[.iface 48 (.pointer (some ⟨b, 0, none⟩))] (w.alloc (.cells #[.int .i64 c, .int .i64 0, .int .i64 p, .string ⟨#[]⟩] 37)) fun e w' => e = .returned (.tuple #[.agg #[.int .i64 c, .int .i64 0, .int .i64 p, .string ⟨#[]⟩], .bool true]) ∧ Below w.heap.size w w' ∧
      (w'.cell? ⟨w.heap.size, 0, none⟩ = some (.int .i64 c) ∧ w'.cell? ⟨w.heap.size, 1, none⟩ = some (.int .i64 0) ∧ w'.cell? ⟨w.heap.size, 2, none⟩ = some (.int .i64 p) ∧ w'.cell? ⟨w.heap.size, 3, none⟩ = some (.string ⟨#[]⟩)) ∧ w.heap.size < w'.heap.size := by
    refine Calls.mono (seen_fault b c p _ (hE.below hA h0) (by simp) ((hA.block b hb').trans hb)) ?_
    rintro e w' ⟨rfl, hbel⟩
    have hr' := (hbel.block w.heap.size (by simp)).trans hr
    exact ⟨rfl, hA.trans (hbel.mono (by simp)), ⟨(cell_block hr').trans rfl, (cell_block hr').trans rfl, (cell_block hr').trans rfl, (cell_block hr').trans rfl⟩, lt_of_heap hr'⟩
  have EQ := eq_fault c p
  clear hb hE h0 hA hr hb'
  go_enter Tryd.func15, Tryd.ntmps15
  go_wp2_with (go_at_call 14; with_reducible refine Calls.mono SN ?_; rintro e w1 ⟨rfl, hb1, ⟨q0, q1, q2, q3⟩, hlt⟩)
  have d0 := (World.cell?_alloc_lt w1 (.cells #[.int .i64 c, .int .i64 0, .int .i64 p, .string ⟨#[]⟩] 37) ⟨w.heap.size, 0, none⟩ hlt).trans q0
  have d1 := (World.cell?_alloc_lt w1 (.cells #[.int .i64 c, .int .i64 0, .int .i64 p, .string ⟨#[]⟩] 37) ⟨w.heap.size, 1, none⟩ hlt).trans q1
  have d2 := (World.cell?_alloc_lt w1 (.cells #[.int .i64 c, .int .i64 0, .int .i64 p, .string ⟨#[]⟩] 37) ⟨w.heap.size, 2, none⟩ hlt).trans q2
  have d3 := (World.cell?_alloc_lt w1 (.cells #[.int .i64 c, .int .i64 0, .int .i64 p, .string ⟨#[]⟩] 37) ⟨w.heap.size, 3, none⟩ hlt).trans q3
  have hr2 : (w1.alloc (.cells #[.int .i64 c, .int .i64 0, .int .i64 p, .string ⟨#[]⟩] 37)).heap[w1.heap.size]? = some (.cells #[.int .i64 c, .int .i64 0, .int .i64 p, .string ⟨#[]⟩] 37 (0, 0)) := by
    show (w1.heap.push _)[w1.heap.size]? = _
    simp
  have f0 : _ = some _ := (cell_block (i := 0) hr2).trans rfl
  have f1 : _ = some _ := (cell_block (i := 1) hr2).trans rfl
  have f2 : _ = some _ := (cell_block (i := 2) hr2).trans rfl
  have f3 : _ = some _ := (cell_block (i := 3) hr2).trans rfl
  have hbW := hb1.alloc hb1.size (.cells #[.int .i64 c, .int .i64 0, .int .i64 p, .string ⟨#[]⟩] 37)
  clear hr2 q0 q1 q2 q3 hb1 SN
  generalize w1.alloc (.cells #[.int .i64 c, .int .i64 0, .int .i64 p, .string ⟨#[]⟩] 37) = W2 at *
  have hE := Tryd.eg37
  go_quiet (fail)
  go_wp2
  go_ret
  exact ⟨ret_bool (by simp [hc]), below_drewN hbW _⟩
end Go.Proofs.YtkfhdmkdkphmoaaDoor
