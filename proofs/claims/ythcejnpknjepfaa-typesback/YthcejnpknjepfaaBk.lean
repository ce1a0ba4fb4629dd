/- TypesBack answers true, whatever type and text it is handed, if Print, Read and awake answer as the document says. -/
import Derived.Test.YthcejnpknjepfaaPl
import Derived.Test.YthcejnpknjepfaaSa
import Derived.Test.YthcejnpknjepfaaTl
namespace Go.Proofs.Ythcejnpknjepfaa
open Go.RowKit

/-- The type that is nothing. -/
abbrev zeroT : Value := .agg #[.int .i64 0, .string ⟨#[]⟩, .slice none 0 0]
theorem zero_at (w : World) (B : Nat) (ad : Option Addr) (cap : Nat) : TyAt w B 1 (.agg #[.int .i64 0, .string ⟨#[]⟩, .slice ad 0 cap]) ((0, []), []) := ⟨.slice ad 0 cap, rfl, by simp, by simp, .inl ⟨rfl, ad, cap, rfl⟩⟩
/-- What Read answers of a text. -/
def ReadPost (w : World) (l : List UInt8) (r : Ending) (w' : World) : Prop :=
  Below w.heap.size w w' ∧ ∃ x e, r = .returned (.tuple #[x, .int .i64 e]) ∧
    ((e = 0 ∧ l.length ≤ 65536 ∧ ∃ d t, formB d t = true ∧ textT d t = l ∧ (flat d t).length ≤ 500 ∧ TyAt w' w'.heap.size d x t) ∨
     (e ≠ 0 ∧ (∃ ad cap, x = .agg #[.int .i64 0, .string ⟨#[]⟩, .slice ad 0 cap]) ∧ ((65536 < l.length ∧ e = 2) ∨ (l.length ≤ 65536 ∧ (∃ d t, formB d t = true ∧ textT d t = l ∧ 500 < (flat d t).length) ∧ e = 4) ∨ (l.length ≤ 65536 ∧ (∀ d t, formB d t = true → textT d t ≠ l) ∧ e = 52))))
/-- A function that reads as the document says. -/
def Reads (f : Nat) : Prop := ∀ (l : List UInt8) (w : World), l.length < 140737488355328 → Calls Try.prog f #[strV l] w (ReadPost w l)
/-- A function that prints as the document says. -/
def Prints (f : Nat) : Prop := ∀ (d : Nat) (x : Value) (t : Tn d) (w : World) (B : Nat), B ≤ w.heap.size → TyAt w B d x t → (flat d t).length ≤ 4194304 → Calls Try.prog f #[x] w fun r w' => r = .returned (printV d t) ∧ Below w.heap.size w w'
/-- The document's examples are answered. -/
def Wakes : Prop := ∀ w : World, Calls Try.prog 5 #[] w fun r w' => r = .returned (.bool true) ∧ Below w.heap.size w w'
theorem ends_nil : Ends [] := fun c h => by simp at h
theorem print_facts (d : Nat) (t : Tn d) : ∃ l e, printV d t = .tuple #[strV l, .int .i64 e] ∧ l.length ≤ 65536 ∧ (e = 0 → formB d t = true ∧ (flat d t).length ≤ 500 ∧ l = textT d t) ∧ (formB d t = true → (flat d t).length ≤ 500 → (textT d t).length ≤ 65536 → e = 0) := by
  unfold printV
  by_cases h : wrongT d t = 0
  · rw [if_neg (by simpa using h)]
    obtain ⟨h1, h2⟩ := wrong_zero h
    by_cases hb : 65536 < (textT d t).length
    · rw [if_pos hb]
      exact ⟨[], 4, rfl, by simp, by simp, fun _ _ h => by omega⟩
    · rw [if_neg hb]
      exact ⟨_, 0, rfl, by omega, fun _ => ⟨h1, h2, rfl⟩, fun _ _ _ => rfl⟩
  · rw [if_pos h]
    refine ⟨[], _, rfl, by simp, fun h0 => absurd h0 h, fun h1 h2 _ => ?_⟩
    exact absurd (by unfold wrongT; rw [if_pos h1, if_neg (by omega)]) h
/-- The type that Read answered: a tree of at most 500 nodes, in any case. -/
theorem ReadPost.tree {w w' : World} {l : List UInt8} {r : Ending} (h : ReadPost w l r w') : Below w.heap.size w w' ∧ ∃ (k : Int) (n : ByteArray) (ad : Option Addr) (len cap : Nat) (e : Int) (d : Nat) (t : Tn d), r = .returned (.tuple #[.agg #[.int .i64 k, .string n, .slice ad len cap], .int .i64 e]) ∧ TyAt w' w'.heap.size d (.agg #[.int .i64 k, .string n, .slice ad len cap]) t ∧ (flat d t).length ≤ 500 ∧
    (e = 0 → formB d t = true ∧ textT d t = l ∧ l.length ≤ 65536) ∧ (∀ d' (t' : Tn d'), formB d' t' = true → textT d' t' = l → (flat d' t').length ≤ 500 → l.length ≤ 65536 → e = 0) := by
  obtain ⟨hb, x, e, hr, h⟩ := h
  refine ⟨hb, ?_⟩
  rcases h with ⟨he, hl, d, t, h1, h2, h3, h4⟩ | ⟨he, hx, h⟩
  · obtain ⟨d, rfl⟩ : ∃ e, d = e + 1 := by
      cases d with
      | zero => exact h4.elim
      | succ e => exact ⟨e, rfl⟩
    obtain ⟨v, hx, q1, q2, q3⟩ := id h4
    subst hx
    obtain ⟨ad, cap, rfl⟩ := q3.len
    exact ⟨_, _, ad, _, cap, e, d + 1, t, hr, h4, h3, fun _ => ⟨h1, h2, hl⟩, fun _ _ _ _ _ _ => he⟩
  · obtain ⟨ad, cap, rfl⟩ := hx
    refine ⟨0, ⟨#[]⟩, ad, 0, cap, e, 1, ((0, []), []), hr, zero_at _ _ _ _, by rw [flat_succ, flats_nil]; simp, fun h0 => absurd h0 he, fun d' t' f1 f2 f3 f4 => ?_⟩
    rcases h with ⟨h1, _⟩ | ⟨_, ⟨d2, t2, g1, g2, g3⟩, _⟩ | ⟨_, h1, _⟩
    · omega
    · have := (text_inj d' t' d2 t2 [] [] f1 g1 ends_nil ends_nil (by rw [f2, g2])).1
      rw [this] at f3
      omega
    · exact absurd f2 (h1 d' t' f1)
set_option maxHeartbeats 8000000 in
set_option maxRecDepth 10000 in
theorem back_any (hP : Prints 6) (hR : Reads 7) (hA : Wakes) (d : Nat) (x : Value) (t : Tn d) (l : List UInt8) (w : World) (h : TyAt w w.heap.size d x t) (hl : l.length < 140737488355328) :
    Calls Try.prog 3 #[x, strV l] w fun r w' => r = .returned (.bool true) ∧ Below w.heap.size w w' := by
  obtain ⟨d, rfl⟩ : ∃ e, d = e + 1 := by
    cases d with
    | zero => exact h.elim
    | succ e => exact ⟨e, rfl⟩
  have hT := h
  obtain ⟨v, hx, h1, h2, h⟩ := h
  subst hx
  obtain ⟨ad, cap, rfl⟩ := h.len
  have HT : Hid (TyAt w w.heap.size (d + 1) (.agg #[.int .i64 t.1.1, .string ⟨t.1.2.toArray⟩, .slice ad t.2.length cap]) t) := hT
  generalize t.1.1 = k at *
  generalize (⟨t.1.2.toArray⟩ : ByteArray) = n at *
  generalize t.2.length = len at *
  clear h h1 hT
  obtain ⟨W, hW, hbW, hsW, b0, b1, b2⟩ := cells_box w (.int .i64 k) (.string n) (.slice ad len cap) 24
  have CG := great_any _ _ t W (TyAt.below hbW hbW.size _ _ _ HT.out)
  have HX : Hid (∀ w1, Below W.heap.size W w1 → Below w.heap.size w w1) := fun w1 h1 => hbW.trans (h1.mono (by omega))
  have HG : greatT (d + 1) t = false → (flat (d + 1) t).length ≤ 4194304 := great_nodes
  have X1 : ∀ w1, Below W.heap.size W w1 → w1.cell? ⟨w.heap.size, 0, none⟩ = some (.int .i64 k) ∧ w1.cell? ⟨w.heap.size, 1, none⟩ = some (.string n) ∧ w1.cell? ⟨w.heap.size, 2, none⟩ = some (.slice ad len cap) := fun w1 hb =>
    ⟨(hb.cell (by simp; omega)).trans b0, (hb.cell (by simp; omega)).trans b1, (hb.cell (by simp; omega)).trans b2⟩
  generalize greatT (d + 1) t = gr at CG HG
  cases gr with
  | true =>
    go_enter Try.func3, Try.ntmps3
    go_upto_region 1 with fail
    rw [← hW]
    generalize w.heap.size = z at b0 b1 b2 X1 ⊢
    clear hW hbW hsW
    go_wp2_with (go_at_call 4; (with_reducible refine Calls.mono CG ?_); rintro e' w1 ⟨rfl, hb1⟩)
    go_ret
    exact ⟨rfl, HX.out _ hb1⟩
  | false =>
    have hN := HG rfl
    have CA : ∀ w : World, Calls Try.prog 5 #[] w fun r w' => r = .returned (.bool true) ∧ Below w.heap.size w w' := hA
    have CP2 := hP
    have CP := fun w1 (hb : Below W.heap.size W w1) => hP _ _ t w1 w.heap.size (HX.out w1 hb).size (HT.out.on (HX.out w1 hb)) hN
    obtain ⟨ls, es, hpv, hls, hp0, hp1⟩ := print_facts (d + 1) t
    rw [hpv] at CP
    have HP0 : Hid (es = 0 → formB (d + 1) t = true ∧ (flat (d + 1) t).length ≤ 500 ∧ ls = textT (d + 1) t) := hp0
    have CR1 := fun w1 => hR ls w1 (by omega)
    have CR2 := fun w1 => hR l w1 hl
    clear hpv hp0 hp1 HG hP hA hR
    go_enter Try.func3, Try.ntmps3
    go_upto_region 1 with fail
    rw [← hW]
    generalize w.heap.size = z at b0 b1 b2 X1 ⊢
    clear hW
    go_upto_region 6 with (first
      | (go_at_call 4; (with_reducible refine Calls.mono CG ?_); rintro e' w1 ⟨rfl, hb1⟩; obtain ⟨x0, x1, x2⟩ := X1 w1 hb1)
      | (go_at_call 5; (with_reducible refine Calls.mono (CA w1) ?_); rintro e' w2 ⟨rfl, hb2'⟩; have hb2 := hb1.trans (hb2'.mono hb1.size); obtain ⟨y0, y1, y2⟩ := X1 w2 hb2)
      | (go_at_call 6; (with_reducible refine Calls.mono (CP w2 hb2) ?_); rintro e' w3 ⟨rfl, hb3'⟩; have hb3 := hb2.trans (hb3'.mono hb2.size)))
    have hb3s := hb3.size
    clear CG CA CP hb1 hb2 hb2' hb3' x0 x1 x2 y0 y1 y2
    go_upto_region 7 with (first
      | (go_at_call 7; (with_reducible refine Calls.mono (CR1 w3) ?_); intro e' w4 hpost; obtain ⟨hb4', k4, n4, ad4, l4, c4, e4, d4, t4, rfl, T4, N4, P4, Q4⟩ := hpost.tree))
    clear CR1 hpost
    have hb4 := hb3.trans (hb4'.mono hb3.size)
    obtain ⟨U, hU, hbU, hsU, u0, u1, u2⟩ := cells_box w4 (.int .i64 k4) (.string n4) (.slice ad4 l4 c4) 24
    rw [← hU]
    have HU4 : Hid (U.heap.size = w4.heap.size + 1) := hsU
    have hbU2 := hb4.trans (hbU.mono hb4.size)
    generalize hz4 : w4.heap.size = z4 at u0 u1 u2 ⊢
    have HZ4 : Hid (w4.heap.size = z4) := hz4
    have HT4 : Hid (TyAt w4 w4.heap.size d4 (.agg #[.int .i64 k4, .string n4, .slice ad4 l4 c4]) t4) := T4
    have HQ4 : Hid ((e4 = 0 → formB d4 t4 = true ∧ textT d4 t4 = ls ∧ ls.length ≤ 65536) ∧ (∀ d' (t' : Tn d'), formB d' t' = true → textT d' t' = ls → (flat d' t').length ≤ 500 → ls.length ≤ 65536 → e4 = 0)) := ⟨P4, Q4⟩
    clear hU hz4 T4 P4 Q4 hb3 hb4 hb4' hsU
    go_upto_region 8 with (first
      | (go_at_call 7; (with_reducible refine Calls.mono (CR2 U) ?_); intro e' w6 hpost; obtain ⟨hb6', k6, n6, ad6, l6, c6, e6, d6, t6, rfl, T6, N6, P6, Q6⟩ := hpost.tree))
    clear CR2 hpost Q6
    have hb6 := hbU2.trans (hb6'.mono hbU2.size)
    obtain ⟨V, hV, hbV, hsV, v0, v1, v2⟩ := cells_box w6 (.int .i64 k6) (.string n6) (.slice ad6 l6 c6) 24
    rw [← hV]
    have hbV2 := hb6.trans (hbV.mono hb6.size)
    have hU6 : z4 + 1 ≤ w6.heap.size := by have := hb6'.size; have := HU4.out; have := HZ4.out; omega
    obtain ⟨l8, e8, hpv8, hl8, hp8, hq8⟩ := print_facts d6 t6
    have CP6 := CP2 d6 _ t6 V w6.heap.size hbV.size (T6.on hbV) (by omega)
    rw [hpv8] at CP6
    have s0 := (hbV.cell (p := ⟨z4, 0, none⟩) (by simp; omega)).trans ((hb6'.cell (p := ⟨z4, 0, none⟩) (by have := HU4.out; have := HZ4.out; simp; omega)).trans u0)
    have s1 := (hbV.cell (p := ⟨z4, 1, none⟩) (by simp; omega)).trans ((hb6'.cell (p := ⟨z4, 1, none⟩) (by have := HU4.out; have := HZ4.out; simp; omega)).trans u1)
    have s2 := (hbV.cell (p := ⟨z4, 2, none⟩) (by simp; omega)).trans ((hb6'.cell (p := ⟨z4, 2, none⟩) (by have := HU4.out; have := HZ4.out; simp; omega)).trans u2)
    have HV4 : Hid (Below w4.heap.size w4 V) := hbU.trans ((hb6'.mono (by have := HU4.out; omega)).trans (hbV.mono (by have := HZ4.out; omega)))
    have HP6 : Hid (e6 = 0 → formB d6 t6 = true ∧ textT d6 t6 = l ∧ l.length ≤ 65536) := P6
    have HP8 : Hid ((e8 = 0 → formB d6 t6 = true ∧ (flat d6 t6).length ≤ 500 ∧ l8 = textT d6 t6) ∧ (formB d6 t6 = true → (flat d6 t6).length ≤ 500 → (textT d6 t6).length ≤ 65536 → e8 = 0)) := ⟨hp8, hq8⟩
    have HN6 : Hid ((flat d6 t6).length ≤ 500) := N6
    have HV5 : Hid (z4 < V.heap.size) := by show z4 < V.heap.size; have := hbV.size; omega
    generalize w6.heap.size = z6 at v0 v1 v2 ⊢
    clear hV hsV hb6 hb6' hbU hbV P6 hp8 hq8 hpv8 N6 T6 CP2 u0 u1 u2 hbU2
    go_upto_region 9 with (first
      | (go_at_call 6; (with_reducible refine Calls.mono CP6 ?_); rintro e' w8 ⟨rfl, hb8'⟩))
    have hb8 := hbV2.trans (hb8'.mono hbV2.size)
    obtain ⟨y0, y1, y2⟩ := X1 w8 hb8
    have r0 := (hb8'.cell (p := ⟨z4, 0, none⟩) HV5.out).trans s0
    have r1 := (hb8'.cell (p := ⟨z4, 1, none⟩) HV5.out).trans s1
    have r2 := (hb8'.cell (p := ⟨z4, 2, none⟩) HV5.out).trans s2
    have hw48 : Below w4.heap.size w4 w8 := HV4.out.trans (hb8'.mono (by have := HV5.out; have := HZ4.out; omega))
    have CS := same_any d4 (d + 1) _ _ t4 t w8 w8.heap.size (Nat.le_refl _) (TyAt.below hw48 hw48.size _ _ _ HT4.out) (TyAt.below (HX.out w8 hb8) (HX.out w8 hb8).size _ _ _ HT.out)
    have HD : Hid (es = 0 → e4 = 0 ∧ flat d4 t4 = flat (d + 1) t) := by
      intro h0
      obtain ⟨f1, f2, f3⟩ := HP0.out h0
      have h4 := HQ4.out.2 (d + 1) t f1 f3.symm f2 hls
      obtain ⟨g1, g2, _⟩ := HQ4.out.1 h4
      exact ⟨h4, (text_inj d4 t4 (d + 1) t [] [] g1 f1 ends_nil ends_nil (by rw [g2, f3])).1⟩
    have HK : Hid (e6 = 0 → e8 = 0 ∧ l8 = l) := by
      intro h0
      obtain ⟨f1, f2, f3⟩ := HP6.out h0
      have h8 := HP8.out.2 f1 HN6.out (by rw [f2]; exact f3)
      exact ⟨h8, (HP8.out.1 h8).2.2.trans f2⟩
    generalize hsm : decide (flat d4 t4 = flat (d + 1) t) = sm at CS
    have HM : Hid (es = 0 → e4 = 0 ∧ sm = true) := fun h0 => ⟨(HD.out h0).1, by rw [← hsm]; exact decide_eq_true (HD.out h0).2⟩
    clear HD hsm HP6 HP8 HT4 HQ4 HP0 HT hls hl8 hl CP6 X1 hb8' hw48 HV4 HN6 s0 s1 s2
    by_cases h60 : e6 = 0
    · obtain ⟨rfl, rfl⟩ := HK.out h60
      subst h60
      by_cases hs0 : es = 0
      · obtain ⟨rfl, rfl⟩ := HM.out hs0
        subst hs0
        go_wp2_with (go_at_call 8; (with_reducible refine Calls.mono CS ?_); rintro e' w9 ⟨rfl, hb9⟩)
        go_ret
        exact ⟨rfl, HX.out _ (hb8.trans (hb9.mono hb8.size))⟩
      · have hs1 : (es == 0) = false := by simpa using hs0
        go_wp2_with (go_at_call 8; (with_reducible refine Calls.mono CS ?_); rintro e' w9 ⟨rfl, hb9⟩)
        go_ret
        exact ⟨rfl, HX.out _ (hb8.trans (hb9.mono hb8.size))⟩
    · have h61 : (e6 == 0) = false := by simpa using h60
      by_cases hs0 : es = 0
      · obtain ⟨rfl, rfl⟩ := HM.out hs0
        subst hs0
        go_wp2_with (go_at_call 8; (with_reducible refine Calls.mono CS ?_); rintro e' w9 ⟨rfl, hb9⟩)
        go_ret
        exact ⟨rfl, HX.out _ (hb8.trans (hb9.mono hb8.size))⟩
      · have hs1 : (es == 0) = false := by simpa using hs0
        go_wp2_with (go_at_call 8; (with_reducible refine Calls.mono CS ?_); rintro e' w9 ⟨rfl, hb9⟩)
        go_ret
        exact ⟨rfl, HX.out _ (hb8.trans (hb9.mono hb8.size))⟩
end Go.Proofs.Ythcejnpknjepfaa
