/- The text of a type: the contract of write. -/
import Derived.Test.YthcejnpknjepfaaGreatWr
namespace Go.Proofs.YthcejnpknjepfaaGreat
open Go.RowKit

/-- The ways of write. -/
def WCase (w : World) (B b : Nat) (l : List UInt8) (k : Int) (n : List UInt8) (ad : Option Addr) (len cap : Nat) (tx : List UInt8) : Prop :=
  (k = 1 ∧ tx = [73, 110, 116]) ∨ ((k = 2 ∨ k = 4) ∧ len = 0 ∧ tx = n) ∨
  (k = 3 ∧ ∀ w1, IsB B b l w1 → Below B w w1 → Calls Tryz.prog 78 #[.pointer (some ⟨b, 0, none⟩), .string ⟨#[]⟩, .slice ad len cap, .string ⟨#[32, 45, 62, 32]⟩] w1 (WPost B b (l ++ tx) w1)) ∨
  (k = 4 ∧ 0 < len ∧ n.length ≤ 4096 ∧ ∀ w1, IsB B b l w1 → Below B w w1 → Calls Tryz.prog 78 #[.pointer (some ⟨b, 0, none⟩), .string ((⟨n.toArray⟩ : ByteArray) ++ ⟨#[32]⟩), .slice ad len cap, .string ⟨#[32]⟩] w1 (WPost B b (l ++ tx) w1))
set_option maxHeartbeats 16000000 in
set_option maxRecDepth 10000 in
theorem write_case (w : World) (B b : Nat) (l : List UInt8) (k : Int) (n : List UInt8) (ad : Option Addr) (len cap : Nat) (tx : List UInt8) (hC : WCase w B b l k n ad len cap tx) (hI : IsB B b l w) (hB : B ≤ w.heap.size) (h1 : n.length < 140737488355328) (h2 : len < 140737488355328) (hfn : formN k n len = k) (hl : l.length + tx.length ≤ 70368744177664) :
    Calls Tryz.prog 45 #[.pointer (some ⟨b, 0, none⟩), .agg #[.int .i64 k, .string ⟨n.toArray⟩, .slice ad len cap]] w (WPost B b (l ++ tx) w) := by
  have CF := fun W => formOf_any k n ad len cap W h1 h2
  rw [hfn] at CF
  obtain ⟨W, hW, hbW, hsW, b0, b1, b2⟩ := cells_box w (.int .i64 k) (.string ⟨n.toArray⟩) (.slice ad len cap) 25
  have HW1 : Hid (∀ w1, Below W.heap.size W w1 → (w1.cell? ⟨w.heap.size, 0, none⟩ = some (.int .i64 k) ∧ w1.cell? ⟨w.heap.size, 1, none⟩ = some (.string ⟨n.toArray⟩) ∧ w1.cell? ⟨w.heap.size, 2, none⟩ = some (.slice ad len cap)) ∧ IsB B b l w1 ∧ Below B w w1 ∧ Lib.OthersKept 5 (some b) w w1) := fun w1 hb => by
    have hb0 : Below w.heap.size w w1 := hbW.trans (hb.mono hbW.size)
    exact ⟨⟨(hb.cell (by simp; omega)).trans b0, (hb.cell (by simp; omega)).trans b1, (hb.cell (by simp; omega)).trans b2⟩, isB_on hI hb0, hb0.mono hB, (Lib.OthersKept.refl 5 (some b) w).below hb0⟩
  have FIN : Hid (∀ w1 r w', Below B w w1 → Lib.OthersKept 5 (some b) w w1 → WPost B b (l ++ tx) w1 r w' → WPost B b (l ++ tx) w r w') := fun w1 r w' h1 h2 h3 => ⟨h3.1, h3.2.1, h1.trans h3.2.2.1, h2.trans h3.2.2.2⟩
  have HBw : Hid (∀ w1, Below B w w1 → B ≤ w1.heap.size) := fun w1 hb => Nat.le_trans hB hb.size
  clear hI hbW hsW hfn hB
  rcases hC with ⟨rfl, rfl⟩ | ⟨hk, rfl, rfl⟩ | ⟨rfl, CR⟩ | ⟨rfl, hpos, hnl, CR⟩
  · simp only [List.length_cons, List.length_nil] at hl
    have CS : ∀ w1, IsB B b l w1 → Below B w w1 → Calls Tryz.prog 77 #[.pointer (some ⟨b, 0, none⟩), .string ⟨#[73, 110, 116]⟩] w1 fun r w' => r = .returned (.tuple #[.int .i64 3, .nilIface]) ∧ IsB B b (l ++ [73, 110, 116]) w' ∧ Below B w1 w' ∧ Lib.OthersKept 5 (some b) w1 w' := fun w1 hi hb => ws_any (⟨#[73, 110, 116]⟩ : ByteArray) hi (by show _ + 3 ≤ _; omega) (HBw.out _ hb)
    go_enter Tryz.func45, Tryz.ntmps45
    go_upto_region 1 with fail
    rw [← hW]
    generalize hz : w.heap.size = z at HW1 b0 b1 b2 ⊢
    clear hW hz
    go_wp2_with (first
      | (go_at_call 73; (with_reducible refine Calls.mono (CF _) ?_); rintro e' w1 ⟨rfl, hb1⟩; obtain ⟨⟨y0, y1, y2⟩, hi1, hB1, ho1⟩ := HW1.out _ hb1)
      | (go_at_call 77; (with_reducible refine Calls.mono (CS _ hi1 hB1) ?_); rintro e' w2 ⟨rfl, hi2, hB2, ho2⟩))
    refine bodyPost_ret (v := .tuple #[]) (by simp [results, Tryz.results45, go_sem]) rfl ?_
    exact FIN.out w1 _ _ hB1 ho1 ⟨rfl, hi2, hB2, ho2⟩
  · have CS : ∀ w1, IsB B b l w1 → Below B w w1 → Calls Tryz.prog 77 #[.pointer (some ⟨b, 0, none⟩), .string ⟨tx.toArray⟩] w1 fun r w' => r = .returned (.tuple #[.int .i64 (⟨tx.toArray⟩ : ByteArray).size, .nilIface]) ∧ IsB B b (l ++ tx) w' ∧ Below B w1 w' ∧ Lib.OthersKept 5 (some b) w1 w' := fun w1 hi hb => by
      have := ws_any (⟨tx.toArray⟩ : ByteArray) hi (by show _ + tx.toArray.size ≤ _; simp; omega) (HBw.out _ hb)
      simpa using this
    rcases hk with rfl | rfl
    all_goals
      go_enter Tryz.func45, Tryz.ntmps45
      go_upto_region 1 with fail
      rw [← hW]
      generalize hz : w.heap.size = z at HW1 b0 b1 b2 ⊢
      clear hW hz
      go_wp2_with (first
        | (go_at_call 73; (with_reducible refine Calls.mono (CF _) ?_); rintro e' w1 ⟨rfl, hb1⟩; obtain ⟨⟨y0, y1, y2⟩, hi1, hB1, ho1⟩ := HW1.out _ hb1)
        | (go_at_call 77; (with_reducible refine Calls.mono (CS _ hi1 hB1) ?_); rintro e' w2 ⟨rfl, hi2, hB2, ho2⟩))
      refine bodyPost_ret (v := .tuple #[]) (by simp [results, Tryz.results45, go_sem]) rfl ?_
      exact FIN.out w1 _ _ hB1 ho1 ⟨rfl, hi2, hB2, ho2⟩
  · go_enter Tryz.func45, Tryz.ntmps45
    go_upto_region 1 with fail
    rw [← hW]
    generalize hz : w.heap.size = z at HW1 b0 b1 b2 ⊢
    clear hW hz
    go_wp2_with (first
      | (go_at_call 73; (with_reducible refine Calls.mono (CF _) ?_); rintro e' w1 ⟨rfl, hb1⟩; obtain ⟨⟨y0, y1, y2⟩, hi1, hB1, ho1⟩ := HW1.out _ hb1)
      | (go_at_call 78; (with_reducible refine Calls.mono (CR _ hi1 hB1) ?_); rintro e' w2 hp; obtain ⟨rfl, hp2⟩ := id hp))
    refine bodyPost_ret (v := .tuple #[]) (by simp [results, Tryz.results45, go_sem]) rfl ?_
    exact FIN.out w1 _ _ hB1 ho1 hp
  · have hpos' : (0 : Int) < (len : Int) := by omega
    go_enter Tryz.func45, Tryz.ntmps45
    go_upto_region 1 with fail
    rw [← hW]
    generalize hz : w.heap.size = z at HW1 b0 b1 b2 ⊢
    clear hW hz
    go_wp2_with (first
      | (go_at_call 73; (with_reducible refine Calls.mono (CF _) ?_); rintro e' w1 ⟨rfl, hb1⟩; obtain ⟨⟨y0, y1, y2⟩, hi1, hB1, ho1⟩ := HW1.out _ hb1)
      | (go_at_call 78; (with_reducible refine Calls.mono (CR _ hi1 hB1) ?_); rintro e' w2 hp; obtain ⟨rfl, hp2⟩ := id hp))
    refine bodyPost_ret (v := .tuple #[]) (by simp [results, Tryz.results45, go_sem]) rfl ?_
    exact FIN.out w1 _ _ hB1 ho1 hp
theorem write_step (d : Nat) (IH : Writes d) : Writes (d + 1) := by
  intro x t w B b l hI hB h hF hl
  obtain ⟨v, hx, h1, h2, hrow⟩ := h
  subst hx
  obtain ⟨ad, cap, rfl⟩ := hrow.len
  have hok : okB t.1.1 t.1.2 t.2.length = true := by
    have := form_succ d t.1.1 t.1.2 t.2
    rw [show ((t.1.1, t.1.2), t.2) = t from rfl, hF] at this
    cases ho : okB t.1.1 t.1.2 t.2.length
    · rw [ho] at this; cases this
    · rfl
  have hfn : formN t.1.1 t.1.2 t.2.length = t.1.1 := by unfold formN; rw [if_pos hok]
  have HBw : ∀ w1, Below B w w1 → B ≤ w1.heap.size ∧ RowP w1 B (TyAt w1 B d) (.slice ad t.2.length cap) t.2 := fun w1 hb => ⟨Nat.le_trans hB hb.size, hrow.below hb (Nat.le_refl _) fun x t _ h => h.on hb⟩
  refine write_case w B b l _ _ _ _ _ _ ?_ hI hB h1 h2 hfn hl
  rcases form_cases hF with rfl | ⟨n, hn, rfl⟩ | ⟨a, c, ha, hc, rfl⟩ | ⟨n, ts, hn, hlen, hts, rfl⟩
  · exact .inl ⟨rfl, rfl⟩
  · exact .inr (.inl ⟨.inl rfl, rfl, by rw [text_var]⟩)
  · refine .inr (.inr (.inl ⟨rfl, fun w1 hi hb => ?_⟩))
    have := writeRow_step d IH [] [32, 45, 62, 32] (.slice ad 2 cap) [a, c] w1 B b l hi (HBw w1 hb).1 (HBw w1 hb).2 (by simp [ha, hc]) (by simp) (by rw [text_fun] at hl; simp [preT] at hl ⊢; omega)
    have e : 40 :: [] ++ preT d [32, 45, 62, 32] [a, c] ++ [41] = textT (d + 1) ((3, []), [a, c]) := by rw [text_fun]; simp [preT]
    rw [e] at this
    exact this
  · cases ts with
    | nil => exact .inr (.inl ⟨.inr rfl, rfl, by rw [text_data0]⟩)
    | cons a ts =>
      refine .inr (.inr (.inr ⟨rfl, by simp, data_len hn, fun w1 hi hb => ?_⟩))
      have := writeRow_step d IH (n ++ [32]) [32] (.slice ad (a :: ts).length cap) (a :: ts) w1 B b l hi (HBw w1 hb).1 (HBw w1 hb).2 hts (by omega) (by rw [text_data, ← preT_args] at hl; simp at hl ⊢; omega)
      have e : 40 :: (n ++ [32]) ++ preT d [32] (a :: ts) ++ [41] = textT (d + 1) ((4, n), a :: ts) := by rw [text_data, ← preT_args]; simp
      rw [e, ← str_append n [32]] at this
      exact this
theorem write_any : ∀ d, Writes d
  | 0 => fun _ t => t.elim
  | d + 1 => write_step d (write_any d)
end Go.Proofs.YthcejnpknjepfaaGreat
