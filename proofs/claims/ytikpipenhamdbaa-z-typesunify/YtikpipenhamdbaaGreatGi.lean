/- The graph: the contract of isAbove, at what awake's agree has left. -/
import Derived.Test.YtikpipenhamdbaaGreatMakx
import Derived.Maps.RangeWalk
import Derived.Sort.MapsRangeIn
namespace Go.Proofs.YtikpipenhamdbaaGreat
open Go.RowKit Go.Maps

theorem Sm.grown {w w' : World} (s : Sm w w') : w.grownBy w' none := ⟨s.os, s.tape, s.output, by rw [s.heap]; exact Nat.le_refl _, fun k _ _ => by rw [s.heap]⟩
set_option maxHeartbeats 8000000 in
set_option maxRecDepth 10000 in
theorem above_no {lo G b : Nat} {D : DataW Unit} (HD : ∀ kl (c : Int), (∀ zd, D.atKey kl zd = .lit (.int .i64 c)) → c = 0 ∨ c = 1) (w : World) (h : GX w lo G b (fun _ => False) (gA 3 3 4 2) D 2) :
  Calls Tryz.prog 29 #[.pointer (some ⟨G, 0, none⟩)] w fun e w' => e = .returned (.bool false) ∧ Gk lo G b w w' ∧ GX w' lo G b (fun _ => False) (gA 3 3 4 2) D 2 := by
 have hl := h.num
 obtain ⟨g, cap, ad, _, c1, _⟩ := h.at (i := 0) (by decide)
 have hown : w.ownsMap Tryz.prog 9 (plainElem Tryz.prog 3) b (Maps.size D) D := by
  obtain ⟨v, ns, _, hG, _⟩ := h
  exact hG.map
 go_enter Tryz.func29, Tryz.ntmps29
 go_wp2_with (first
  | (at_range; refine wpList_range_own _ rfl _ 63 rfl 9 3 law9 Tryz.underlying63 _ b (Maps.size D) _ rfl hown ?_; intro w0 hrg0 hg0 hs0)
  | go_in)
 go_frame
 go_loopw [4] (fun _ wr => ∃ (left : Lit → Bool) (cnt : Nat), wr.ranges Tryz.prog 9 (plainElem Tryz.prog 3) b w.heap.size (Maps.size D) D left cnt ∧ GX wr lo G b (fun _ => False) (gA 3 3 4 2) D 2 ∧ Gk lo G b w wr)
  (fun _ wr => wr.rangeLeft b w.heap.size)
 case atStart =>
  have hb0 : Below w.heap.size w w0 := ⟨hg0.os, hg0.tape, hg0.output, hg0.size, fun k hk => hg0.block k hk (by simp)⟩
  exact ⟨_, _, hrg0, h.below hb0, Gk.of_below hb0 hl.2.1⟩
 case round =>
  obtain ⟨left, cnt, hrg, hX, hgw⟩ := hrel
  clear hrg0 hg0 hs0 hown c1
  go_wp2_with (first
   | (at_next; refine wpList_next_ranges _ rfl _ rfl 9 law9 _ Value.string (Value.int .i64) (fun key kl hkey => Maps.keyOf_string_inv Tryz.underlying9 hkey) (fun v y hv => by obtain ⟨c, rfl, _⟩ := plainElem_int_inv Tryz.underlying3 hv; exact ⟨c, rfl⟩) b w.heap.size (Maps.size D) _ _ _ rfl hrg ?_ ?_)
   | go_in)
  ·intro _ hl0
   go_wp2
   go_ret
   exact ⟨rfl, hgw, hX⟩
  ·intro x c kl y1 y2 w1 cnt1 hkey hlk hv hat hrg1 hlt hg1 hs1 hen
   obtain ⟨c', ec, hy, hwc⟩ := plainElem_int_inv Tryz.underlying3 hv
   cases ec
   have hc := HD kl c (fun zd => by rw [hat zd]; exact congrArg Prod.fst hy)
   have hX1 : GX w1 lo G b (fun _ => False) (gA 3 3 4 2) D 2 ∧ Gk lo G b w w1 := by
    obtain ⟨es, clock, since, seen, c0, _, _, _, _, hr, _⟩ := hrg
    refine ⟨hX.other hr (by intro c t fz e; cases e) (by intro c t e; cases e) hg1.size ⟨hg1.os, hg1.tape, hg1.output⟩ (fun k hk hne => hg1.block k hk (fun e => hne (Option.some.inj e))), ⟨hg1.os.trans hgw.os, hg1.tape.trans hgw.tape, hg1.output.trans hgw.output, Nat.le_trans hgw.size hg1.size, fun k hk => ?_, fun k o h1 h2 h3 h4 => ?_⟩⟩
    ·rw [hg1.block k (by have := hgw.size; omega) (fun e => by have := Option.some.inj e; omega)]
     exact hgw.low k hk
    ·rw [hg1.block k (by have := lt_of_heap h1; have := hgw.size; omega) (fun e => by have := Option.some.inj e; have := lt_of_heap h1; omega)]
     exact hgw.keep k o h1 h2 h3 h4
   have HG : Hid (wr.grownBy w1 (some w.heap.size)) := hg1
   have HM : Hid (w1.rangeLeft b w.heap.size < wr.rangeLeft b w.heap.size) := by
    show _ < _
    rw [hrg1.left_eq, hrg.left_eq]; exact hlt
   clear hg1 hX hgw
   have hCL : Calls Tryz.prog 50 #[.pointer (some ⟨G, 0, none⟩), .int .i64 c, .int .i64 500] w1 fun e w' => e = .returned (.int .i64 499) ∧ Sm w1 w' := by
    rcases hc with rfl | rfl
    ·exact left_leaf hX1.1 0 3 (by decide) (by decide) (by decide) rfl rfl rfl
    ·exact left_leaf hX1.1 1 3 (by decide) (by decide) (by decide) rfl rfl rfl
   go_wp2_with (first
    | (go_at_call 50; (with_reducible refine Calls.mono hCL ?_); rintro e' w2 ⟨rfl, sm2⟩)
    | go_in)
   go_roundw
   case rel => exact ⟨_, cnt1, hrg1.kept sm2.grown (by simp) (by simp), hX1.1.sm sm2, hX1.2.trans (Gk.of_sm sm2)⟩
   case measure =>
    rw [(hrg1.kept sm2.grown (by simp) (by simp)).left_eq, ← hrg1.left_eq]
    exact HM.out
end Go.Proofs.YtikpipenhamdbaaGreat
