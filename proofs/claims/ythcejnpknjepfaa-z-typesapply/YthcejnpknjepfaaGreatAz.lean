/- applies: its contract. -/
import Derived.Test.YthcejnpknjepfaaGreatAr
import Derived.Test.YthcejnpknjepfaaGreatAy
import Derived.Test.YthcejnpknjepfaaGreatMgx
import Derived.Test.YthcejnpknjepfaaGreatMqx
namespace Go.Proofs.YthcejnpknjepfaaGreat
open Go.RowKit

/-- What applies answers: a tree that is its owner's, and true. -/
def AsOwn (w : World) (r : Ending) (w' : World) : Prop :=
  Below w.heap.size w w' ∧ ∃ (k : Int) (n : ByteArray) (ad : Option Addr) (len cap D : Nat) (tt : Tn D) (rws : List (Value × Nat)), r = .returned (.tuple #[.agg #[.int .i64 k, .string n, .slice ad len cap], .bool true]) ∧ TyO w' w.heap.size D (.agg #[.int .i64 k, .string n, .slice ad len cap]) tt rws ∧ SepB w.heap.size w'.heap.size rws ∧ (flat D tt).length ≤ 500
set_option maxHeartbeats 16000000 in
set_option maxRecDepth 10000 in
theorem applies_any (bs : List Bd) (lv ov : Value) (d d' : Nat) (x y : Value) (t : Tn d) (t' : Tn d') (w : World) (B : Nat) (hB : B ≤ w.heap.size) (hl : BdAt w B lv bs) (ho : BdAt w B ov bs) (hx : TyAt w B d x t) (hy : TyAt w B d' y t') (heq : flat d t = flat d' t' ∧ applyE bs d t = applyE bs d' t') (hM : ∀ x ∈ bs, (flat x.2.1 x.2.2).length ≤ 4194304) (hN : (flat d t).length ≤ 4194304) :
    Calls Tryz.prog 21 #[lv, x, ov, y] w (AsOwn w) := by
  obtain ⟨k, n, ad, len, cap, rfl⟩ := tree_form hx
  obtain ⟨k', n', ad', len', cap', rfl⟩ := tree_form hy
  have heF : applyF bs d t = applyF bs d' t' := by unfold applyF; rw [heq.1, heq.2]
  obtain ⟨W, hW⟩ : ∃ W, W = ((w.alloc (Obj.cells #[.int .i64 k, .string n, .slice ad len cap] 25)).alloc (Obj.cells #[.int .i64 k', .string n', .slice ad' len' cap'] 25)).alloc (Obj.cells #[.int .i64 0, .string ⟨#[]⟩, .slice none 0 0] 25) := ⟨_, rfl⟩
  have hbW : Below w.heap.size w W := by rw [hW]; exact (((Below.refl _ _).alloc (Nat.le_refl _) _).alloc (by simp) _).alloc (by simp; omega) _
  have hsW : W.heap.size = w.heap.size + 3 := by rw [hW]; simp
  have ax : W.heap[w.heap.size]? = some (.cells #[.int .i64 k, .string n, .slice ad len cap] 25 (0, 0)) := by
    rw [hW, Below.heap_alloc _ _ _ (by simp; omega), Below.heap_alloc _ _ _ (by simp)]
    show (w.heap.push _)[w.heap.size]? = _
    simp
  have ay : W.heap[w.heap.size + 1]? = some (.cells #[.int .i64 k', .string n', .slice ad' len' cap'] 25 (0, 0)) := by
    rw [hW, Below.heap_alloc _ _ _ (by simp)]
    show ((w.heap.push _).push _)[w.heap.size + 1]? = _
    rw [Array.getElem?_push, if_pos (by simp)]
  have res : W.heap[w.heap.size + 1 + 1]? = some (.cells #[.int .i64 0, .string ⟨#[]⟩, .slice none 0 0] 25 (0, 0)) := by
    rw [hW]
    show (((w.heap.push _).push _).push _)[w.heap.size + 1 + 1]? = _
    rw [Array.getElem?_push, if_pos (by simp)]
  have HX : Hid (∀ w1, Below W.heap.size W w1 → Below w.heap.size w w1 ∧ w1.heap[w.heap.size]? = some (.cells #[.int .i64 k, .string n, .slice ad len cap] 25 (0, 0)) ∧ w1.heap[w.heap.size + 1 + 1]? = some (.cells #[.int .i64 0, .string ⟨#[]⟩, .slice none 0 0] 25 (0, 0))) := fun w1 hb => ⟨hbW.trans (hb.mono hbW.size), (hb.block _ (lt_of_heap ax)).trans ax, (hb.block _ (lt_of_heap res)).trans res⟩
  have CR := apply_ref bs ov d' _ t' W B (Nat.le_trans hB hbW.size) (ho.below (hbW.mono hB) (Nat.le_refl _)) (hy.on (hbW.mono hB)) hM (by rw [← heq.1]; exact hN)
  have HCP : Hid (∀ w1, Below W.heap.size W w1 → Calls Tryz.prog 40 #[lv, .agg #[.int .i64 k, .string n, .slice ad len cap]] w1 (ApOwn bs d t w1)) := fun w1 hb => by
    have hb2 := hbW.trans (hb.mono hbW.size)
    exact apply_any bs lv d _ t w1 B (Nat.le_trans hB hb2.size) (hl.below (hb2.mono hB) (Nat.le_refl _)) (hx.on (hb2.mono hB)) hM hN
  have HE : Hid (applyE bs d t = applyE bs d' t' ∧ applyF bs d t = applyF bs d' t') := ⟨heq.2, heF⟩
  have HSW : Hid (W.heap.size = w.heap.size + 3) := hsW
  obtain ⟨x0, x1, x2⟩ := heap_cells ax
  obtain ⟨y0, y1, y2⟩ := heap_cells ay
  clear hx hy hl ho hM hN hbW ax ay res heq heF hB hsW
  go_enter Tryz.func21, Tryz.ntmps21
  go_upto_region 1 with fail
  rw [← hW]
  generalize hz : w.heap.size = z at x0 x1 x2 y0 y1 y2 ⊢
  have HZ : Hid (w.heap.size = z) := hz
  clear hW hz
  go_upto_region 2 with (go_at_call 39; (with_reducible refine Calls.mono CR ?_); intro e' w1 hpost; obtain ⟨hb1, k1, n1, ad1, l1, c1, D1, t1, rfl, hT1, hf1⟩ := hpost)
  obtain ⟨U1, hU1, hbU1, X1⟩ := Bx.new hT1
  rw [← hU1]
  have hb2 : Below W.heap.size W U1 := hb1.trans (hbU1.mono hb1.size)
  have HF1 : Hid (flat D1 t1 = applyF bs d' t') := hf1
  generalize w1.heap.size = q1 at X1 ⊢
  have CP := HCP.out U1 hb2
  obtain ⟨_, ax, _⟩ := HX.out U1 hb2
  rw [HZ.out] at ax
  obtain ⟨a0, a1, a2⟩ := heap_cells ax
  have HB2 : Hid (Below W.heap.size W U1) := hb2
  clear CR x0 x1 x2 y0 y1 y2 ax hb1 hbU1 hb2 hU1 hT1 hf1
  go_upto_region 3 with (go_at_call 40; (with_reducible refine Calls.mono CP ?_); intro e' w2 hpost; obtain ⟨hb3, k2, n2, ad2, l2, c2, D2, t2, rws2, rfl, hT2, hS2, hf2, hl2⟩ := hpost)
  obtain ⟨U2, hU2, hbU2, X2⟩ := Bx.new (TyO.at _ _ _ _ (fun p hp g hg => hS2.lt (Nat.le_refl _) p hp g hg) hT2)
  rw [← hU2]
  have hb4 : Below U1.heap.size U1 U2 := hb3.trans (hbU2.mono hb3.size)
  have X1 := X1.on hb4
  have HT2 : Hid (TyO U2 U1.heap.size D2 (.agg #[.int .i64 k2, .string n2, .slice ad2 l2 c2]) t2 rws2 ∧ SepB U1.heap.size U2.heap.size rws2) := ⟨TyO.on _ _ _ _ (fun p hp g hg => hbU2.block g (hS2.lt (Nat.le_refl _) p hp g hg)) hT2, ⟨fun p hp => by obtain ⟨g, e1, e2, e3⟩ := hS2.1 p hp; exact ⟨g, e1, e2, Nat.lt_of_lt_of_le e3 hbU2.size⟩, hS2.2⟩⟩
  have HFL2 : Hid (flat D2 t2 = applyF bs d t ∧ (flat D2 t2).length ≤ 500) := ⟨hf2, hl2⟩
  have HB4 : Hid (Below W.heap.size W U2) := HB2.out.trans (hb4.mono HB2.out.size)
  have CS := same_any _ _ _ _ t2 t1 U2 U2.heap.size (Nat.le_refl _) X2.tree X1.tree
  rw [decide_eq_true (by rw [hf2, HF1.out]; exact HE.out.2 : flat D2 t2 = flat D1 t1)] at CS
  obtain ⟨b0, b1, b2⟩ : _ ∧ _ ∧ _ := ⟨X2.c0, X2.c1, X2.c2⟩
  obtain ⟨c0, c1', c2'⟩ : _ ∧ _ ∧ _ := ⟨X1.c0, X1.c1, X1.c2⟩
  have HX2 : Hid (∀ w3, Below U2.heap.size U2 w3 → (w3.cell? ⟨w2.heap.size, 0, none⟩ = some (.int .i64 k2) ∧ w3.cell? ⟨w2.heap.size, 1, none⟩ = some (.string n2) ∧ w3.cell? ⟨w2.heap.size, 2, none⟩ = some (.slice ad2 l2 c2)) ∧ Below w.heap.size w w3 ∧ w3.heap[w.heap.size + 1 + 1]? = some (.cells #[.int .i64 0, .string ⟨#[]⟩, .slice none 0 0] 25 (0, 0))) := fun w3 hb => by
    obtain ⟨e1, _, e3⟩ := HX.out w3 (HB4.out.trans (hb.mono HB4.out.size))
    exact ⟨⟨(X2.on hb).c0, (X2.on hb).c1, (X2.on hb).c2⟩, e1, e3⟩
  have HE1 := HE.out.1
  rw [HE1]
  generalize applyE bs d' t' = EE
  have hee : (EE == EE) = true := by simp
  clear CP a0 a1 a2 hb3 hbU2 hb4 hU2 hT2 hS2 hf2 hl2 X1 X2 HE1
  go_upto_region 4 with (go_at_call 9; (with_reducible refine Calls.mono CS ?_); rintro e' w3 ⟨rfl, hb5⟩)
  obtain ⟨⟨d0, d1, d2⟩, hB3, rs⟩ := HX2.out w3 hb5
  have HRS : Hid (w3.heap[w.heap.size + 1 + 1]? = some (.cells #[.int .i64 0, .string ⟨#[]⟩, .slice none 0 0] 25 (0, 0)) ∧ Below w.heap.size w w3 ∧ Below U2.heap.size U2 w3) := ⟨rs, hB3, hb5⟩
  rw [HZ.out] at rs
  obtain ⟨r0, r1, r2⟩ := heap_cells rs
  have g0 := heap_frozen (o := 0) rs
  have g1 := heap_frozen (o := 1) rs
  have g2 := heap_frozen (o := 2) rs
  generalize w2.heap.size = q2 at d0 d1 d2 ⊢
  clear CS b0 b1 b2 c0 c1' c2' rs hB3 hb5
  go_wp2
  obtain ⟨hrs, hbw3, hb5⟩ := HRS.out
  obtain ⟨V, hV, hv1, hoth, hszV, hbV⟩ := store3 hrs (.int .i64 k2) (.string n2) (.slice ad2 l2 c2)
  rw [HZ.out] at hV hv1 hoth hbV
  rw [← hV]
  obtain ⟨s0, s1, s2⟩ := heap_cells hv1
  refine bodyPost_ret (v := .tuple #[.agg #[.int .i64 k2, .string n2, .slice ad2 l2 c2], .bool true]) (by simp [results, Tryz.results21, go_sem, s0, s1, s2]) rfl ?_
  have hzz := HZ.out
  have hsw := HSW.out
  have hs1 := HB2.out.size
  have hs5 := hb5.size
  obtain ⟨hT, hS⟩ := HT2.out
  refine ⟨hbw3.trans (hbV.mono (by omega)), k2, n2, ad2, l2, c2, D2, t2, rws2, rfl, TyO.mono (by omega) _ _ _ _ (TyO.on _ _ _ _ (fun p hp g hg => ?_) hT), ⟨fun p hp => ?_, hS.2⟩, HFL2.out.2⟩
  · obtain ⟨g', e1, e2, e3⟩ := hS.1 p hp
    rw [hg] at e1
    have := Option.some.inj e1
    rw [hoth g (by omega)]
    exact hb5.block g (by omega)
  · obtain ⟨g', e1, e2, e3⟩ := hS.1 p hp
    exact ⟨g', e1, by omega, by omega⟩
end Go.Proofs.YthcejnpknjepfaaGreat
