/- awake's walk: the document's examples are answered. -/
import Derived.Test.YthcejnpknjepfaaGreatDoorGl
import Derived.Test.YthcejnpknjepfaaGreatDoorMo
import Derived.Test.YthcejnpknjepfaaGreatDoorMw
import Derived.Test.YthcejnpknjepfaaGreatDoorBd
namespace Go.Proofs.YthcejnpknjepfaaGreatDoor
open Go.RowKit Go.Maps

set_option maxRecDepth 10000 in
theorem variable_at (n : ByteArray) (w : World) : Calls Tryz.prog 20 #[.string n] w fun e w' => e = .returned (.agg #[.int .i64 2, .string n, .slice none 0 0]) ∧ Below w.heap.size w w' := by
  go_enter Tryz.func20, Tryz.ntmps20
  go_wp2
  obtain ⟨W, hW, hbW, _, s0, s1, s2⟩ := cells_box w (.int .i64 2) (.string n) (.slice none 0 0) 24
  rw [← hW]
  refine bodyPost_ret (v := .agg #[.int .i64 2, .string n, .slice none 0 0]) (by simp [results, Tryz.results20, go_sem, s0, s1, s2]) rfl ?_
  exact ⟨rfl, hbW⟩
set_option maxRecDepth 10000 in
theorem integer_at (w : World) : Calls Tryz.prog 22 #[] w fun e w' => e = .returned (.agg #[.int .i64 1, .string ⟨#[]⟩, .slice none 0 0]) ∧ Below w.heap.size w w' := by
  go_enter Tryz.func22, Tryz.ntmps22
  go_wp2
  obtain ⟨W, hW, hbW, _, s0, s1, s2⟩ := cells_box w (.int .i64 1) (.string ⟨#[]⟩) (.slice none 0 0) 24
  rw [← hW]
  refine bodyPost_ret (v := .agg #[.int .i64 1, .string ⟨#[]⟩, .slice none 0 0]) (by simp [results, Tryz.results22, go_sem, s0, s1, s2]) rfl ?_
  exact ⟨rfl, hbW⟩
set_option maxRecDepth 10000 in
theorem function_at (k1 k2 : Int) (n1 n2 : ByteArray) (w : World) : Calls Tryz.prog 19 #[.agg #[.int .i64 k1, .string n1, .slice none 0 0], .agg #[.int .i64 k2, .string n2, .slice none 0 0]] w fun e w' => ∃ q, e = .returned (.agg #[.int .i64 3, .string ⟨#[]⟩, .slice (some ⟨q, 0, none⟩) 2 2]) ∧ w'.heap[q]? = some (.cells #[.int .i64 k1, .string n1, .slice none 0 0, .int .i64 k2, .string n2, .slice none 0 0] 24 (0, 0)) ∧ Below w.heap.size w w' := by
  go_enter Tryz.func19, Tryz.ntmps19
  go_wp2
  obtain ⟨V, hV⟩ : ∃ V, V = (w.alloc (Obj.cells #[.int .i64 k1, .string n1, .slice none 0 0] 24)).alloc (Obj.cells #[.int .i64 k2, .string n2, .slice none 0 0] 24) := ⟨_, rfl⟩
  have hbV : Below w.heap.size w V := by rw [hV]; exact ((Below.refl _ _).alloc (Nat.le_refl _) _).alloc (by simp) _
  have hsV : V.heap.size = w.heap.size + 1 + 1 := by rw [hV]; simp
  rw [← hV]
  clear hV
  rw [← hsV]
  have hs0 : w.heap.size ≤ V.heap.size := hbV.size
  obtain ⟨W, hW⟩ : ∃ W, W = (V.alloc (Obj.cells #[.int .i64 3, .string ⟨#[]⟩, .slice (some ⟨V.heap.size + 1, 0, none⟩) 2 2] 24)).alloc (Obj.cells #[.int .i64 k1, .string n1, .slice none 0 0, .int .i64 k2, .string n2, .slice none 0 0] 24) := ⟨_, rfl⟩
  have hbW : Below V.heap.size V W := by rw [hW]; exact ((Below.refl _ _).alloc (Nat.le_refl _) _).alloc (by simp) _
  have hx : W.heap[V.heap.size]? = some (.cells #[.int .i64 3, .string ⟨#[]⟩, .slice (some ⟨V.heap.size + 1, 0, none⟩) 2 2] 24 (0, 0)) := by rw [hW, Below.heap_alloc _ _ _ (by simp)]; exact heap_alloc_new V _
  have hy : W.heap[V.heap.size + 1]? = some (.cells #[.int .i64 k1, .string n1, .slice none 0 0, .int .i64 k2, .string n2, .slice none 0 0] 24 (0, 0)) := by
    rw [hW]
    have := heap_alloc_new (V.alloc (Obj.cells #[.int .i64 3, .string ⟨#[]⟩, .slice (some ⟨V.heap.size + 1, 0, none⟩) 2 2] 24)) (Obj.cells #[.int .i64 k1, .string n1, .slice none 0 0, .int .i64 k2, .string n2, .slice none 0 0] 24)
    simpa using this
  rw [← hW]
  obtain ⟨s0, s1, s2⟩ := heap_cells hx
  refine bodyPost_ret (v := .agg #[.int .i64 3, .string ⟨#[]⟩, .slice (some ⟨V.heap.size + 1, 0, none⟩) 2 2]) (by simp [results, Tryz.results19, go_sem, s0, s1, s2]) rfl ?_
  exact ⟨_, rfl, hy, hbV.trans (hbW.mono hs0)⟩
def bsA : List Bd := [([97], ⟨1, ((1, []), [])⟩), ([98], ⟨1, ((1, []), [])⟩)]
theorem bd_at {W : World} {B : Nat} {v : Value} (h : W.ownsRow B 53 4 v 2 (bdI 97 ++ bdI 98)) : BdAt W W.heap.size v bsA := by
  obtain ⟨g, cap, rfl, hg, hlt⟩ := h.form (by decide)
  have hcap : 2 ≤ cap := by
    rcases h.2 with ⟨h0, _⟩ | ⟨g', cap', cur, hv, _, _, hc, _⟩
    · cases h0
    · cases hv; exact hc
  refine ⟨some ⟨g, 0, none⟩, cap, rfl, show 2 < 140737488355328 by omega, fun _ => ⟨g, 0, rfl, hcap, hlt, fun j hj => ?_⟩⟩
  have hT : TyAt W W.heap.size 1 (.agg #[.int .i64 1, .string ⟨#[]⟩, .slice none 0 0]) ((1, []), []) := ⟨_, rfl, show 0 < 140737488355328 by omega, show 0 < 140737488355328 by omega, .inl ⟨rfl, none, 0, rfl⟩⟩
  have hk : ∀ w', Below W.heap.size W w' → w'.ownsRow B 53 4 (.slice (some ⟨g, 0, none⟩) 2 cap) 2 (bdI 97 ++ bdI 98) := fun w' hb => own_keep h fun k hk => by
    cases hk
    exact hb.block _ hlt
  match j, hj with
  | 0, _ => exact ⟨show 1 < 140737488355328 by omega, 1, ⟨#[]⟩, none, 0, 0, fun w' hb => ⟨(hk w' hb).cellAt 0 (by decide), (hk w' hb).cellAt 1 (by decide), (hk w' hb).cellAt 2 (by decide), (hk w' hb).cellAt 3 (by decide)⟩, hT⟩
  | 1, _ => exact ⟨show 1 < 140737488355328 by omega, 1, ⟨#[]⟩, none, 0, 0, fun w' hb => ⟨(hk w' hb).cellAt 4 (by decide), (hk w' hb).cellAt 5 (by decide), (hk w' hb).cellAt 6 (by decide), (hk w' hb).cellAt 7 (by decide)⟩, hT⟩
theorem print_x : printV 2 tX = .tuple #[.string ⟨#[40, 97, 32, 45, 62, 32, 98, 41]⟩, .int .i64 0] := by rfl
theorem text_x : textT 2 tX = [40, 97, 32, 45, 62, 32, 98, 41] := by rfl
theorem form_x : formB 2 tX = true := by rfl
set_option maxHeartbeats 8000000 in
set_option maxRecDepth 10000 in
theorem wakes_of (hR : Reads 23) : Wakes := by
  intro w
  have CV := variable_at
  have CF := function_at 2 2 ⟨#[97]⟩ ⟨#[98]⟩
  go_enter Tryz.func6, Tryz.ntmps6
  go_upto_region 2 with (first
    | (go_at_call 20; (with_reducible refine Calls.mono (CV ⟨#[97]⟩ _) ?_); rintro e' w1 ⟨rfl, b1⟩)
    | (go_at_call 20; (with_reducible refine Calls.mono (CV ⟨#[98]⟩ _) ?_); rintro e' w2 ⟨rfl, b2⟩)
    | (go_at_call 19; (with_reducible refine Calls.mono (CF _) ?_); rintro e' w3 ⟨q, rfl, hq, b3⟩))
  clear CF
  have B3 : Below w.heap.size w w3 := (b1.trans (b2.mono b1.size)).trans (b3.mono (by have := b1.size; have := b2.size; omega))
  obtain ⟨w4, hw4, hb4, hs4, _, _, _⟩ := cells_box w3 (.int .i64 3) (.string ⟨#[]⟩) (.slice (some ⟨q, 0, none⟩) 2 2) 24
  have hz4 : w4.heap[w3.heap.size]? = some (.cells #[.int .i64 3, .string ⟨#[]⟩, .slice (some ⟨q, 0, none⟩) 2 2] 24 (0, 0)) := by rw [hw4]; exact heap_alloc_new w3 _
  rw [← hw4]
  have B4 : Below w.heap.size w w4 := B3.trans (hb4.mono B3.size)
  have hq4 := (hb4.block q (lt_of_heap hq)).trans hq
  have KZ : Hid (∀ W, Below w4.heap.size w4 W → W.heap[w3.heap.size]? = some (.cells #[.int .i64 3, .string ⟨#[]⟩, .slice (some ⟨q, 0, none⟩) 2 2] 24 (0, 0)) ∧ W.heap[q]? = some (.cells #[.int .i64 2, .string ⟨#[97]⟩, .slice none 0 0, .int .i64 2, .string ⟨#[98]⟩, .slice none 0 0] 24 (0, 0))) := fun W hb => ⟨(hb.block _ (lt_of_heap hz4)).trans hz4, (hb.block _ (lt_of_heap hq4)).trans hq4⟩
  have HS : Hid (w.heap.size ≤ w4.heap.size ∧ q < w4.heap.size ∧ w3.heap.size < w4.heap.size) := ⟨B4.size, lt_of_heap hq4, lt_of_heap hz4⟩
  clear hw4 hs4 hb4 hq hq4 B3 b1 b2 b3
  obtain ⟨c0, c1, c2⟩ := heap_cells hz4
  generalize w3.heap.size = z at *
  have CI := integer_at
  have CG := function_at 1 2 ⟨#[]⟩ ⟨#[97]⟩
  go_cut [2, 3, 4] from 14 to 24 (fun a b c wx => ∃ v, a = v ∧ b = .int .i64 0 ∧ c = .int .i64 0 ∧ wx.ownsRow w.heap.size 53 4 v 2 (bdI 97 ++ bdI 98) ∧ Below w4.heap.size w4 wx)
  case first =>
    go_region_held3 (fun w' => w'.cell? ⟨z, 0, none⟩ = some (.int .i64 3) ∧ w'.cell? ⟨z, 1, none⟩ = some (.string ⟨#[]⟩) ∧ w'.cell? ⟨z, 2, none⟩ = some (.slice (some ⟨q, 0, none⟩) 2 2)) (first | exact ⟨c0, c1, c2⟩ | exact ⟨h0, h1, h2⟩ | exact ⟨alloc_keep f0 _, alloc_keep f1 _, alloc_keep f2 _⟩ | exact ⟨f0, f1, f2⟩ | exact ⟨e0, e1, e2⟩ | exact ⟨d0, d1, d2⟩ | assumption | go_keep) (first
      | (go_at_call 22; (with_reducible refine Calls.mono (CI _) ?_); rintro e' w5 ⟨rfl, b5⟩; have B5 : Below w4.heap.size w4 w5 := (Below.refl _ w4).drew.trans b5; obtain ⟨d0, d1, d2⟩ := heap_cells (KZ.out _ B5).1)
      | (go_at_call 20; (with_reducible refine Calls.mono (CV ⟨#[97]⟩ _) ?_); rintro e' w6 ⟨rfl, b6⟩; have B6 : Below w4.heap.size w4 w6 := B5.trans (b6.mono B5.size); obtain ⟨e0, e1, e2⟩ := heap_cells (KZ.out _ B6).1)
      | (go_at_call 19; (with_reducible refine Calls.mono (CG _) ?_); rintro e' w7 ⟨r, rfl, hr7, b7⟩; have B7 : Below w4.heap.size w4 w7 := B6.trans (b7.mono B6.size); obtain ⟨f0, f1, f2⟩ := heap_cells (KZ.out _ B7).1; have bp : Below w7.heap.size w7 (w7.alloc (.cells #[.int .i64 3, .string ⟨#[]⟩, .slice (some ⟨q, 0, none⟩) 2 2, .int .i64 3, .string ⟨#[]⟩, .slice (some ⟨r, 0, none⟩) 2 2] 48)) := (Below.refl _ _).alloc (Nat.le_refl _) _; have CU := unify_xy _ w7.heap.size q r (heap_alloc_new w7 _) ((bp.block _ (lt_of_heap (KZ.out _ B7).2)).trans (KZ.out _ B7).2) ((bp.block _ (lt_of_heap hr7)).trans hr7))
      | (go_at_call 21; (with_reducible refine Calls.mono CU ?_); rintro e' w8 ⟨v8, rfl, o8, b8⟩; have B8 : Below w4.heap.size w4 w8 := (B7.trans (bp.mono B7.size)).trans (b8.mono (by have := B7.size; simp; omega)); obtain ⟨h0, h1, h2⟩ := heap_cells (KZ.out _ B8).1))
    all_goals
      go_wp2_with fail
      go_meet
      exact ⟨v8, rfl, rfl, rfl, own_base o8 (by have := HS.out.1; have := B7.size; simp; omega), B8⟩
  case rest =>
    obtain ⟨v8, rfl, rfl, rfl, o8, B8⟩ := hcut
    generalize wc = w8 at *
    have CP : Calls Tryz.prog 10 #[.agg #[.int .i64 3, .string ⟨#[]⟩, .slice (some ⟨q, 0, none⟩) 2 2]] w8 fun r w' => r = .returned (.tuple #[.string ⟨#[40, 97, 32, 45, 62, 32, 98, 41]⟩, .int .i64 0]) ∧ Below w8.heap.size w8 w' := by
      have := print_any 2 _ tX w8 w8.heap.size (Nat.le_refl _) (tree_at (lt_of_heap (KZ.out _ B8).2) rfl rfl (by decide) (by decide) (KZ.out _ B8).2) (by decide)
      rw [print_x] at this
      exact this
    obtain ⟨h0, h1, h2⟩ := heap_cells (KZ.out _ B8).1
    have CR : ∀ W, Calls Tryz.prog 23 #[.string ⟨#[40, 97, 32, 45, 62, 32, 98, 41]⟩] W (ReadPost W [40, 97, 32, 45, 62, 32, 98, 41]) := fun W => hR _ W (by decide)
    clear CG CV c0 c1 c2
    go_upto_region 5 with (first
      | (go_at_call 10; (with_reducible refine Calls.mono CP ?_); rintro e' w9 ⟨rfl, b9⟩)
      | (go_at_call 23; (with_reducible refine Calls.mono (CR _) ?_); intro e' w10 hpost; obtain ⟨b10, k4, n4, ad4, l4, cp4, e4, d4, t4, rfl, T4, N4, P4, Q4⟩ := hpost.tree))
    have he4 : e4 = 0 := Q4 2 tX form_x text_x (by decide) (by decide)
    subst he4
    have hf4 : flat d4 t4 = flat 2 tX := (text_inj d4 t4 2 tX [] [] (P4 rfl).1 form_x ends_nil ends_nil (by rw [(P4 rfl).2.1, text_x])).1
    have B10 : Below w4.heap.size w4 w10 := (B8.trans (b9.mono B8.size)).trans (b10.mono (by have := B8.size; have := b9.size; omega))
    have o10 : w10.ownsRow w.heap.size 53 4 u2 2 (bdI 97 ++ bdI 98) := own_keep o8 fun k hk => by
      have := (o8.lt k hk).2
      rw [b10.block k (by have := b9.size; omega), b9.block k this]
    obtain ⟨w11, hw11, b11, hs11, _, _, _⟩ := cells_box w10 (.int .i64 k4) (.string n4) (.slice ad4 l4 cp4) 24
    have hz11 : w11.heap[w10.heap.size]? = some (.cells #[.int .i64 k4, .string n4, .slice ad4 l4 cp4] 24 (0, 0)) := by rw [hw11]; exact heap_alloc_new w10 _
    rw [← hw11]
    have B11 : Below w4.heap.size w4 w11 := B10.trans (b11.mono B10.size)
    have o11 : w11.ownsRow w.heap.size 53 4 u2 2 (bdI 97 ++ bdI 98) := own_keep o10 fun k hk => b11.block k (o10.lt k hk).2
    have T11 := TyAt.below b11 b11.size _ _ _ T4
    have HK : Hid (∀ W, Below w11.heap.size w11 W → (W.heap[w10.heap.size]? = some (.cells #[.int .i64 k4, .string n4, .slice ad4 l4 cp4] 24 (0, 0)) ∧ W.heap[z]? = some (.cells #[.int .i64 3, .string ⟨#[]⟩, .slice (some ⟨q, 0, none⟩) 2 2] 24 (0, 0))) ∧ (TyAt W W.heap.size d4 (.agg #[.int .i64 k4, .string n4, .slice ad4 l4 cp4]) t4 ∧ TyAt W W.heap.size 2 (.agg #[.int .i64 3, .string ⟨#[]⟩, .slice (some ⟨q, 0, none⟩) 2 2]) tX) ∧ W.ownsRow w.heap.size 53 4 u2 2 (bdI 97 ++ bdI 98) ∧ Below w.heap.size w W) := fun W hb => by
      have BW := B11.trans (hb.mono B11.size)
      obtain ⟨k1, k2⟩ := KZ.out _ BW
      exact ⟨⟨(hb.block _ (lt_of_heap hz11)).trans hz11, k1⟩, ⟨TyAt.below hb hb.size _ _ _ T11, tree_at (lt_of_heap k2) rfl rfl (by decide) (by decide) k2⟩, own_keep o11 fun k hk => hb.block k (o11.lt k hk).2, B4.trans (BW.mono HS.out.1)⟩
    clear hw11 hs11 b11 hz11 B11 o11 T11 o10 B10 T4 N4 P4 Q4 hpost b9 b10 CP CR h0 h1 h2 o8 B8 hR KZ HS hz4
    generalize w10.heap.size = z5 at *
    have CJ : ∀ W0, Below w11.heap.size w11 W0 → Calls Tryz.prog 24 #[u2, .slice (some ⟨W0.heap.size, 0, none⟩) 2 2] (W0.alloc (.cells #[.string ⟨#[97]⟩, .int .i64 1, .string ⟨#[]⟩, .slice none 0 0, .string ⟨#[98]⟩, .int .i64 1, .string ⟨#[]⟩, .slice none 0 0] 53)) fun r w' => r = .returned (.bool true) ∧ Below w11.heap.size w11 w' := fun W0 hb => by
      have hbl := hb.alloc hb.size (.cells #[.string ⟨#[97]⟩, .int .i64 1, .string ⟨#[]⟩, .slice none 0 0, .string ⟨#[98]⟩, .int .i64 1, .string ⟨#[]⟩, .slice none 0 0] 53)
      have ol := World.ownsRow_lit (base := 0) (e := 53) (size := 4) W0 #[.string ⟨#[97]⟩, .int .i64 1, .string ⟨#[]⟩, .slice none 0 0, .string ⟨#[98]⟩, .int .i64 1, .string ⟨#[]⟩, .slice none 0 0] 2 (by omega) (by decide) rfl
      refine Calls.mono (sameBounds_true _ _ bsA bsA _ _ (Nat.le_refl _) (bd_at (HK.out _ hbl).2.2.1) (bd_at ol) rfl) ?_
      rintro e w' ⟨rfl, hb'⟩
      exact ⟨rfl, hbl.trans (hb'.mono hbl.size)⟩
    go_upto_region 6 with (first
      | (go_at_call 22; (with_reducible refine Calls.mono (CI w11) ?_); rintro e' w12 ⟨rfl, b12⟩)
      | (go_at_call 22; (with_reducible refine Calls.mono (CI w12) ?_); rintro e' w13 ⟨rfl, b13⟩; have b13' := b12.trans (b13.mono b12.size))
      | (go_at_call 24; (with_reducible refine Calls.mono (CJ w13 b13') ?_); rintro e' w14 ⟨rfl, b14⟩))
    obtain ⟨⟨hz1, hz2⟩, ⟨T1, T2⟩, _, _⟩ := HK.out _ b14
    obtain ⟨x0, x1, x2⟩ := heap_cells hz1
    obtain ⟨y0, y1, y2⟩ := heap_cells hz2
    have CS := same_any d4 2 _ _ t4 tX w14 w14.heap.size (Nat.le_refl _) T1 T2
    rw [hf4, decide_eq_true rfl] at CS
    clear T1 T2 CJ CI
    go_wp2_with (first
      | (go_at_call 13; (with_reducible refine Calls.mono CS ?_); rintro e' w15 ⟨rfl, b15⟩))
    go_ret
    exact ⟨rfl, (HK.out _ (b14.trans (b15.mono b14.size))).2.2.2⟩
end Go.Proofs.YthcejnpknjepfaaGreatDoor
