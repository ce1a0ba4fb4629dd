/- TypesApply answers true at every row of bounds and every two types, and leaves what it was handed as it was: the row's statement. No condition is added. -/
import Derived.Test.YthcejnpknjepfaaGreatMrx
import Derived.Test.YthcejnpknjepfaaGreatMux
import Derived.Test.YthcejnpknjepfaaGreatFk
namespace Go.Proofs.YthcejnpknjepfaaGreat
open Go.ChangeShapes Go.WideShapes Go.RowKit

set_option maxHeartbeats 8000000 in
set_option maxRecDepth 10000 in
theorem apply_great (bs : List Bd) (lv : Value) (d d2 : Nat) (t : Tn d) (s : Tn d2) (k k' : Int) (n n' : ByteArray) (ad ad' : Option Addr) (len len' cap cap' : Nat) (w : World) (hl : BdAt w w.heap.size lv bs) (h : TyAt w w.heap.size d (.agg #[.int .i64 k, .string n, .slice ad len cap]) t) (h' : TyAt w w.heap.size d2 (.agg #[.int .i64 k', .string n', .slice ad' len' cap']) s) (hg : (greatB bs || greatT d t || greatT d2 s) = true) :
    Calls Tryz.prog 5 #[lv, .agg #[.int .i64 k, .string n, .slice ad len cap], .agg #[.int .i64 k', .string n', .slice ad' len' cap']] w fun r w' => r = .returned (.bool true) ∧ Below w.heap.size w w' := by
  obtain ⟨V, hV, hbV, X0⟩ := Bx.new h
  obtain ⟨W, hW, hbW, X1⟩ := Bx.new (TyAt.below hbV hbV.size _ _ _ h')
  have X0 := X0.on hbW
  have hsV : V.heap.size = w.heap.size + 1 := by rw [hV]; simp
  rw [hsV] at X1
  have HB : Hid (Below w.heap.size w W) := hbV.trans (hbW.mono hbV.size)
  have CG := greatBounds_any _ bs W W.heap.size (Nat.le_refl _) (hl.below HB.out HB.out.size)
  have hWe : W = (w.alloc (Obj.cells #[.int .i64 k, .string n, .slice ad len cap] 25)).alloc (Obj.cells #[.int .i64 k', .string n', .slice ad' len' cap'] 25) := by rw [hW, hV]
  have HX0 : Hid (∀ w1, Below W.heap.size W w1 → Bx w1 w.heap.size k n ad len cap d t ∧ Bx w1 (w.heap.size + 1) k' n' ad' len' cap' d2 s) := fun w1 h1 => ⟨X0.on h1, X1.on h1⟩
  have HG : Hid (∀ w1, Below W.heap.size W w1 → Calls Tryz.prog 12 #[.agg #[.int .i64 k, .string n, .slice ad len cap]] w1 (fun r w' => r = .returned (.bool (greatT d t)) ∧ Below w1.heap.size w1 w') ∧ Calls Tryz.prog 12 #[.agg #[.int .i64 k', .string n', .slice ad' len' cap']] w1 (fun r w' => r = .returned (.bool (greatT d2 s)) ∧ Below w1.heap.size w1 w')) := fun w1 h1 => ⟨great_any _ _ t w1 (X0.on h1).tree, great_any _ _ s w1 (X1.on h1).tree⟩
  generalize greatB bs = g0 at CG hg
  generalize greatT d t = g1 at HG hg
  generalize greatT d2 s = g2 at HG hg
  clear hW hV hbV hbW hsV h h' X1 X0 hl
  go_enter Tryz.func5, Tryz.ntmps5
  go_upto_region 1 with fail
  rw [← hWe]
  generalize hz : w.heap.size = z at HX0 ⊢
  clear hWe hz
  go_upto_region 2 with (go_at_call 19; (with_reducible refine Calls.mono CG ?_); rintro e' w1 ⟨rfl, hb1⟩)
  have XX := (HX0.out w1 hb1).1
  have C1 := (HG.out w1 hb1).1
  obtain ⟨x0, x1, x2⟩ : _ ∧ _ ∧ _ := ⟨XX.c0, XX.c1, XX.c2⟩
  have HB1 : Hid (Below W.heap.size W w1) := hb1
  clear XX CG hb1
  go_upto_region 3 with (go_at_call 12; (with_reducible refine Calls.mono C1 ?_); rintro e' w2 ⟨rfl, hb2⟩)
  have HB2 : Hid (Below W.heap.size W w2) := HB1.out.trans (hb2.mono HB1.out.size)
  have XX := (HX0.out w2 HB2.out).2
  have C2 := (HG.out w2 HB2.out).2
  clear x0 x1 x2 hb2 C1
  obtain ⟨x0, x1, x2⟩ : _ ∧ _ ∧ _ := ⟨XX.c0, XX.c1, XX.c2⟩
  clear XX HX0 HG HB1
  go_upto_region 4 with (go_at_call 12; (with_reducible refine Calls.mono C2 ?_); rintro e' w3 ⟨rfl, hb3⟩)
  have HB3 : Hid (Below w.heap.size w w3) := (HB.out.trans (HB2.out.mono HB.out.size)).trans (hb3.mono (Nat.le_trans HB.out.size HB2.out.size))
  clear C2 x0 x1 x2 hb3 HB2 HB
  cases g0 with
  | true =>
    go_wp2
    go_ret
    exact ⟨rfl, HB3.out⟩
  | false =>
    cases g1 with
    | true =>
      go_wp2
      go_ret
      exact ⟨rfl, HB3.out⟩
    | false =>
      have hg2 : g2 = true := by simpa using hg
      subst hg2
      go_wp2
      go_ret
      exact ⟨rfl, HB3.out⟩
theorem apply_law (hA : Wakes) (bs : List Bd) (d d2 : Nat) (lv x y : Value) (t : Tn d) (s : Tn d2) (w : World) (hl : BdAt w w.heap.size lv bs) (h : TyAt w w.heap.size d x t) (h' : TyAt w w.heap.size d2 y s) :
    Calls Tryz.prog 5 #[lv, x, y] w fun r w' => r = .returned (.bool true) ∧ Below w.heap.size w w' := by
  obtain ⟨k, n, ad, len, cap, rfl⟩ := tree_form h
  obtain ⟨k', n', ad', len', cap', rfl⟩ := tree_form h'
  cases hg : (greatB bs || greatT d t || greatT d2 s) with
  | true => exact apply_great bs lv d d2 t s k k' n n' ad ad' len len' cap cap' w hl h h' hg
  | false =>
    rw [Bool.or_eq_false_iff, Bool.or_eq_false_iff] at hg
    exact apply_small hA bs lv d d2 t s k k' n n' ad ad' len len' cap cap' w hl h h' hg.1.1 hg.1.2 hg.2
set_option maxRecDepth 100000 in
theorem typesApply_lifted (hA : Wakes) (os : Os) (started : os.Started) (H : Type) (enc : TypeId × Value → H) :
    ReturnsInHanded {} Tryz.checked os 5 .any (Rows.typesApplySpec.pre6 enc Tryz.prog Tryz.f5 Rows.typesApplyRow.domain false) (Rows.typesApplySpec.post enc Tryz.prog Tryz.f5 false true false false) := by
  refine returnsInHanded_of_change_sized (C := Tryz.checked) Tryz.own started (by kernel_rfl) Tryz.func5
    (ChangeSpec.witness6 (enc := enc) (C := Tryz.checked) false ⟨#[], #[.slice none 0 0, zeroT, zeroT], []⟩ 8 (by kernel_rfl) (by kernel_rfl) (by kernel_rfl) (by kernel_rfl)) ?_
  intro W base args ds gs before hval0 hW _ hsz0 _
  have hval : ∀ (j : Nat) t v, Tryz.f5.params[j]? = some t → args[j]? = some v → Value.okWide Tryz.prog W .any base t v := hval0
  have hsz : (DataW.weightsEach Tryz.prog (Tryz.f5.params.toList ++ Rows.typesApplySpec.plain.varTypes Tryz.prog) (ds ++ gs)).all (· ≤ reachBytes) = true := hsz0
  have hW' := hW
  obtain ⟨p, q, hA0, hV0, rfl, hfz, hnd⟩ := hW
  have hA1 : DataW.TrodAll enc Tryz.prog W 0 (fun _ => true) true Tryz.f5.params.toList args.toList ds p := hA0
  have hV : DataW.TrodVars enc Tryz.prog W (fun _ => true) [] gs q := hV0
  rw [Tryz.params5] at hA1 hval hsz
  obtain ⟨v0, v1, v2, d0, d1, d2, p0, p1, p2, rfl, rfl, rfl, h0, h1, h2⟩ := trodAll_three hA1
  obtain ⟨rfl, rfl⟩ := trodVars_none hV
  have z0 : ∀ x ∈ d0.weights Tryz.prog 36, x ≤ reachBytes := fun x hx => by simpa using List.all_eq_true.1 hsz _ (DataW.weights_mem_each (j := 0) (t := 36) rfl rfl x hx)
  have z1 : ∀ x ∈ d1.weights Tryz.prog 25, x ≤ reachBytes := fun x hx => by simpa using List.all_eq_true.1 hsz _ (DataW.weights_mem_each (j := 1) (t := 25) rfl rfl x hx)
  have z2 : ∀ x ∈ d2.weights Tryz.prog 25, x ≤ reachBytes := fun x hx => by simpa using List.all_eq_true.1 hsz _ (DataW.weights_mem_each (j := 2) (t := 25) rfl rfl x hx)
  obtain ⟨bs, hL⟩ := open_bounds (hval 0 36 v0 rfl rfl) h0 z0
  obtain ⟨n, t, hT⟩ := open_type (hval 1 25 v1 rfl rfl) h1 z1
  obtain ⟨m, s, hS⟩ := open_type (hval 2 25 v2 rfl rfl) h2 z2
  have hlt : ∀ x ∈ p0 ++ p1 ++ p2, x.block < W.heap.size := fun x hx => by simpa using hW'.lt x (by simpa using hx)
  have e1 : Rows.typesApplySpec.fn H ([d0, d1, d2] ++ []) = { results := [.lit (.bool true)], args := [d0, d1, d2] } := rfl
  refine (apply_law hA bs n m v0 v1 v2 t s W hL hT hS).mono fun e W' ⟨he, hbel⟩ => ?_
  subst he
  refine ⟨_, rfl, _, _, _, [], p0 ++ (p1 ++ p2), [], hW', ?_, ?_, ?_, hbel.frame _, fun h => by cases h⟩
  · rw [e1]; exact trodAll_mk1 (shut_bool Tryz.underlying4 true)
  · rw [e1]; exact trodAll_mk3 (Below.trod Tryz.laidOut (by kernel_rfl) (of_decide_eq_true (by kernel_rfl)) h0 hbel (fun x hx => hlt x (List.mem_append_left _ (List.mem_append_left _ hx)))) (Below.trod Tryz.laidOut (by kernel_rfl) (of_decide_eq_true (by kernel_rfl)) h1 hbel (fun x hx => hlt x (List.mem_append_left _ (List.mem_append_right _ hx)))) (Below.trod Tryz.laidOut (by kernel_rfl) (of_decide_eq_true (by kernel_rfl)) h2 hbel (fun x hx => hlt x (List.mem_append_right _ hx)))
  · rw [e1]; rfl

theorem typesApply_row (hA : Wakes) : Rows.TypesApplySaid :=
  OpenClaim.holds_of_wide 5 Tryz.f5 rfl rfl rfl rfl rfl rfl rfl ⟨rfl, rfl, rfl, rfl, rfl⟩ rfl rfl rfl rfl rfl (by kernel_rfl) Tryz.func5 (by kernel_rfl)
    (of_decide_eq_true (by kernel_rfl)) (by unfold Func.isWrapper; rw [if_neg (of_decide_eq_false (by kernel_rfl))]; exact ⟨rfl, rfl⟩)
    (fun os started H enc _ => typesApply_lifted hA os started H enc)

theorem typesApply_holds : Rows.TypesApplySaid := typesApply_row wake_all
#print axioms typesApply_holds
end Go.Proofs.YthcejnpknjepfaaGreat
