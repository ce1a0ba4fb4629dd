/- TypesInstance answers true at every two types, and leaves what it was handed as it was: the row's statement. No condition is added. -/
import Derived.Test.YthcejnpknjepfaaGreatMsx
import Derived.Test.YthcejnpknjepfaaGreatMwx
import Derived.Test.YthcejnpknjepfaaGreatOq
import Derived.Test.YthcejnpknjepfaaGreatFk
namespace Go.Proofs.YthcejnpknjepfaaGreat
open Go.ChangeShapes Go.WideShapes Go.RowKit

set_option maxHeartbeats 8000000 in
set_option maxRecDepth 10000 in
theorem instance_great (d d2 : Nat) (t : Tn d) (s : Tn d2) (k k' : Int) (n n' : ByteArray) (ad ad' : Option Addr) (len len' cap cap' : Nat) (w : World) (h : TyAt w w.heap.size d (.agg #[.int .i64 k, .string n, .slice ad len cap]) t) (h' : TyAt w w.heap.size d2 (.agg #[.int .i64 k', .string n', .slice ad' len' cap']) s) (hg : (greatT d t || greatT d2 s) = true) :
    Calls Tryz.prog 4 #[.agg #[.int .i64 k, .string n, .slice ad len cap], .agg #[.int .i64 k', .string n', .slice ad' len' cap']] w fun r w' => r = .returned (.bool true) ∧ Below w.heap.size w w' := by
  obtain ⟨V, hV, hbV, X0⟩ := Bx.new h
  obtain ⟨W, hW, hbW, X1⟩ := Bx.new (TyAt.below hbV hbV.size _ _ _ h')
  have X0 := X0.on hbW
  have hsV : V.heap.size = w.heap.size + 1 := by rw [hV]; simp
  rw [hsV] at X1
  have HB : Hid (Below w.heap.size w W) := hbV.trans (hbW.mono hbV.size)
  have CG := great_any _ _ t W X0.tree
  have HX1 : Hid (∀ w1, Below W.heap.size W w1 → Bx w1 (w.heap.size + 1) k' n' ad' len' cap' d2 s) := fun w1 h1 => X1.on h1
  have HG := fun w1 (hb : Below W.heap.size W w1) => great_any _ _ s w1 (X1.on hb).tree
  have hWe : W = (w.alloc (Obj.cells #[.int .i64 k, .string n, .slice ad len cap] 25)).alloc (Obj.cells #[.int .i64 k', .string n', .slice ad' len' cap'] 25) := by rw [hW, hV]
  generalize greatT d t = g0 at CG hg
  generalize greatT d2 s = g1 at HG hg
  clear hW hV hbV hbW hsV h h' X1
  obtain ⟨x0, x1, x2⟩ : _ ∧ _ ∧ _ := ⟨X0.c0, X0.c1, X0.c2⟩
  clear X0
  cases g0 with
  | true =>
    go_enter Tryz.func4, Tryz.ntmps4
    go_upto_region 1 with fail
    rw [← hWe]
    generalize hz : w.heap.size = z at x0 x1 x2 HX1 ⊢
    clear hWe hz
    go_upto_region 2 with (go_at_call 12; (with_reducible refine Calls.mono CG ?_); rintro e' w1 ⟨rfl, hb⟩)
    have C2 := HG w1 hb
    have XX := HX1.out w1 hb
    obtain ⟨y0, y1, y2⟩ : _ ∧ _ ∧ _ := ⟨XX.c0, XX.c1, XX.c2⟩
    have HB1 := HB.out.trans (hb.mono HB.out.size)
    clear XX HG CG x0 x1 x2 hb
    go_wp2_with (go_at_call 12; (with_reducible refine Calls.mono C2 ?_); rintro e' w2 ⟨rfl, hb2⟩)
    go_ret
    exact ⟨rfl, HB1.trans (hb2.mono HB1.size)⟩
  | false =>
    have hg1 : g1 = true := by simpa using hg
    subst hg1
    go_enter Tryz.func4, Tryz.ntmps4
    go_upto_region 1 with fail
    rw [← hWe]
    generalize hz : w.heap.size = z at x0 x1 x2 HX1 ⊢
    clear hWe hz
    go_upto_region 2 with (go_at_call 12; (with_reducible refine Calls.mono CG ?_); rintro e' w1 ⟨rfl, hb⟩)
    have C2 := HG w1 hb
    have XX := HX1.out w1 hb
    obtain ⟨y0, y1, y2⟩ : _ ∧ _ ∧ _ := ⟨XX.c0, XX.c1, XX.c2⟩
    have HB1 := HB.out.trans (hb.mono HB.out.size)
    clear XX HG CG x0 x1 x2 hb
    go_wp2_with (go_at_call 12; (with_reducible refine Calls.mono C2 ?_); rintro e' w2 ⟨rfl, hb2⟩)
    go_ret
    exact ⟨rfl, HB1.trans (hb2.mono HB1.size)⟩
theorem instance_law (hA : Wakes) (d d2 : Nat) (x y : Value) (t : Tn d) (s : Tn d2) (w : World) (h : TyAt w w.heap.size d x t) (h' : TyAt w w.heap.size d2 y s) :
    Calls Tryz.prog 4 #[x, y] w fun r w' => r = .returned (.bool true) ∧ Below w.heap.size w w' := by
  obtain ⟨k, n, ad, len, cap, rfl⟩ := tree_form h
  obtain ⟨k', n', ad', len', cap', rfl⟩ := tree_form h'
  cases hg : (greatT d t || greatT d2 s) with
  | true => exact instance_great d d2 t s k k' n n' ad ad' len len' cap cap' w h h' hg
  | false =>
    rw [Bool.or_eq_false_iff] at hg
    exact instance_small owns_three hA d d2 t s k k' n n' ad ad' len len' cap cap' w h h' hg.1 hg.2
set_option maxRecDepth 100000 in
theorem typesInstance_lifted (hA : Wakes) (os : Os) (started : os.Started) (H : Type) (enc : TypeId × Value → H) :
    ReturnsInHanded {} Tryz.checked os 4 .any (Rows.typesInstanceSpec.pre6 enc Tryz.prog Tryz.f4 Rows.typesInstanceRow.domain false) (Rows.typesInstanceSpec.post enc Tryz.prog Tryz.f4 false true false false) := by
  refine returnsInHanded_of_change_sized (C := Tryz.checked) Tryz.own started (by kernel_rfl) Tryz.func4
    (ChangeSpec.witness6 (enc := enc) (C := Tryz.checked) false ⟨#[], #[zeroT, zeroT], []⟩ 8 (by kernel_rfl) (by kernel_rfl) (by kernel_rfl) (by kernel_rfl)) ?_
  intro W base args ds gs before hval0 hW _ hsz0 _
  have hval : ∀ (j : Nat) t v, Tryz.f4.params[j]? = some t → args[j]? = some v → Value.okWide Tryz.prog W .any base t v := hval0
  have hsz : (DataW.weightsEach Tryz.prog (Tryz.f4.params.toList ++ Rows.typesInstanceSpec.plain.varTypes Tryz.prog) (ds ++ gs)).all (· ≤ reachBytes) = true := hsz0
  have hW' := hW
  obtain ⟨p, q, hA0, hV0, rfl, hfz, hnd⟩ := hW
  have hA1 : DataW.TrodAll enc Tryz.prog W 0 (fun _ => true) true Tryz.f4.params.toList args.toList ds p := hA0
  have hV : DataW.TrodVars enc Tryz.prog W (fun _ => true) [] gs q := hV0
  rw [Tryz.params4] at hA1 hval hsz
  obtain ⟨v0, v1, d0, d1, p0, p1, rfl, rfl, rfl, h0, h1⟩ := trodAll_two hA1
  obtain ⟨rfl, rfl⟩ := trodVars_none hV
  have z0 : ∀ x ∈ d0.weights Tryz.prog 25, x ≤ reachBytes := fun x hx => by simpa using List.all_eq_true.1 hsz _ (DataW.weights_mem_each (j := 0) (t := 25) rfl rfl x hx)
  have z1 : ∀ x ∈ d1.weights Tryz.prog 25, x ≤ reachBytes := fun x hx => by simpa using List.all_eq_true.1 hsz _ (DataW.weights_mem_each (j := 1) (t := 25) rfl rfl x hx)
  obtain ⟨n, t, hT⟩ := open_type (hval 0 25 v0 rfl rfl) h0 z0
  obtain ⟨m, s, hS⟩ := open_type (hval 1 25 v1 rfl rfl) h1 z1
  have hlt : ∀ x ∈ p0 ++ p1, x.block < W.heap.size := fun x hx => by simpa using hW'.lt x (by simpa using hx)
  have e1 : Rows.typesInstanceSpec.fn H ([d0, d1] ++ []) = { results := [.lit (.bool true)], args := [d0, d1] } := rfl
  refine (instance_law hA n m v0 v1 t s W hT hS).mono fun e W' ⟨he, hbel⟩ => ?_
  subst he
  refine ⟨_, rfl, _, _, _, [], p0 ++ p1, [], hW', ?_, ?_, ?_, hbel.frame _, fun h => by cases h⟩
  · rw [e1]; exact trodAll_mk1 (shut_bool Tryz.underlying4 true)
  · rw [e1]; exact trodAll_mk2 (Below.trod Tryz.laidOut (by kernel_rfl) (of_decide_eq_true (by kernel_rfl)) h0 hbel (fun x hx => hlt x (List.mem_append_left _ hx))) (Below.trod Tryz.laidOut (by kernel_rfl) (of_decide_eq_true (by kernel_rfl)) h1 hbel (fun x hx => hlt x (List.mem_append_right _ hx)))
  · rw [e1]; rfl

theorem typesInstance_row (hA : Wakes) : Rows.TypesInstanceSaid :=
  OpenClaim.holds_of_wide 4 Tryz.f4 rfl rfl rfl rfl rfl rfl rfl ⟨rfl, rfl, rfl, rfl, rfl⟩ rfl rfl rfl rfl rfl (by kernel_rfl) Tryz.func4 (by kernel_rfl)
    (of_decide_eq_true (by kernel_rfl)) (by unfold Func.isWrapper; rw [if_neg (of_decide_eq_false (by kernel_rfl))]; exact ⟨rfl, rfl⟩)
    (fun os started H enc _ => typesInstance_lifted hA os started H enc)

theorem typesInstance_holds : Rows.TypesInstanceSaid := typesInstance_row wake_all
#print axioms typesInstance_holds
end Go.Proofs.YthcejnpknjepfaaGreat
