/- LexPrints answers true at every input, and leaves what it was handed as it was: the row's statement, and the tied card. The listed package-level variables (tables that lex and the library read) are as the program's own text lays them; nothing else is assumed. -/
import Derived.Test.YtkfhdmkdkphmoaaDoorRC
import Derived.Test.YtkfhdmkdkphmoaaDoorLL
import Derived.Test.YtkfhdmkdkphmoaaDoorTie
import Derived.Test.YtkfhdmkdkphmoaaDoorCards
import Derived.SevenTiedAt
import Derived.Carry
namespace Go.Proofs.YtkfhdmkdkphmoaaDoor
open Go.ChangeShapes Go.WideShapes Go.RowKit Go.ChangeMaps

theorem Tryd.powT : (Tryd.prog.globals[3]?).map (·.type) = some 122 := by kernel_rfl
theorem Tryd.cells109 : Tryd.prog.cellsOf 109 = 1 := by kernel_rfl
theorem Tryd.cells122 : Tryd.prog.cellsOf 122 = 20 := by kernel_rfl
theorem Tryd.bytes28 : Tryd.prog.bytesOf 28 = 40 := by kernel_rfl
theorem pow_tab : (Rows.laid_internal_strconv_uint64pow10 : DataW Unit) = Lib.tabData .u64 Lib.pow10Tab := by rfl

theorem pt_of_laid {W : World} (h : laidMet Tryd.prog laid4 W) : Pt W := by
  obtain ⟨ps, hv, _⟩ := h
  obtain ⟨_, _, _, _, _, _, _, _, _, _, hv1, _⟩ := hv
  obtain ⟨_, _, _, _, _, _, _, _, _, _, hv2, _⟩ := hv1
  obtain ⟨g, t, cs, fuel, p, q, hg, ht, hvar, hd, _, _⟩ := hv2
  obtain rfl := Option.some.inj (Tryd.powG.symm.trans hg)
  obtain rfl := Option.some.inj (Tryd.powT.symm.trans ht)
  rw [pow_tab] at hd
  have hc := Lib.cells_of_tab Tryd.underlying122 Tryd.underlying109 Tryd.cells109 Tryd.cells122 hd
  show Lib.TabIs _ _ _ _ _
  unfold Lib.TabIs
  rw [hvar, ← hc]
theorem pt_of_laidH {W : World} (h : laidMetH Tryd.prog laid4 W) : Pt W := by
  rw [MakeChecks.laidMetH_plain _ _ _ (by kernel_rfl)] at h
  exact pt_of_laid h

theorem Tryd.laidOut : laidOutB Tryd.prog = true := by kernel_rfl

theorem weights_mem_all {H : Type} {P : Program} {e : TypeId} : ∀ {l : List (DataW H)} {d : DataW H}, d ∈ l → ∀ x ∈ d.weights P e, x ∈ DataW.weightsAll P e l
  | a :: r, d, hd, x, hx => by
    simp only [DataW.weightsAll, List.mem_append]
    rcases List.mem_cons.1 hd with rfl | h
    · exact Or.inl hx
    · exact Or.inr (weights_mem_all h x hx)

theorem tok_sized {H : Type} {enc : TypeId × Value → H} {W : World} {base : Nat} {sp : Nat → Bool} {held : Bool} {fuel : Nat} {cs : List Value} {x : DataW H × List MemPlace} (h : DataW.trod enc Tryd.prog W base sp held fuel 28 cs = some x) :
    ∃ (k : Int) (s : ByteArray) (n a : Int), cs = [.int .i64 k, .string s, .int .i64 n, .int .i64 a] ∧ (-9223372036854775808 ≤ k ∧ k ≤ 9223372036854775807) ∧ s.size ∈ x.1.weights Tryd.prog 28 := by
  obtain ⟨xs, m, _, hx, hlen, hxl, hf⟩ := DataW.trod_struct Tryd.underlying28 h
  rw [Tryd.cells28] at hlen
  obtain ⟨c0, c1, c2, c3, rfl⟩ := list4 hlen
  obtain ⟨y0, y1, y2, y3, rfl⟩ := list4 (show xs.length = 4 from hxl)
  have g0 : DataW.trod enc Tryd.prog W base sp held m 3 (([c0, c1, c2, c3].drop 0).take (Tryd.prog.cellsOf 3)) = some y0 := hf 0 _ rfl
  have g1 : DataW.trod enc Tryd.prog W base sp held m 9 (([c0, c1, c2, c3].drop 1).take (Tryd.prog.cellsOf 9)) = some y1 := hf 1 _ rfl
  have g2 : DataW.trod enc Tryd.prog W base sp held m 3 (([c0, c1, c2, c3].drop 2).take (Tryd.prog.cellsOf 3)) = some y2 := hf 2 _ rfl
  have g3 : DataW.trod enc Tryd.prog W base sp held m 3 (([c0, c1, c2, c3].drop 3).take (Tryd.prog.cellsOf 3)) = some y3 := hf 3 _ rfl
  rw [Tryd.cells3] at g0 g2 g3
  rw [Tryd.cells9] at g1
  obtain ⟨k, e0, _, hk⟩ := DataW.trod_int Tryd.underlying3 g0
  obtain ⟨s, e1, hy1, _⟩ := DataW.trod_string Tryd.underlying9 g1
  obtain ⟨n, e2, _, _⟩ := DataW.trod_int Tryd.underlying3 g2
  obtain ⟨a, e3, _, _⟩ := DataW.trod_int Tryd.underlying3 g3
  simp at e0 e1 e2 e3
  have hk' : (decide (IntKind.i64.min ≤ k) && decide (k ≤ IntKind.i64.max)) = true := hk
  rw [Bool.and_eq_true, show IntKind.i64.min = -9223372036854775808 by decide, show IntKind.i64.max = 9223372036854775807 by decide] at hk'
  refine ⟨k, s, n, a, by rw [e0, e1, e2, e3], ⟨of_decide_eq_true hk'.1, of_decide_eq_true hk'.2⟩, ?_⟩
  subst hx
  subst hy1
  show s.size ∈ DataW.weights Tryd.prog 28 (.agg [y0.1, .lit (.string s.data.toList), y2.1, y3.1])
  unfold DataW.weights
  rw [Tryd.underlying28]
  exact DataW.weights_mem_each (j := 1) (t := 9) rfl rfl _ (by simp [DataW.weights])

set_option maxRecDepth 100000 in
theorem open_sized {H : Type} {enc : TypeId × Value → H} {W : World} {r : Reach} {b0 : Nat} {v : Value} {d : DataW H} {ps : List MemPlace} (hval : Value.okWide Tryd.prog W r b0 22 v) (h : DataW.Trod enc Tryd.prog W 0 (fun _ => true) true 22 v d ps) (hz : ∀ x ∈ d.weights Tryd.prog 22, x ≤ reachBytes) :
    ∃ (n : Nat) (K : Nat → Int) (S : Nat → ByteArray) (N A : Nat → Int), RowI W v n K S N A ∧ n * 40 ≤ reachBytes ∧ (∀ j, j < n → (S j).size ≤ reachBytes) ∧ ∀ j, j < n → -9223372036854775808 ≤ K j ∧ K j ≤ 9223372036854775807 := by
  have naught : ∀ ad cap, ∃ (n : Nat) (K : Nat → Int) (S : Nat → ByteArray) (N A : Nat → Int), RowI W (.slice ad 0 cap) n K S N A ∧ n * 40 ≤ reachBytes ∧ (∀ j, j < n → (S j).size ≤ reachBytes) ∧ ∀ j, j < n → -9223372036854775808 ≤ K j ∧ K j ≤ 9223372036854775807 := fun ad cap =>
    ⟨0, fun _ => 0, fun _ => ⟨#[]⟩, fun _ => 0, fun _ => 0, .inl ⟨_, _, rfl, rfl⟩, by omega, fun j hj => by omega, fun j hj => by omega⟩
  obtain ⟨ad, len0, cap0, rfl⟩ := okWide_slice Tryd.underlying22 hval
  obtain ⟨fuel, hf⟩ := h
  rcases Deep.open_slice Tryd.underlying22 hf with ⟨hcs, _⟩ | ⟨a, len, cap, m, n', D, Pl, hcs, _, hlc, hcm, hm, hxx, hx⟩
  · simp [Value.cells] at hcs
    obtain ⟨rfl, rfl, rfl⟩ := hcs
    exact naught _ _
  · simp [Value.cells] at hcs
    obtain ⟨rfl, rfl, rfl⟩ := hcs
    simp at hm
    subst hm
    rw [Tryd.cells28] at hx
    by_cases h0 : len0 = 0
    · subst h0
      exact naught _ _
    · clear naught
      have hd : d = .slice ((List.range len0).map D) ((List.range (m - len0)).map fun j => D (len0 + j)) := congrArg Prod.fst hxx
      have hw' := hz ((((List.range len0).map D).length + ((List.range (m - len0)).map fun j => D (len0 + j)).length) * Tryd.prog.bytesOf 28) (by
        rw [hd]
        unfold DataW.weights
        rw [Tryd.underlying22]
        exact List.mem_cons_self)
      rw [Tryd.bytes28] at hw'
      simp at hw'
      have each : ∀ i, i < len0 → ∃ q : Int × ByteArray × Int × Int, W.cell? (a.add (i * 4)) = some (.int .i64 q.1) ∧ W.cell? (a.add (i * 4 + 1)) = some (.string q.2.1) ∧ W.cell? (a.add (i * 4 + 2)) = some (.int .i64 q.2.2.1) ∧ W.cell? (a.add (i * 4 + 3)) = some (.int .i64 q.2.2.2) ∧ q.2.1.size ≤ reachBytes ∧ -9223372036854775808 ≤ q.1 ∧ q.1 ≤ 9223372036854775807 := by
        intro i hi
        obtain ⟨cs', c1, c2⟩ := hx i (by omega)
        obtain ⟨_, _, hcell⟩ := World.cells?_some c1
        obtain ⟨k, s, n, at', rfl, hk, hs⟩ := tok_sized c2
        have e0 := hcell 0 (by omega)
        have e1 := hcell 1 (by omega)
        have e2 := hcell 2 (by omega)
        have e3 := hcell 3 (by omega)
        rw [Deep.add_add] at e0 e1 e2 e3
        refine ⟨(k, s, n, at'), e0, e1, e2, e3, hz _ ?_, hk⟩
        rw [hd]
        unfold DataW.weights
        rw [Tryd.underlying22]
        refine List.mem_cons_of_mem _ (List.mem_append_left _ (weights_mem_all (d := D i) (List.mem_map.2 ⟨i, by simpa using hi, rfl⟩) _ hs))
      obtain ⟨q, hq⟩ := Deep.choose_lt each
      have hsp := cell_spot (by have := (hq 0 (by omega)).1; rw [Nat.zero_mul] at this; exact this : W.cell? (a.add 0) = some _)
      have ha : a = ⟨a.block, a.off, none⟩ := hsp
      generalize a.block = g at ha
      generalize a.off = o at ha
      subst ha
      refine ⟨len0, fun i => (q i).1, fun i => (q i).2.1, fun i => (q i).2.2.1, fun i => (q i).2.2.2, .inr ⟨g, o, _, rfl, hlc, ?_, ?_⟩, by omega, fun j hj => (hq j hj).2.2.2.2.1, fun j hj => (hq j hj).2.2.2.2.2⟩
      · have := (hq 0 (by omega)).1
        rw [add_at] at this
        exact World.block_lt_of_cell? W _ this
      · intro j hj
        obtain ⟨b1, b2, b3, b4, _⟩ := hq j hj
        rw [add_at] at b1 b2 b3 b4
        simp only [Nat.add_assoc] at b1 b2 b3 b4 ⊢
        exact ⟨b1, b2, b3, b4⟩

set_option maxRecDepth 100000 in
theorem lexPrints_lifted (os : Os) (started : os.Started) (H : Type) (enc : TypeId × Value → H) :
    ReturnsInHanded {} Tryd.checked os 3 .any (fun w args => (Rows.lexPrintsSpec.pre enc Tryd.prog Tryd.f3 [] false w args ∧ laidMetH Tryd.prog laid4 w) ∧ sizedMet enc Tryd.prog Tryd.f3 (OpenSpec.ofChange Rows.lexPrintsSpec) false w args)
      (Rows.lexPrintsSpec.post enc Tryd.prog Tryd.f3 false true false false) := by
  refine returnsInHanded_of_change_and (C := Tryd.checked) (X := fun w _ => laidMetH Tryd.prog laid4 w) (fun _ _ _ hh h => h.of_heap hh) Tryd.own started (by kernel_rfl) Tryd.func3
    (ChangeSpec.witness_shaped (enc := enc) (C := Tryd.checked) (os := os) (X := fun w _ => laidMetH Tryd.prog laid4 w) false (World.doorLaid Tryd.prog 36 os) #[.slice none 0 0, .slice none 0 0] 8 rfl (World.shaped_of_RefB (by kernel_rfl) (by kernel_rfl)) (by kernel_rfl) (by kernel_rfl) (by kernel_rfl) (door_met os _)) ?_
  intro W base args ds gs before hval0 hW _ hsz0 hL _
  have hval : ∀ (j : Nat) t v, Tryd.f3.params[j]? = some t → args[j]? = some v → Value.okWide Tryd.prog W .any base t v := hval0
  have hsz : (DataW.weightsEach Tryd.prog (Tryd.f3.params.toList ++ Rows.lexPrintsSpec.plain.varTypes Tryd.prog) (ds ++ gs)).all (· ≤ reachBytes) = true := hsz0
  have hW' := hW
  obtain ⟨p, q, hA0, hV0, rfl, hfz, hnd⟩ := hW
  have hA : DataW.TrodAll enc Tryd.prog W 0 (fun _ => true) true Tryd.f3.params.toList args.toList ds p := hA0
  have hV : DataW.TrodVars enc Tryd.prog W (fun _ => true) [] gs q := hV0
  rw [Tryd.params3] at hA hval hsz
  obtain ⟨v0, v1, d0, d1, p0, p1, rfl, rfl, rfl, h0, h1⟩ := trodAll_two hA
  obtain ⟨rfl, rfl⟩ := trodVars_none hV
  have z0 : ∀ x ∈ d0.weights Tryd.prog 22, x ≤ reachBytes := fun x hx => by simpa using List.all_eq_true.1 hsz _ (DataW.weights_mem_each (j := 0) (t := 22) rfl rfl x hx)
  have z1 : ∀ x ∈ d1.weights Tryd.prog 22, x ≤ reachBytes := fun x hx => by simpa using List.all_eq_true.1 hsz _ (DataW.weights_mem_each (j := 1) (t := 22) rfl rfl x hx)
  obtain ⟨n, K, S, N, A, hrow, hn, hS, hK⟩ := open_sized (hval 0 22 v0 rfl rfl) h0 z0
  obtain ⟨m, K', S', N', A', hrow', hm, hS', hK'⟩ := open_sized (hval 1 22 v1 rfl rfl) h1 z1
  have hlt : ∀ x ∈ p0 ++ p1, x.block < W.heap.size := fun x hx => by simpa using hW'.lt x (by simpa using hx)
  have hcl := cl_of_laidH hL
  have e1 : Rows.lexPrintsSpec.fn H ([d0, d1] ++ []) = { results := [.lit (.bool true)], args := [d0, d1] } := rfl
  unfold reachBytes at hn hm hS hS'
  refine (prints_any v0 v1 n m K N A K' N' A' S S' W hcl (pt_of_laidH hL) (cl_lt hcl) hrow hrow' (by omega) (by omega) (fun j hj => by have := hS j hj; omega) (fun j hj => by have := hS' j hj; omega) hK hK').mono fun e W' ⟨he, hbel⟩ => ?_
  subst he
  refine ⟨_, rfl, _, _, _, [], p0 ++ p1, [], hW', ?_, ?_, ?_, hbel.frame _, fun h => by cases h⟩
  · rw [e1]; exact trodAll_mk1 (shut_bool Tryd.underlying4 true)
  · rw [e1]; exact trodAll_mk2 (Below.trod Tryd.laidOut (by kernel_rfl) (of_decide_eq_true (by kernel_rfl)) h0 hbel (fun x hx => hlt x (List.mem_append_left _ hx))) (Below.trod Tryd.laidOut (by kernel_rfl) (of_decide_eq_true (by kernel_rfl)) h1 hbel (fun x hx => hlt x (List.mem_append_right _ hx)))
  · rw [e1]; rfl

theorem lexPrints_row : Rows.LexPrintsSaid :=
  OpenClaim.holds_of_wide 3 Tryd.f3 rfl rfl rfl rfl rfl rfl rfl ⟨rfl, rfl, rfl, rfl, rfl⟩ rfl rfl rfl rfl rfl (by kernel_rfl) Tryd.func3 (by kernel_rfl)
    (of_decide_eq_true (by kernel_rfl)) (by unfold Func.isWrapper; rw [if_neg (of_decide_eq_false (by kernel_rfl))]; exact ⟨rfl, rfl⟩)
    (fun os started H enc _ => lexPrints_lifted os started H enc)

theorem lexPrints_holds : Rows.LexPrintsCardSaid :=
  Claim7.holds_tied_plain_at .later [] [.data, .data, .data, .data] true (true, "c01a6ca51acdbc5e4b3e17c3601c9e98de2a2175dabf0679d1626cb642532db4") true
    lexPrints_row (fun _ h => by cases h) (by kernel_rfl) (fun _ h => by cases h) lexPrints_row_tie rfl ⟨rfl, rfl⟩ (by kernel_rfl) rfl
    (fun f fn hf hfn => by
      obtain rfl : f = 3 := Option.some.inj ((show Tryd.prog.funcNamed "sloth/slothlaw01.LexPrints" = some 3 by kernel_rfl).symm.trans hf) |>.symm
      obtain rfl : fn = Tryd.f3 := (Option.some.inj (Tryd.func3.symm.trans hfn)).symm
      exact ⟨by kernel_rfl, fun j t ht => by
        rw [Tryd.params3] at ht
        have h3 : t = 22 := by
          rcases j with _ | _ | j
          · simpa using ht.symm
          · simpa using ht.symm
          · simp at ht
        subst h3
        exact (show Tryd.prog.wantsStandIn 22 = false by kernel_rfl)⟩)
    (by kernel_rfl)
#print axioms lexPrints_holds
end Go.Proofs.YtkfhdmkdkphmoaaDoor
