/- CodeEnds, the stage's theorem, answers true at every input, and leaves what it was handed as it was: the row's statement, and the tied card. The listed package-level variables (tables that package code and the library read, two errors of the library's) are as the program's own text lays them; of the variable that the row names and does not list it speaks for every value; nothing else is assumed. -/
import Derived.Test.YtlpnegnpejpdkabGreatDoorMtx
import Derived.Test.YtlpnegnpejpdkabGreatDoorVg
import Derived.Test.YtlpnegnpejpdkabGreatDoorTie
import Derived.Test.YtlpnegnpejpdkabGreatDoorCards
import Derived.SevenTiedAt
namespace Go.Proofs.YtlpnegnpejpdkabGreatDoor
open Go.ChangeShapes Go.WideShapes Go.RowKit Go.ChangeMaps

theorem Tryz.cellsOf4 : Tryz.prog.cellsOf 4 = 1 := by kernel_rfl
theorem Tryz.bytesOf4 : Tryz.prog.bytesOf 4 = 1 := by kernel_rfl
theorem trod_bool1 {H : Type} {enc : TypeId × Value → H} {W : World} {fuel : Nat} {c : Value} {x : DataW H × List MemPlace} (h : DataW.trod enc Tryz.prog W 0 (fun _ => true) true fuel 4 [c] = some x) : ∃ b, c = .bool b := by
  obtain ⟨b, e, _⟩ := DataW.trod_bool Tryz.underlying4 h
  exact ⟨b, by simpa using e⟩
/-- Bools that were handed in. -/
theorem open_bools {H : Type} {enc : TypeId × Value → H} {W : World} {v : Value} {a : Option Addr} {n k : Nat} (hv : v = .slice a n k) {d : DataW H} {ps : List MemPlace} (h : DataW.Trod enc Tryz.prog W 0 (fun _ => true) true 34 v d ps) (hz : ∀ x ∈ d.weights Tryz.prog 34, x ≤ reachBytes) :
    ∃ m, Bls W v m ∧ m < 140737488355328 := by
  obtain ⟨fuel, hf⟩ := h
  obtain ⟨ad, cap, l, h1, h2, h3⟩ := open_row (α := Bool) 1 1 (fun g o x => g < W.heap.size ∧ W.cell? ⟨g, o, none⟩ = some (.bool x)) Tryz.underlying34 Tryz.cellsOf4 (by decide) Tryz.bytesOf4 (by decide) hf hz (fun n cs' x' h1 h2 h3 g o hg hc => by
    obtain ⟨c0, rfl⟩ := inl1 h3
    obtain ⟨b, rfl⟩ := trod_bool1 h1
    exact ⟨b, hg, hc 0 (by decide)⟩)
  have e1 : v = .slice ad l.length cap := by
    subst hv
    simpa [Value.cells] using h1
  refine ⟨l.length, ?_, h3⟩
  rcases h2 with ⟨h0, _⟩ | ⟨g, o, cap', e2, _, hc, hr⟩
  · exact ⟨ad, cap, e1, fun i hi => by rw [h0] at hi; simp at hi⟩
  · injection e2 with q1 q2 q3
    subst q1 q3
    refine ⟨_, _, e1, fun i hi => ⟨g, o, l[i], rfl, hc, (hr i hi).1, ?_⟩⟩
    have := (hr i hi).2
    rw [Nat.mul_one] at this
    exact this
theorem open_at {H : Type} {enc : TypeId × Value → H} {W : World} {k : Int} {d : DataW H} {ps : List MemPlace} (h : DataW.Trod enc Tryz.prog W 0 (fun _ => true) true 3 (.int .i64 k) d ps) : -9223372036854775808 ≤ k ∧ k ≤ 9223372036854775807 := by
  obtain ⟨fuel, hf⟩ := h
  obtain ⟨n, e, _, hw⟩ := DataW.trod_int Tryz.underlying3 hf
  have e : k = n := by simpa [Value.cells] using e
  subst e
  simp only [Lit.wf, Bool.and_eq_true, decide_eq_true_eq] at hw
  have q1 : IntKind.i64.min = -9223372036854775808 := by decide
  have q2 : IntKind.i64.max = 9223372036854775807 := by decide
  omega
set_option maxRecDepth 100000 in
theorem codeEnds_lifted (os : Os) (started : os.Started) (H : Type) (enc : TypeId × Value → H) :
    ReturnsInHanded {} Tryz.checked os 4 .any (fun w args => (Rows.codeEndsSpec.pre enc Tryz.prog Tryz.f4 [] false w args ∧ laidMetH Tryz.prog laid10 w) ∧ sizedMet enc Tryz.prog Tryz.f4 (OpenSpec.ofChange Rows.codeEndsSpec) false w args)
      (Rows.codeEndsSpec.post enc Tryz.prog Tryz.f4 false true false false) := by
  refine returnsInHanded_of_change_and (C := Tryz.checked) (X := fun w _ => laidMetH Tryz.prog laid10 w) (fun _ _ _ hh h => h.of_heap hh) Tryz.own started (by kernel_rfl) Tryz.func4
    (ChangeSpec.witness_shaped (enc := enc) (C := Tryz.checked) (os := os) (X := fun w _ => laidMetH Tryz.prog laid10 w) false (World.laidAll Tryz.prog os laid10) #[.agg #[.slice none 0 0, .slice none 0 0], .int .i64 0, .slice none 0 0] 8 (World.laidAll_os _ _ _) (World.shaped_of_ZipB (by kernel_rfl) (by kernel_rfl)) (by kernel_rfl) (by kernel_rfl) (by kernel_rfl) (door_met os _)) ?_
  intro W base args ds gs before hval0 hW _ hsz0 hL _
  have hval : ∀ (j : Nat) t v, Tryz.f4.params[j]? = some t → args[j]? = some v → Value.okWide Tryz.prog W .any base t v := hval0
  have hsz : (DataW.weightsEach Tryz.prog (Tryz.f4.params.toList ++ Rows.codeEndsSpec.plain.varTypes Tryz.prog) (ds ++ gs)).all (· ≤ reachBytes) = true := hsz0
  have hW' := hW
  obtain ⟨p, q, hA0, hV0, rfl, hfz, hnd⟩ := hW
  have hA1 : DataW.TrodAll enc Tryz.prog W 0 (fun _ => true) true Tryz.f4.params.toList args.toList ds p := hA0
  have hV : DataW.TrodVars enc Tryz.prog W (fun _ => true) [] gs q := hV0
  rw [Tryz.params4] at hA1 hval hsz
  obtain ⟨v0, v1, v2, d0, d1, d2, p0, p1, p2, rfl, rfl, rfl, h0, h1, h2⟩ := trodAll_three hA1
  obtain ⟨rfl, rfl⟩ := trodVars_none hV
  have z0 : ∀ x ∈ d0.weights Tryz.prog 25, x ≤ reachBytes := fun x hx => by simpa using List.all_eq_true.1 hsz _ (DataW.weights_mem_each (j := 0) (t := 25) rfl rfl x hx)
  have z2 : ∀ x ∈ d2.weights Tryz.prog 34, x ≤ reachBytes := fun x hx => by simpa using List.all_eq_true.1 hsz _ (DataW.weights_mem_each (j := 2) (t := 34) rfl rfl x hx)
  obtain ⟨sv, gv, t, rfl, hT, hsm⟩ := open_table (hval 0 25 v0 rfl rfl) h0 z0
  obtain ⟨k1, rfl⟩ := okWide_int Tryz.underlying3 (hval 1 3 v1 rfl rfl)
  obtain ⟨a2, l2, c2, rfl⟩ := okWide_slice Tryz.underlying34 (hval 2 34 v2 rfl rfl)
  obtain ⟨nw, hM, hml⟩ := open_bools rfl h2 z2
  have hlt : ∀ x ∈ p0 ++ (p1 ++ p2), x.block < W.heap.size := fun x hx => by simpa using hW'.lt x (by simpa using hx)
  have e2 : Rows.codeEndsSpec.fn H ([d0, d1, d2] ++ []) = { results := [.lit (.bool true)], args := [d0, d1, d2] } := rfl
  have hC := ends_any (aw_of_laidH hL) (fun _ h => h) hT hsm (open_at h1) hM hml
  refine hC.mono fun e W' ⟨he, hbel⟩ => ?_
  subst he
  refine ⟨_, rfl, _, _, _, [], p0 ++ (p1 ++ p2), [], hW', ?_, ?_, ?_, hbel.out.frame _, fun h => by cases h⟩
  · rw [e2]; exact trodAll_mk1 (shut_bool Tryz.underlying4 true)
  · rw [e2]
    exact trodAll_mk3 (Below.trod Tryz.laidOut (by kernel_rfl) (of_decide_eq_true (by kernel_rfl)) h0 hbel.out (fun x hx => hlt x (List.mem_append_left _ hx))) (Below.trod Tryz.laidOut (by kernel_rfl) (of_decide_eq_true (by kernel_rfl)) h1 hbel.out (fun x hx => hlt x (List.mem_append_right _ (List.mem_append_left _ hx)))) (Below.trod Tryz.laidOut (by kernel_rfl) (of_decide_eq_true (by kernel_rfl)) h2 hbel.out (fun x hx => hlt x (List.mem_append_right _ (List.mem_append_right _ hx))))
  · rw [e2]; rfl
theorem codeEnds_row : Rows.CodeEndsSaid :=
  OpenClaim.holds_of_wide 4 Tryz.f4 rfl rfl rfl rfl rfl rfl rfl ⟨rfl, rfl, rfl, rfl, rfl⟩ rfl rfl rfl rfl rfl (by kernel_rfl) Tryz.func4 (by kernel_rfl)
    (of_decide_eq_true (by kernel_rfl)) (by unfold Func.isWrapper; rw [if_neg (of_decide_eq_false (by kernel_rfl))]; exact ⟨rfl, rfl⟩)
    (fun os started H enc _ => codeEnds_lifted os started H enc)
theorem codeEnds_holds : Rows.CodeEndsCardSaid :=
  Claim7.holds_tied_plain_at .later [] [.data, .data, .data, .data, .sentinel, .sentinel, .data, .data, .data, .pinned] true (true, "7eba398aa87f383b0737697b4f34256377c91212461d05eae543aa1a78cefd74") true
    codeEnds_row (fun _ h => by cases h) (by kernel_rfl) (fun _ h => by cases h) codeEnds_row_tie rfl ⟨rfl, rfl⟩ (by kernel_rfl) rfl
    (fun f fn hf hfn => by
      obtain rfl : f = 4 := Option.some.inj ((show Tryz.prog.funcNamed "sloth/slothlaw17.CodeEnds" = some 4 by kernel_rfl).symm.trans hf) |>.symm
      obtain rfl : fn = Tryz.f4 := (Option.some.inj (Tryz.func4.symm.trans hfn)).symm
      exact ⟨by kernel_rfl, fun j t ht => by
        rw [Tryz.params4] at ht
        have h3 : t = 25 ∨ t = 3 ∨ t = 34 := by
          rcases j with _ | _ | _ | j
          · exact .inl (by simpa using ht.symm)
          · exact .inr (.inl (by simpa using ht.symm))
          · exact .inr (.inr (by simpa using ht.symm))
          · simp at ht
        rcases h3 with h3 | h3 | h3
        · rw [h3]
          exact (show Tryz.prog.wantsStandIn 25 = false by kernel_rfl)
        · rw [h3]
          exact (show Tryz.prog.wantsStandIn 3 = false by kernel_rfl)
        · rw [h3]
          exact (show Tryz.prog.wantsStandIn 34 = false by kernel_rfl)⟩)
    (by kernel_rfl)
#print axioms codeEnds_holds
end Go.Proofs.YtlpnegnpejpdkabGreatDoor
