/- textReader: numbers. -/
import Derived.Test.YtlpnegnpejpdkaaGreatDoorUe
import Derived.Test.YtlpnegnpejpdkaaGreatDoorMkx
import Derived.Lib.AtoiAllCases
namespace Go.Proofs.YtlpnegnpejpdkaaGreatDoor
open Go.RowKit

/-- The library's variables that reading a number asks for. -/
structure NumIn (w : World) : Prop where
  pt : Pt w
  syn : ∃ tp p, w.var? Tryz.prog "strconv.ErrSyntax" = some #[.iface tp p]
  rng : ∃ tp p, w.var? Tryz.prog "strconv.ErrRange" = some #[.iface tp p]
theorem Tryz.synG : Tryz.prog.globalNamed "strconv.ErrSyntax" = some 4 := by kernel_rfl
theorem Tryz.rngG : Tryz.prog.globalNamed "strconv.ErrRange" = some 5 := by kernel_rfl
theorem NumIn.below {w w' : World} (h : NumIn w) (hb : Below w.heap.size w w') : NumIn w' := by
  obtain ⟨h1, ⟨t1, p1, h2⟩, ⟨t2, p2, h3⟩⟩ := h
  exact ⟨h1.below hb, ⟨t1, p1, Go.Joins.var_stays Tryz.synG h2 hb (Nat.le_refl _)⟩, ⟨t2, p2, Go.Joins.var_stays Tryz.rngG h3 hb (Nat.le_refl _)⟩⟩
/-- The number that a word means. -/
def wnumP (a : Byt) : Option Int := match Lib.atoiAll a with
  | .ok n => if Lib.itoa n = a ∧ isIntP n = true then some n else none
  | _ => none
def numP' (l : Byt) : Option (Int × Byt) := match wnumP (wordP l).1 with
  | some n => some (n, (wordP l).2)
  | none => none
/-- What a text reader's call leaves that answers a number. -/
def QN (w : World) (R : Nat) (sv gv ma mb fv : Value) (x : Option (Int × Byt)) (r : Ending) (w' : World) : Prop := match x with
  | some (n, m) => r = .returned (.int .i64 n) ∧ Hid (TB w' R m sv gv ma mb fv ∧ Rk w R w')
  | none => r = thrown 170 ∧ Hid (Rk w R w')
set_option maxHeartbeats 8000000 in
set_option maxRecDepth 10000 in
theorem qnum_any {w : World} {R : Nat} {l : Byt} {sv gv ma mb fv : Value} (h : TB w R l sv gv ma mb fv) (hl : l.length ≤ 8388608) (hN : ∀ w', Below R w w' → NumIn w') : Calls Tryz.prog 113 #[.pointer (some ⟨R, 0, none⟩)] w fun r w' => QN w R sv gv ma mb fv (numP' l) r w' := by
  have CW := word_any h hl
  have hwl : (wordP l).1.length ≤ 8388608 := Nat.le_trans (List.takeWhile_prefix _).length_le (Nat.le_trans (List.dropWhile_suffix _).length_le hl)
  have e0 : numP' l = match wnumP (wordP l).1 with | some n => some (n, (wordP l).2) | none => none := rfl
  generalize numP' l = Z at *
  generalize (wordP l).1 = a at *
  generalize (wordP l).2 = b at *
  obtain ⟨F, hF⟩ : ∃ F : Ending → World → Prop, F = fun r w' => QN w R sv gv ma mb fv Z r w' := ⟨_, rfl⟩
  rw [← hF]
  have CG := fun W => giveUp_any 170 W
  unfold thrown at CG
  obtain ⟨S, hS⟩ : ∃ S : ByteArray, S = ⟨a.toArray⟩ := ⟨_, rfl⟩
  have hSl : S.data.toList = a := by rw [hS]
  have hSz : S.size = a.length := by rw [hS]; show a.toArray.size = _; simp
  rw [← hS] at CW
  have H0 : Hid (TB w R l sv gv ma mb fv) := h
  have HFN : Hid (∀ w', wnumP a = none → Rk w R w' → F (thrown 170) w') := fun w' h1 h2 => by rw [hF, e0, h1]; exact ⟨rfl, h2⟩
  have HFS : Hid (∀ w' n, wnumP a = some n → TB w' R b sv gv ma mb fv → Rk w R w' → F (.returned (.int .i64 n)) w') := fun w' n h1 h2 h3 => by rw [hF, e0, h1]; exact ⟨rfl, h2, h3⟩
  have HN : Hid (∀ w', Below R w w' → NumIn w') := hN
  have HSA : Hid (S = ⟨a.toArray⟩) := hS
  have e1 : wnumP a = match Lib.atoiAll a with | .ok n => if Lib.itoa n = a ∧ isIntP n = true then some n else none | _ => none := rfl
  clear hF h e0 hN hS
  cases hat : Lib.atoiAll a with
  | ok n =>
    rw [hat] at e1
    have e1 : wnumP a = if Lib.itoa n = a ∧ isIntP n = true then some n else none := e1
    have hn := Lib.atoiAll_bounds hat
    have CA : ∀ W, Calls Tryz.prog 133 #[.string S] W fun e w' => e = .returned (.tuple #[.int .i64 n, .nilIface]) ∧ Hid (Below W.heap.size W w') := fun W => by
      refine (Tryz.strconv_Atoi_ok S (by omega) n (by rw [hSl]; exact hat) W).mono ?_
      rintro e w' ⟨h1, h2⟩
      refine ⟨h1, ?_⟩
      rcases h2 with rfl | ⟨t, rfl⟩
      · exact Below.refl _ _
      · exact Go.Joins.below_bytesWorld _ _ _ _ (Nat.le_refl _)
    have CI : ∀ W, Below R w W → Calls Tryz.prog 126 #[.int .i64 n] W fun r w' => r = .returned (.string ⟨(Lib.itoa n).toArray⟩) ∧ Hid (Below W.heap.size W w') := fun W hb => itoa_any (HN.out W hb).pt ⟨hn.1, hn.2⟩
    have CT := fun W => isInt_any n W
    by_cases hia : Lib.itoa n = a
    · cases hint : isIntP n with
      | true =>
        rw [hint] at CT
        have HE : Hid (wnumP a = some n) := by show _ = _; rw [e1, if_pos ⟨hia, hint⟩]
        rw [hia, ← HSA.out] at CI
        clear hat e1 hSl hint
        go_enter Tryz.func113, Tryz.ntmps113
        go_wp2_with (first | (go_at_call 87; (with_reducible refine Calls.mono CW ?_); rintro e2 w2 ⟨rfl, H2⟩) | (go_at_call 133; (with_reducible refine Calls.mono (CA _) ?_); rintro e3 w3 ⟨rfl, H3⟩; obtain ⟨k1, k2⟩ := H2.out.1.on H3.out; have HK : Hid (TB w3 R b sv gv ma mb fv ∧ Rk w R w3) := ⟨k1, H0.out.trans H2.out.2 k2⟩; have CI3 := CI w3 HK.out.2.1; clear k1 k2) | (go_at_call 126; (with_reducible refine Calls.mono CI3 ?_); rintro e4 w4 ⟨rfl, H4⟩; obtain ⟨k1, k2⟩ := HK.out.1.on H4.out; have HK4 : Hid (TB w4 R b sv gv ma mb fv ∧ Rk w R w4) := ⟨k1, H0.out.trans HK.out.2 k2⟩; clear k1 k2) | (go_at_call 104; (with_reducible refine Calls.mono (CT _) ?_); rintro e5 w5 ⟨rfl, hw⟩; obtain rfl := hw.symm; clear hw))
        exact HFS.out _ n HE.out HK4.out.1 HK4.out.2
      | false =>
        rw [hint] at CT
        have HE : Hid (wnumP a = none) := by show _ = _; rw [e1, if_neg (by rw [hint]; simp)]
        rw [hia, ← HSA.out] at CI
        clear hat e1 hSl hint
        go_enter Tryz.func113, Tryz.ntmps113
        go_wp2_with (first | (go_at_call 87; (with_reducible refine Calls.mono CW ?_); rintro e2 w2 ⟨rfl, H2⟩) | (go_at_call 133; (with_reducible refine Calls.mono (CA _) ?_); rintro e3 w3 ⟨rfl, H3⟩; obtain ⟨k1, k2⟩ := H2.out.1.on H3.out; have HK : Hid (TB w3 R b sv gv ma mb fv ∧ Rk w R w3) := ⟨k1, H0.out.trans H2.out.2 k2⟩; have CI3 := CI w3 HK.out.2.1; clear k1 k2) | (go_at_call 126; (with_reducible refine Calls.mono CI3 ?_); rintro e4 w4 ⟨rfl, H4⟩; obtain ⟨k1, k2⟩ := HK.out.1.on H4.out; have HK4 : Hid (TB w4 R b sv gv ma mb fv ∧ Rk w R w4) := ⟨k1, H0.out.trans HK.out.2 k2⟩; clear k1 k2) | (go_at_call 104; (with_reducible refine Calls.mono (CT _) ?_); rintro e5 w5 ⟨rfl, hw⟩; obtain rfl := hw.symm; clear hw) | (go_at_call 90; (with_reducible refine Calls.mono (CG _) ?_); rintro e7 w7 ⟨rfl, hw⟩; obtain rfl := hw.symm; clear hw))
        exact ⟨rfl, HFN.out _ HE.out HK4.out.2⟩
    · obtain ⟨Q, hQ⟩ : ∃ Q : ByteArray, Q = ⟨(Lib.itoa n).toArray⟩ := ⟨_, rfl⟩
      have qne : (Q.toList == S.toList) = false := by
        rw [Lib.toList_data, Lib.toList_data, hSl, hQ]
        exact beq_eq_false_iff_ne.2 hia
      have HE : Hid (wnumP a = none) := by show _ = _; rw [e1, if_neg (fun h => hia h.1)]
      rw [← hQ] at CI
      clear hat e1 hSl hia hQ
      go_enter Tryz.func113, Tryz.ntmps113
      go_wp2_with (first | (go_at_call 87; (with_reducible refine Calls.mono CW ?_); rintro e2 w2 ⟨rfl, H2⟩) | (go_at_call 133; (with_reducible refine Calls.mono (CA _) ?_); rintro e3 w3 ⟨rfl, H3⟩; obtain ⟨k1, k2⟩ := H2.out.1.on H3.out; have HK : Hid (TB w3 R b sv gv ma mb fv ∧ Rk w R w3) := ⟨k1, H0.out.trans H2.out.2 k2⟩; have CI3 := CI w3 HK.out.2.1; clear k1 k2) | (go_at_call 126; (with_reducible refine Calls.mono CI3 ?_); rintro e4 w4 ⟨rfl, H4⟩; obtain ⟨k1, k2⟩ := HK.out.1.on H4.out; have HK4 : Hid (TB w4 R b sv gv ma mb fv ∧ Rk w R w4) := ⟨k1, H0.out.trans HK.out.2 k2⟩; clear k1 k2) | (go_at_call 104; (with_reducible refine Calls.mono (CT _) ?_); rintro e5 w5 ⟨rfl, hw⟩; obtain rfl := hw.symm; clear hw) | (go_at_call 90; (with_reducible refine Calls.mono (CG _) ?_); rintro e7 w7 ⟨rfl, hw⟩; obtain rfl := hw.symm; clear hw))
      exact ⟨rfl, HFN.out _ HE.out HK4.out.2⟩
  | range =>
    rw [hat] at e1
    have HE : Hid (wnumP a = none) := e1
    obtain ⟨tp, p, hv⟩ : ∃ tp p, w.var? Tryz.prog "strconv.ErrRange" = some #[.iface tp p] := (HN.out w (Below.refl _ _)).rng
    have CA : ∀ W, Below R w W → Calls Tryz.prog 133 #[.string S] W fun e w' => ∃ (n : Int) (N : Nat), e = .returned (.tuple #[.int .i64 n, .iface 183 (.pointer (some ⟨N, 0, none⟩))]) ∧ Hid (Below W.heap.size W w') := fun W hb => by
      obtain ⟨tp, p, hv⟩ := (HN.out W hb).rng
      refine (Tryz.strconv_Atoi_range_var S (by omega) (by rw [hSl]; exact hat) tp p W hv).mono ?_
      rintro e w' ⟨N, h1, _, _, h2⟩
      exact ⟨_, N, h1, h2⟩
    clear hat e1 hSl hv
    go_enter Tryz.func113, Tryz.ntmps113
    go_wp2_with (first | (go_at_call 87; (with_reducible refine Calls.mono CW ?_); rintro e2 w2 ⟨rfl, H2⟩; have CA2 := CA w2 H2.out.2.1) | (go_at_call 133; (with_reducible refine Calls.mono CA2 ?_); rintro e3 w3 ⟨n, N, rfl, H3⟩; obtain ⟨k1, k2⟩ := H2.out.1.on H3.out; have HK : Hid (TB w3 R b sv gv ma mb fv ∧ Rk w R w3) := ⟨k1, H0.out.trans H2.out.2 k2⟩; clear k1 k2) | (go_at_call 90; (with_reducible refine Calls.mono (CG _) ?_); rintro e7 w7 ⟨rfl, hw⟩; obtain rfl := hw.symm; clear hw))
    exact ⟨rfl, HFN.out _ HE.out HK.out.2⟩
  | _ =>
    rw [hat] at e1
    have HE : Hid (wnumP a = none) := e1
    obtain ⟨tp, p, hv⟩ : ∃ tp p, w.var? Tryz.prog "strconv.ErrSyntax" = some #[.iface tp p] := (HN.out w (Below.refl _ _)).syn
    have CA : ∀ W, Below R w W → Calls Tryz.prog 133 #[.string S] W fun e w' => ∃ (n : Int) (N : Nat), e = .returned (.tuple #[.int .i64 n, .iface 183 (.pointer (some ⟨N, 0, none⟩))]) ∧ Hid (Below W.heap.size W w') := fun W hb => by
      obtain ⟨tp, p, hv⟩ := (HN.out W hb).syn
      refine (Tryz.strconv_Atoi_syntax_var S (by omega) (by rw [hSl, hat]; intro v e; cases e) (by rw [hSl, hat]; intro e; cases e) tp p W hv).mono ?_
      rintro e w' ⟨N, h1, _, _, h2⟩
      exact ⟨_, N, h1, h2⟩
    clear hat e1 hSl hv
    go_enter Tryz.func113, Tryz.ntmps113
    go_wp2_with (first | (go_at_call 87; (with_reducible refine Calls.mono CW ?_); rintro e2 w2 ⟨rfl, H2⟩; have CA2 := CA w2 H2.out.2.1) | (go_at_call 133; (with_reducible refine Calls.mono CA2 ?_); rintro e3 w3 ⟨n, N, rfl, H3⟩; obtain ⟨k1, k2⟩ := H2.out.1.on H3.out; have HK : Hid (TB w3 R b sv gv ma mb fv ∧ Rk w R w3) := ⟨k1, H0.out.trans H2.out.2 k2⟩; clear k1 k2) | (go_at_call 90; (with_reducible refine Calls.mono (CG _) ?_); rintro e7 w7 ⟨rfl, hw⟩; obtain rfl := hw.symm; clear hw))
    exact ⟨rfl, HFN.out _ HE.out HK.out.2⟩
end Go.Proofs.YtlpnegnpejpdkaaGreatDoor
