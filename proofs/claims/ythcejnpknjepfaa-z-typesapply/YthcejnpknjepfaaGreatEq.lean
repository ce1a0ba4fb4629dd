/- The library's EqualFunc over rows of types, by the program's own functions. -/
import Derived.Test.YthcejnpknjepfaaGreatMbx
import Derived.Laws.ByValue
import Derived.Deep.Cut
import Derived.Test.YthcejnpknjepfaaGreatMcx
import Derived.Test.YthcejnpknjepfaaGreatMgx
namespace Go.Proofs.YthcejnpknjepfaaGreat
open Go.RowKit

/-- Pairs looked at one behind another, till one says no. -/
def eqGo {σ α β : Type} (F : σ → α → β → σ × Bool) : σ → List α → List β → σ × Bool
  | s, [], [] => (s, true)
  | s, t :: ts, u :: us => if (F s t u).2 = true then eqGo F (F s t u).1 ts us else ((F s t u).1, false)
  | s, _, _ => (s, false)
/-- Rows held against each other: none is looked at where they differ in length. -/
def eqAll {σ α β : Type} (F : σ → α → β → σ × Bool) (s : σ) (ts : List α) (us : List β) : σ × Bool := if ts.length = us.length then eqGo F s ts us else (s, false)
set_option maxHeartbeats 8000000 in
set_option maxRecDepth 10000 in
theorem equal_same {σ : Type} (d e B : Nat) (St : σ → World → Prop) (F : σ → Tn d → Tn e → σ × Bool) (w : World) (hB : B ≤ w.heap.size) (hSt : ∀ s W, St s W → Below B w W) (hAl : ∀ s W o, St s W → St s (W.alloc o))
    (ts : List (Tn d)) (us : List (Tn e)) (v1 v2 : Value) (h1 : RowP w B (TyAt w B d) v1 ts) (h2 : RowP w B (TyAt w B e) v2 us) (hl1 : ts.length < 140737488355328)
    (IH : ∀ (x y : Value), ∀ t ∈ ts, ∀ u ∈ us, ∀ (s : σ) (W : World), St s W → TyAt W B d x t → TyAt W B e y u → Calls Tryz.prog 60 #[x, y] W fun r w' => r = .returned (.bool (F s t u).2) ∧ St (F s t u).1 w')
    (s : σ) (W : World) (hs : St s W) :
    Calls Tryz.prog 84 #[v1, v2, .func (.func 60) #[] #[]] W fun r w' => r = .returned (.bool (eqAll F s ts us).2) ∧ St (eqAll F s ts us).1 w' := by
  obtain ⟨ad1, cap1, hv1, hc1⟩ := h1.cells
  obtain ⟨ad2, cap2, hv2, hc2⟩ := h2.cells
  subst hv1 hv2
  have HC1 : Hid (ts ≠ [] → ∃ g o, ad1 = some ⟨g, o, none⟩ ∧ ts.length ≤ cap1 ∧ g < B ∧ ∀ j (h : j < ts.length), ∃ k n ad' len' cap', (∀ w', Below B w w' → w'.cell? ⟨g, o + j * 3, none⟩ = some (.int .i64 k) ∧ w'.cell? ⟨g, o + j * 3 + 1, none⟩ = some (.string n) ∧ w'.cell? ⟨g, o + j * 3 + 2, none⟩ = some (.slice ad' len' cap')) ∧ TyAt w B d (.agg #[.int .i64 k, .string n, .slice ad' len' cap']) ts[j]) := hc1
  have HC2 : Hid (us ≠ [] → ∃ g o, ad2 = some ⟨g, o, none⟩ ∧ us.length ≤ cap2 ∧ g < B ∧ ∀ j (h : j < us.length), ∃ k n ad' len' cap', (∀ w', Below B w w' → w'.cell? ⟨g, o + j * 3, none⟩ = some (.int .i64 k) ∧ w'.cell? ⟨g, o + j * 3 + 1, none⟩ = some (.string n) ∧ w'.cell? ⟨g, o + j * 3 + 2, none⟩ = some (.slice ad' len' cap')) ∧ TyAt w B e (.agg #[.int .i64 k, .string n, .slice ad' len' cap']) us[j]) := hc2
  have HIH : Hid (∀ (x y : Value), ∀ t ∈ ts, ∀ u ∈ us, ∀ (s : σ) (W : World), St s W → TyAt W B d x t → TyAt W B e y u → Calls Tryz.prog 60 #[x, y] W fun r w' => r = .returned (.bool (F s t u).2) ∧ St (F s t u).1 w') := IH
  clear hc1 hc2 h1 h2 IH
  by_cases hne : ts.length = us.length
  · rw [show eqAll F s ts us = eqGo F s ts us from if_pos hne]
    have hnb : ((ts.length : Int) != (us.length : Int)) = false := by simp [hne]
    have HNE : Hid (ts.length = us.length) := hne
    have HS0 : Hid (St s W) := hs
    clear hne hs
    go_enter Tryz.func84, Tryz.ntmps84
    go_wp2
    clear hnb
    go_loopw [17] (fun i wr => ∃ (j : Nat) (s' : σ), j ≤ ts.length ∧ i = .int .i64 j ∧ Hid (St s' wr ∧ eqGo F s ts us = eqGo F s' (ts.drop j) (us.drop j))) (fun i _ => ts.length - (intOf i).toNat)
    case atStart => exact ⟨0, s, by omega, by go_num, HS0.out, rfl⟩
    case round =>
      obtain ⟨j, s', hj, rfl, HP⟩ := hrel
      by_cases hlt : j < ts.length
      · have hlt' : (j : Int) < (ts.length : Int) := by omega
        have hlu : j < us.length := by have := HNE.out; omega
        have hlu' : (j : Int) < (us.length : Int) := by omega
        obtain ⟨g1, o1, hadr1, hcp1, hg1, hel1⟩ := HC1.out (by intro e0; rw [e0] at hlt; simp at hlt)
        obtain ⟨g2, o2, hadr2, hcp2, hg2, hel2⟩ := HC2.out (by intro e0; rw [e0] at hlu; simp at hlu)
        subst hadr1 hadr2
        obtain ⟨k1, n1, a1, l1, p1, hcel1, T1⟩ := hel1 j hlt
        obtain ⟨k2, n2, a2, l2, p2, hcel2, T2⟩ := hel2 j hlu
        obtain ⟨hSw, heq⟩ := HP.out
        have hbw := hSt _ _ hSw
        have hwr : B ≤ wr.heap.size := Nat.le_trans hB hbw.size
        obtain ⟨q0, q1, q2⟩ := hcel1 wr hbw
        have bU : Below B wr (wr.alloc (Obj.cells #[.int .i64 k1, .string n1, .slice a1 l1 p1] 25)) := (Below.refl _ _).alloc hwr _
        obtain ⟨r0, r1, r2⟩ := hcel2 _ (hbw.trans bU)
        have bV : Below B (wr.alloc (Obj.cells #[.int .i64 k1, .string n1, .slice a1 l1 p1] 25)) ((wr.alloc (Obj.cells #[.int .i64 k1, .string n1, .slice a1 l1 p1] 25)).alloc (Obj.cells #[.int .i64 k2, .string n2, .slice a2 l2 p2] 25)) := (Below.refl _ _).alloc (Nat.le_trans hwr (by simp)) _
        have hb2 := (hbw.trans bU).trans bV
        have CJ := HIH.out _ _ ts[j] (List.getElem_mem hlt) us[j] (List.getElem_mem hlu) s' _ (hAl _ _ (Obj.cells #[.int .i64 k2, .string n2, .slice a2 l2 p2] 25) (hAl _ _ (Obj.cells #[.int .i64 k1, .string n1, .slice a1 l1 p1] 25) hSw)) (T1.on hb2) (T2.on hb2)
        have HE : Hid (eqGo F s ts us = if (F s' ts[j] us[j]).2 = true then eqGo F (F s' ts[j] us[j]).1 (ts.drop (j + 1)) (us.drop (j + 1)) else ((F s' ts[j] us[j]).1, false)) := by
          show eqGo F s ts us = _
          rw [heq, List.drop_eq_getElem_cons hlt, List.drop_eq_getElem_cons hlu, eqGo]
        obtain ⟨R, hR⟩ : ∃ R, R = F s' ts[j] us[j] := ⟨_, rfl⟩
        rw [← hR] at CJ HE
        clear hel1 hel2 hcel1 hcel2 T1 T2 HP hSw heq hbw hwr bU bV hb2 hR
        cases hR2 : R.2 with
        | true =>
          rw [hR2] at CJ HE
          go_wp2_with (go_at_call 60; (with_reducible refine Calls.mono CJ ?_); rintro e' w2 ⟨rfl, hS2⟩)
          go_roundw
          case rel => exact ⟨j + 1, R.1, by omega, by go_num, hS2, by rw [HE.out]; exact if_pos trivial⟩
          case measure => simp [intOf]; omega
        | false =>
          rw [hR2] at CJ HE
          go_wp2_with (go_at_call 60; (with_reducible refine Calls.mono CJ ?_); rintro e' w2 ⟨rfl, hS2⟩)
          go_ret
          rw [HE.out]
          exact ⟨rfl, hS2⟩
      · have h1 : ¬ (j : Int) < (ts.length : Int) := by omega
        have HF2 : Hid (eqGo F s ts us = (s', true) ∧ St s' wr) := by
          obtain ⟨hSw, heq⟩ := HP.out
          have e1 : j = ts.length := by omega
          have e2 : j = us.length := by have := HNE.out; omega
          refine ⟨?_, hSw⟩
          rw [heq]
          conv => lhs; rw [e1, List.drop_length, ← e1, e2, List.drop_length]
          rfl
        clear HP
        go_wp2
        go_ret
        rw [HF2.out.1]
        exact ⟨rfl, HF2.out.2⟩
  · have hnb : ((ts.length : Int) != (us.length : Int)) = true := by simp; omega
    have HS0 : Hid (St s W) := hs
    have HE : eqAll F s ts us = (s, false) := if_neg hne
    rw [HE]
    clear HE
    clear hne hs
    go_enter Tryz.func84, Tryz.ntmps84
    go_wp2
    go_ret
    exact ⟨rfl, HS0.out⟩
set_option maxHeartbeats 8000000 in
set_option maxRecDepth 10000 in
theorem equal_fit {σ : Type} (d e B : Nat) (b : Nat) (St : σ → World → Prop) (F : σ → Tn d → Tn e → σ × Bool) (w : World) (hB : B ≤ w.heap.size) (hSt : ∀ s W, St s W → Below B w W) (hAl : ∀ s W o, St s W → St s (W.alloc o))
    (ts : List (Tn d)) (us : List (Tn e)) (v1 v2 : Value) (h1 : RowP w B (TyAt w B d) v1 ts) (h2 : RowP w B (TyAt w B e) v2 us) (hl1 : ts.length < 140737488355328)
    (IH : ∀ (x y : Value), ∀ t ∈ ts, ∀ u ∈ us, ∀ (s : σ) (W : World), St s W → TyAt W B d x t → TyAt W B e y u → Calls Tryz.prog 37 #[.map (some b), x, y] W fun r w' => r = .returned (.bool (F s t u).2) ∧ St (F s t u).1 w')
    (s : σ) (W : World) (hs : St s W) :
    Calls Tryz.prog 84 #[v1, v2, .func (.func 37) #[.map (some b)] #[]] W fun r w' => r = .returned (.bool (eqAll F s ts us).2) ∧ St (eqAll F s ts us).1 w' := by
  obtain ⟨ad1, cap1, hv1, hc1⟩ := h1.cells
  obtain ⟨ad2, cap2, hv2, hc2⟩ := h2.cells
  subst hv1 hv2
  have HC1 : Hid (ts ≠ [] → ∃ g o, ad1 = some ⟨g, o, none⟩ ∧ ts.length ≤ cap1 ∧ g < B ∧ ∀ j (h : j < ts.length), ∃ k n ad' len' cap', (∀ w', Below B w w' → w'.cell? ⟨g, o + j * 3, none⟩ = some (.int .i64 k) ∧ w'.cell? ⟨g, o + j * 3 + 1, none⟩ = some (.string n) ∧ w'.cell? ⟨g, o + j * 3 + 2, none⟩ = some (.slice ad' len' cap')) ∧ TyAt w B d (.agg #[.int .i64 k, .string n, .slice ad' len' cap']) ts[j]) := hc1
  have HC2 : Hid (us ≠ [] → ∃ g o, ad2 = some ⟨g, o, none⟩ ∧ us.length ≤ cap2 ∧ g < B ∧ ∀ j (h : j < us.length), ∃ k n ad' len' cap', (∀ w', Below B w w' → w'.cell? ⟨g, o + j * 3, none⟩ = some (.int .i64 k) ∧ w'.cell? ⟨g, o + j * 3 + 1, none⟩ = some (.string n) ∧ w'.cell? ⟨g, o + j * 3 + 2, none⟩ = some (.slice ad' len' cap')) ∧ TyAt w B e (.agg #[.int .i64 k, .string n, .slice ad' len' cap']) us[j]) := hc2
  have HIH : Hid (∀ (x y : Value), ∀ t ∈ ts, ∀ u ∈ us, ∀ (s : σ) (W : World), St s W → TyAt W B d x t → TyAt W B e y u → Calls Tryz.prog 37 #[.map (some b), x, y] W fun r w' => r = .returned (.bool (F s t u).2) ∧ St (F s t u).1 w') := IH
  clear hc1 hc2 h1 h2 IH
  by_cases hne : ts.length = us.length
  · rw [show eqAll F s ts us = eqGo F s ts us from if_pos hne]
    have hnb : ((ts.length : Int) != (us.length : Int)) = false := by simp [hne]
    have HNE : Hid (ts.length = us.length) := hne
    have HS0 : Hid (St s W) := hs
    clear hne hs
    go_enter Tryz.func84, Tryz.ntmps84
    go_wp2
    clear hnb
    go_loopw [17] (fun i wr => ∃ (j : Nat) (s' : σ), j ≤ ts.length ∧ i = .int .i64 j ∧ Hid (St s' wr ∧ eqGo F s ts us = eqGo F s' (ts.drop j) (us.drop j))) (fun i _ => ts.length - (intOf i).toNat)
    case atStart => exact ⟨0, s, by omega, by go_num, HS0.out, rfl⟩
    case round =>
      obtain ⟨j, s', hj, rfl, HP⟩ := hrel
      by_cases hlt : j < ts.length
      · have hlt' : (j : Int) < (ts.length : Int) := by omega
        have hlu : j < us.length := by have := HNE.out; omega
        have hlu' : (j : Int) < (us.length : Int) := by omega
        obtain ⟨g1, o1, hadr1, hcp1, hg1, hel1⟩ := HC1.out (by intro e0; rw [e0] at hlt; simp at hlt)
        obtain ⟨g2, o2, hadr2, hcp2, hg2, hel2⟩ := HC2.out (by intro e0; rw [e0] at hlu; simp at hlu)
        subst hadr1 hadr2
        obtain ⟨k1, n1, a1, l1, p1, hcel1, T1⟩ := hel1 j hlt
        obtain ⟨k2, n2, a2, l2, p2, hcel2, T2⟩ := hel2 j hlu
        obtain ⟨hSw, heq⟩ := HP.out
        have hbw := hSt _ _ hSw
        have hwr : B ≤ wr.heap.size := Nat.le_trans hB hbw.size
        obtain ⟨q0, q1, q2⟩ := hcel1 wr hbw
        have bU : Below B wr (wr.alloc (Obj.cells #[.int .i64 k1, .string n1, .slice a1 l1 p1] 25)) := (Below.refl _ _).alloc hwr _
        obtain ⟨r0, r1, r2⟩ := hcel2 _ (hbw.trans bU)
        have bV : Below B (wr.alloc (Obj.cells #[.int .i64 k1, .string n1, .slice a1 l1 p1] 25)) ((wr.alloc (Obj.cells #[.int .i64 k1, .string n1, .slice a1 l1 p1] 25)).alloc (Obj.cells #[.int .i64 k2, .string n2, .slice a2 l2 p2] 25)) := (Below.refl _ _).alloc (Nat.le_trans hwr (by simp)) _
        have hb2 := (hbw.trans bU).trans bV
        have CJ := HIH.out _ _ ts[j] (List.getElem_mem hlt) us[j] (List.getElem_mem hlu) s' _ (hAl _ _ (Obj.cells #[.int .i64 k2, .string n2, .slice a2 l2 p2] 25) (hAl _ _ (Obj.cells #[.int .i64 k1, .string n1, .slice a1 l1 p1] 25) hSw)) (T1.on hb2) (T2.on hb2)
        have HE : Hid (eqGo F s ts us = if (F s' ts[j] us[j]).2 = true then eqGo F (F s' ts[j] us[j]).1 (ts.drop (j + 1)) (us.drop (j + 1)) else ((F s' ts[j] us[j]).1, false)) := by
          show eqGo F s ts us = _
          rw [heq, List.drop_eq_getElem_cons hlt, List.drop_eq_getElem_cons hlu, eqGo]
        obtain ⟨R, hR⟩ : ∃ R, R = F s' ts[j] us[j] := ⟨_, rfl⟩
        rw [← hR] at CJ HE
        clear hel1 hel2 hcel1 hcel2 T1 T2 HP hSw heq hbw hwr bU bV hb2 hR
        cases hR2 : R.2 with
        | true =>
          rw [hR2] at CJ HE
          go_wp2_with (go_at_call 37; (with_reducible refine Calls.mono CJ ?_); rintro e' w2 ⟨rfl, hS2⟩)
          go_roundw
          case rel => exact ⟨j + 1, R.1, by omega, by go_num, hS2, by rw [HE.out]; exact if_pos trivial⟩
          case measure => simp [intOf]; omega
        | false =>
          rw [hR2] at CJ HE
          go_wp2_with (go_at_call 37; (with_reducible refine Calls.mono CJ ?_); rintro e' w2 ⟨rfl, hS2⟩)
          go_ret
          rw [HE.out]
          exact ⟨rfl, hS2⟩
      · have h1 : ¬ (j : Int) < (ts.length : Int) := by omega
        have HF2 : Hid (eqGo F s ts us = (s', true) ∧ St s' wr) := by
          obtain ⟨hSw, heq⟩ := HP.out
          have e1 : j = ts.length := by omega
          have e2 : j = us.length := by have := HNE.out; omega
          refine ⟨?_, hSw⟩
          rw [heq]
          conv => lhs; rw [e1, List.drop_length, ← e1, e2, List.drop_length]
          rfl
        clear HP
        go_wp2
        go_ret
        rw [HF2.out.1]
        exact ⟨rfl, HF2.out.2⟩
  · have hnb : ((ts.length : Int) != (us.length : Int)) = true := by simp; omega
    have HS0 : Hid (St s W) := hs
    have HE : eqAll F s ts us = (s, false) := if_neg hne
    rw [HE]
    clear HE
    clear hne hs
    go_enter Tryz.func84, Tryz.ntmps84
    go_wp2
    go_ret
    exact ⟨rfl, HS0.out⟩
set_option maxHeartbeats 8000000 in
set_option maxRecDepth 10000 in
theorem alike_no (fv : Value) (k k' : Int) (n n' : List UInt8) (ad ad' : Option Addr) (len len' cap cap' : Nat) (w : World) (h : ¬ (k = k' ∧ n = n')) :
    Calls Tryz.prog 61 #[.agg #[.int .i64 k, .string ⟨n.toArray⟩, .slice ad len cap], .agg #[.int .i64 k', .string ⟨n'.toArray⟩, .slice ad' len' cap'], fv] w fun r w' => r = .returned (.bool false) ∧ w' = (w.alloc (Obj.cells #[.int .i64 k, .string ⟨n.toArray⟩, .slice ad len cap] 25)).alloc (Obj.cells #[.int .i64 k', .string ⟨n'.toArray⟩, .slice ad' len' cap'] 25) := by
  by_cases hk : k = k'
  · subst hk
    have hn0 : ¬ n = n' := fun e => h ⟨rfl, e⟩
    have hnc : (n == n') = false := by simpa using hn0
    clear h
    go_enter Tryz.func61, Tryz.ntmps61
    go_wp2
    go_ret
    exact ⟨rfl, rfl⟩
  · clear h
    go_enter Tryz.func61, Tryz.ntmps61
    go_wp2
    go_ret
    exact ⟨rfl, rfl⟩
set_option maxHeartbeats 8000000 in
set_option maxRecDepth 10000 in
theorem alike_yes (fv : Value) (k : Int) (n : List UInt8) (ad ad' : Option Addr) (len len' cap cap' : Nat) (w : World) (Q : Ending → World → Prop) (hQ : ∀ r w', Q r w' → ∃ b, r = .returned (.bool b))
    (C : Calls Tryz.prog 84 #[.slice ad len cap, .slice ad' len' cap', fv] ((w.alloc (Obj.cells #[.int .i64 k, .string ⟨n.toArray⟩, .slice ad len cap] 25)).alloc (Obj.cells #[.int .i64 k, .string ⟨n.toArray⟩, .slice ad' len' cap'] 25)) Q) :
    Calls Tryz.prog 61 #[.agg #[.int .i64 k, .string ⟨n.toArray⟩, .slice ad len cap], .agg #[.int .i64 k, .string ⟨n.toArray⟩, .slice ad' len' cap'], fv] w Q := by
  have HQ : Hid (∀ r w', Q r w' → ∃ b, r = .returned (.bool b)) := hQ
  clear hQ
  go_enter Tryz.func61, Tryz.ntmps61
  go_wp2_with (go_at_call 84; (with_reducible refine Calls.mono C ?_); intro e' w2 hq; obtain ⟨b, he⟩ := HQ.out _ _ hq; subst he)
  exact hq
/-- Whether two trees are one, as a step. -/
def sameF (d e : Nat) : Unit → Tn d → Tn e → Unit × Bool := fun _ t u => ((), decide (flat d t = flat e u))
theorem same_go (d e : Nat) : ∀ (ts : List (Tn d)) (us : List (Tn e)), ts.length = us.length → (eqGo (sameF d e) () ts us).2 = decide (∀ i (h : i < ts.length) (h' : i < us.length), flat d ts[i] = flat e us[i])
  | [], [], _ => by simp [eqGo]
  | [], _ :: _, h => by simp at h
  | _ :: _, [], h => by simp at h
  | t :: ts, u :: us, hl => by
    rw [eqGo]
    have ih := same_go d e ts us (by simpa using hl)
    by_cases h : flat d t = flat e u
    · have h1 : (sameF d e () t u).2 = true := by simp [sameF, h]
      rw [if_pos h1]
      show (eqGo (sameF d e) () ts us).2 = _
      rw [ih]
      apply decide_eq_decide.2
      constructor
      · intro hh i hi hi'
        cases i with
        | zero => exact h
        | succ i => exact hh i (by simpa using hi) (by simpa using hi')
      · intro hh i hi hi'
        exact hh (i + 1) (by simpa using hi) (by simpa using hi')
    · have h1 : ¬ (sameF d e () t u).2 = true := by simp [sameF, h]
      rw [if_neg h1]
      show false = _
      symm
      rw [decide_eq_false_iff_not]
      intro hh
      exact h (hh 0 (by simp) (by simp))
theorem same_all (d e : Nat) (k : Int) (n : List UInt8) (ts : List (Tn d)) (us : List (Tn e)) : (eqAll (sameF d e) () ts us).2 = decide (flat (d + 1) ((k, n), ts) = flat (e + 1) ((k, n), us)) := by
  unfold eqAll
  by_cases hl : ts.length = us.length
  · rw [if_pos hl, same_go d e ts us hl]
    apply decide_eq_decide.2
    rw [flat_eq_iff]
    exact ⟨fun h => ⟨rfl, rfl, hl, h⟩, fun h => h.2.2.2⟩
  · rw [if_neg hl]
    show false = _
    symm
    rw [decide_eq_false_iff_not, flat_eq_iff]
    exact fun h => hl h.2.2.1
set_option maxHeartbeats 8000000 in
set_option maxRecDepth 10000 in
theorem psame_of (k k' : Int) (n n' : List UInt8) (ad ad' : Option Addr) (len len' cap cap' : Nat) (w : World) (b : Bool)
    (C : ∀ W, Below w.heap.size w W → Calls Tryz.prog 61 #[.agg #[.int .i64 k, .string ⟨n.toArray⟩, .slice ad len cap], .agg #[.int .i64 k', .string ⟨n'.toArray⟩, .slice ad' len' cap'], .func (.func 60) #[] #[]] W fun r w' => r = .returned (.bool b) ∧ Below w.heap.size w w') :
    Calls Tryz.prog 60 #[.agg #[.int .i64 k, .string ⟨n.toArray⟩, .slice ad len cap], .agg #[.int .i64 k', .string ⟨n'.toArray⟩, .slice ad' len' cap']] w fun r w' => r = .returned (.bool b) ∧ Below w.heap.size w w' := by
  have hb : ∀ o o', Below w.heap.size w ((w.alloc o).alloc o') := fun o o' => ((Below.refl _ _).alloc (Nat.le_refl _) o).alloc (by simp) o'
  go_enter Tryz.func60, Tryz.ntmps60
  go_wp2_with (go_at_call 61; (with_reducible refine Calls.mono (C _ (hb _ _)) ?_); rintro e' w2 ⟨rfl, hb2⟩)
  go_ret
  exact ⟨rfl, hb2⟩
theorem psame_any : ∀ (d e : Nat) (x y : Value) (t : Tn d) (u : Tn e) (w : World) (B : Nat), B ≤ w.heap.size → TyAt w B d x t → TyAt w B e y u →
    Calls Tryz.prog 60 #[x, y] w fun r w' => r = .returned (.bool (decide (flat d t = flat e u))) ∧ Below w.heap.size w w'
  | 0, _, _, _, _, _, _, _, _, h, _ => h.elim
  | _ + 1, 0, _, _, _, _, _, _, _, _, h => h.elim
  | d + 1, e + 1, x, y, ((k, n), ts), ((k', n'), us), w, B, hB, ⟨v, hx, _, h2, h⟩, ⟨v', hy, _, _, h'⟩ => by
    simp only at hx hy h2 h h'
    subst hx hy
    obtain ⟨ad, cap, rfl⟩ := h.len
    obtain ⟨ad', cap', rfl⟩ := h'.len
    refine psame_of k k' n n' ad ad' ts.length us.length cap cap' w _ fun W hW => ?_
    have b2 : ∀ o o', Below w.heap.size w ((W.alloc o).alloc o') := fun o o' => (hW.alloc hW.size o).alloc (Nat.le_trans hW.size (by simp)) o'
    by_cases hh : k = k' ∧ n = n'
    · obtain ⟨rfl, rfl⟩ := hh
      have b3 := b2 (Obj.cells #[.int .i64 k, .string ⟨n.toArray⟩, .slice ad ts.length cap] 25) (Obj.cells #[.int .i64 k, .string ⟨n.toArray⟩, .slice ad' us.length cap'] 25)
      refine Calls.mono (alike_yes (.func (.func 60) #[] #[]) k n ad ad' ts.length us.length cap cap' W (fun r w' => r = .returned (.bool (eqAll (sameF d e) () ts us).2) ∧ Below w.heap.size w w') (fun r w' hq => ⟨_, hq.1⟩) ?_) ?_
      · refine equal_same d e B (fun _ W => Below w.heap.size w W) (sameF d e) w hB (fun _ W h => h.mono hB) (fun _ W o h => h.alloc h.size o) ts us _ _ h h' h2 ?_ () _ b3
        intro x y t ht u hu s W hs hT hU
        refine Calls.mono (psame_any d e x y t u W B (Nat.le_trans hB hs.size) hT hU) ?_
        rintro r w' ⟨rfl, hb⟩
        exact ⟨rfl, hs.trans (hb.mono hs.size)⟩
      · rintro r w' ⟨rfl, hb⟩
        exact ⟨by rw [same_all d e k n ts us], hb⟩
    · refine Calls.mono (alike_no (.func (.func 60) #[] #[]) k k' n n' ad ad' ts.length us.length cap cap' W hh) ?_
      rintro r w' ⟨rfl, rfl⟩
      have : decide (flat (d + 1) ((k, n), ts) = flat (e + 1) ((k', n'), us)) = false := by
        rw [decide_eq_false_iff_not, flat_eq_iff]
        exact fun q => hh ⟨q.1, q.2.1⟩
      rw [this]
      exact ⟨rfl, b2 _ _⟩
end Go.Proofs.YthcejnpknjepfaaGreat
