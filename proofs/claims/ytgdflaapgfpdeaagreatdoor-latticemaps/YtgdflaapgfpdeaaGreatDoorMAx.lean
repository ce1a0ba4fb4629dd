/- Lists of numbers compared; the search in rows of them; Of. The search in rows of lists; Of. Of. The law's own: nodes, great. Plain: functions point by point. -/
import Derived.Test.YtgdflaapgfpdeaaGreatDoorMzx
import Derived.Deep.LoopGhost
namespace Go.Proofs.YtgdflaapgfpdeaaGreatDoor
open Go.RowKit

def cmpI (x y : Int) : Int := if x < y then -1 else if y < x then 1 else 0
def cmpL : List Int → List Int → Int
  | [], [] => 0
  | [], _ :: _ => -1
  | _ :: _, [] => 1
  | x :: l, y :: m => if cmpI x y = 0 then cmpL l m else cmpI x y
theorem cmpI_zero {x y : Int} : cmpI x y = 0 ↔ x = y := by
  unfold cmpI
  split
  · constructor <;> intro h <;> omega
  · split
    · constructor <;> intro h <;> omega
    · constructor <;> intro h <;> omega
theorem cmpL_zero : ∀ (l m : List Int), cmpL l m = 0 ↔ l = m
  | [], [] => by simp [cmpL]
  | [], _ :: _ => by simp [cmpL]
  | _ :: _, [] => by simp [cmpL]
  | x :: l, y :: m => by
    unfold cmpL
    by_cases h : cmpI x y = 0
    · rw [if_pos h, cmpL_zero l m, cmpI_zero.1 h]
      simp
    · rw [if_neg h]
      constructor
      · intro h2; exact absurd h2 h
      · intro h2
        exact absurd (cmpI_zero.2 (List.cons.inj h2).1) h
/-- One list is ahead of another one. -/
def Ahead (r s : List Int) : Prop := ∃ p, p < r.length ∧ p < s.length ∧ r.getD p 0 < s.getD p 0 ∧ ∀ x, x < p → r.getD x 0 = s.getD x 0
theorem ahead_neg : ∀ (r s t : List Int), Ahead r s → cmpL s t < 0 → cmpL r t < 0
  | [], _, _, ⟨p, h, _⟩, _ => by simp at h
  | _ :: _, [], _, ⟨p, _, h, _⟩, _ => by simp at h
  | a :: r, b :: s, [], _, h => by simp [cmpL] at h
  | a :: r, b :: s, c :: t, ⟨p, h1, h2, h3, h4⟩, h => by
    unfold cmpL at h ⊢
    match p with
    | 0 =>
      have hab : a < b := by simpa using h3
      have hbc : b ≤ c := by
        apply Classical.byContradiction
        intro hn
        have e : cmpI b c = 1 := by
          unfold cmpI
          rw [if_neg (by omega), if_pos (by omega)]
        rw [e, if_neg (by decide)] at h
        omega
      have e : cmpI a c = -1 := by
        unfold cmpI
        rw [if_pos (by omega)]
      rw [e, if_neg (by decide)]
      decide
    | q + 1 =>
      have hab : a = b := by simpa using h4 0 (by omega)
      subst hab
      by_cases hc : cmpI a c = 0
      · rw [if_pos hc] at h ⊢
        exact ahead_neg r s t ⟨q, by simpa using h1, by simpa using h2, by simpa using h3, fun x hx => by simpa using h4 (x + 1) (by omega)⟩ h
      · rw [if_neg hc] at h ⊢
        exact h
def ofN (l : List Nat) : List Int := l.map fun (n : Nat) => (n : Int)
theorem ofN_len (l : List Nat) : (ofN l).length = l.length := by simp [ofN]
theorem ofN_inj {l m : List Nat} (h : ofN l = ofN m) : l = m := by
  have h2 := congrArg (List.map Int.toNat) h
  simpa [ofN, Function.comp_def] using h2
/-- A row of numbers of whatever sign. -/
def Zts (w : World) (v : Value) (l : List Int) : Prop := ∃ ad cap, v = .slice ad l.length cap ∧ ∀ i (h : i < l.length), ∃ g o, ad = some ⟨g, o, none⟩ ∧ l.length ≤ cap ∧ g < w.heap.size ∧ w.cell? ⟨g, o + i, none⟩ = some (.int .i64 l[i])
theorem Zts.on {w w' : World} {v : Value} {l : List Int} (h : Zts w v l) (hb : Below w.heap.size w w') : Zts w' v l := by
  obtain ⟨ad, cap, h1, h2⟩ := h
  refine ⟨ad, cap, h1, fun i hi => ?_⟩
  obtain ⟨g, o, a1, a2, a3, a4⟩ := h2 i hi
  exact ⟨g, o, a1, a2, Nat.lt_of_lt_of_le a3 hb.size, (hb.cell (p := ⟨g, o + i, none⟩) a3).trans a4⟩
theorem nts_zts {w : World} {S : Nat → Prop} {ad : Option Addr} {cap : Nat} {l : List Nat} (h : Nts w S (.slice ad l.length cap) l) (hS : ∀ y, S y → y < w.heap.size) : Zts w (.slice ad l.length cap) (ofN l) := by
  refine ⟨ad, cap, by rw [ofN_len], fun i hi => ?_⟩
  have hi2 : i < l.length := by rwa [ofN_len] at hi
  obtain ⟨g, o, a1, a2, a3, a4⟩ := h.at hi2
  exact ⟨g, o, a1, by rw [ofN_len]; exact a2, hS g a3, by rw [a4]; simp [ofN]⟩
set_option maxHeartbeats 4000000 in
set_option maxRecDepth 10000 in
theorem nan_any (x : Int) (w : World) : Calls Tryz.prog 51 #[.int .i64 x] w fun r w' => r = .returned (.bool false) ∧ w' = w := by
  have e1 : (x != x) = false := by simp
  go_enter Tryz.func51, Tryz.ntmps51
  go_wp2
  go_ret
  exact ⟨rfl, rfl⟩
set_option maxHeartbeats 4000000 in
set_option maxRecDepth 10000 in
theorem compareI_any (x y : Int) (w : World) : Calls Tryz.prog 41 #[.int .i64 x, .int .i64 y] w fun r w' => r = .returned (.int .i64 (cmpI x y)) ∧ w' = w := by
  unfold cmpI
  by_cases h1 : x < y
  · rw [if_pos h1]
    go_enter Tryz.func41, Tryz.ntmps41
    go_wp2_with (first | (go_at_call 51; (with_reducible refine Calls.mono (nan_any x _) ?_); rintro e' w3 ⟨rfl, hw3⟩; obtain rfl := hw3.symm; clear hw3) | (go_at_call 51; (with_reducible refine Calls.mono (nan_any y _) ?_); rintro e' w4 ⟨rfl, hw4⟩; obtain rfl := hw4.symm; clear hw4))
    go_ret
    exact ⟨rfl, rfl⟩
  · rw [if_neg h1]
    by_cases h2 : y < x
    · rw [if_pos h2]
      go_enter Tryz.func41, Tryz.ntmps41
      go_wp2_with (first | (go_at_call 51; (with_reducible refine Calls.mono (nan_any x _) ?_); rintro e' w3 ⟨rfl, hw3⟩; obtain rfl := hw3.symm; clear hw3) | (go_at_call 51; (with_reducible refine Calls.mono (nan_any y _) ?_); rintro e' w4 ⟨rfl, hw4⟩; obtain rfl := hw4.symm; clear hw4))
      go_ret
      exact ⟨rfl, rfl⟩
    · rw [if_neg h2]
      go_enter Tryz.func41, Tryz.ntmps41
      go_wp2_with (first | (go_at_call 51; (with_reducible refine Calls.mono (nan_any x _) ?_); rintro e' w3 ⟨rfl, hw3⟩; obtain rfl := hw3.symm; clear hw3) | (go_at_call 51; (with_reducible refine Calls.mono (nan_any y _) ?_); rintro e' w4 ⟨rfl, hw4⟩; obtain rfl := hw4.symm; clear hw4))
      go_ret
      exact ⟨rfl, rfl⟩
set_option maxHeartbeats 8000000 in
set_option maxRecDepth 10000 in
theorem compareL_any {w : World} {u v : Value} {l m : List Int} (hu : Zts w u l) (hv : Zts w v m) (hl : l.length ≤ 1000) :
    Calls Tryz.prog 29 #[u, v] w fun r w' => r = .returned (.int .i64 (cmpL l m)) ∧ w' = w := by
  obtain ⟨au, cu, rfl, HU⟩ := hu
  obtain ⟨av, cv, rfl, HV⟩ := hv
  replace HU : Hid (∀ i (h : i < l.length), ∃ g o, au = some ⟨g, o, none⟩ ∧ l.length ≤ cu ∧ g < w.heap.size ∧ w.cell? ⟨g, o + i, none⟩ = some (.int .i64 l[i])) := HU
  replace HV : Hid (∀ i (h : i < m.length), ∃ g o, av = some ⟨g, o, none⟩ ∧ m.length ≤ cv ∧ g < w.heap.size ∧ w.cell? ⟨g, o + i, none⟩ = some (.int .i64 m[i])) := HV
  go_enter Tryz.func29, Tryz.ntmps29
  go_upto_region 2 with fail
  go_loopw [11] (fun iv wr => ∃ i : Nat, i ≤ l.length ∧ i ≤ m.length ∧ iv = .int .i64 i ∧ wr = w ∧ Hid (cmpL l m = cmpL (l.drop i) (m.drop i))) (fun iv _ => l.length - (intOf iv).toNat)
  case atStart => exact ⟨0, by omega, by omega, by go_num, rfl, rfl⟩
  case round =>
    obtain ⟨i, hi, hm, rfl, hwr, HI⟩ := hrel
    obtain rfl := hwr.symm
    clear hwr
    by_cases hil : i < l.length
    · obtain ⟨g, o, rfl, hc, -, q1⟩ := HU.out i hil
      have i1 : (0 : Int) ≤ (i : Int) := by omega
      have i2 : (i : Int) < (l.length : Int) := by omega
      have HD : Hid (l.drop i = l[i] :: l.drop (i + 1)) := List.drop_eq_getElem_cons hil
      by_cases him : i < m.length
      · obtain ⟨g2, o2, rfl, hc2, -, q2⟩ := HV.out i him
        have HD2 : Hid (m.drop i = m[i] :: m.drop (i + 1)) := List.drop_eq_getElem_cons him
        have i3 : (i : Int) < (m.length : Int) := by omega
        have i4 : ¬ ((i : Int) ≥ (m.length : Int)) := by omega
        have CC := compareI_any l[i] m[i] w
        have HE : Hid (cmpL l m = if cmpI l[i] m[i] = 0 then cmpL (l.drop (i + 1)) (m.drop (i + 1)) else cmpI l[i] m[i]) := by
          show _ = _
          rw [HI.out, HD.out, HD2.out]
          rfl
        generalize l[i] = x at *
        generalize m[i] = y at *
        by_cases hz : cmpI x y = 0
        · rw [if_pos hz] at HE
          rw [hz] at CC
          clear hz HI HD HD2
          go_wp2_with (first | (go_at_call 41; (with_reducible refine Calls.mono CC ?_); rintro e' w3 ⟨rfl, hw3⟩; obtain rfl := hw3.symm; clear hw3))
          go_roundw
          case rel => exact ⟨i + 1, hil, him, by go_num, (by trivial), HE.out⟩
          case measure => simp [intOf]; omega
        · rw [if_neg hz] at HE
          have e5 : (cmpI x y != 0) = true := by simp [hz]
          clear hz HI HD HD2
          generalize cmpI x y = cc at *
          go_wp2_with (first | (go_at_call 41; (with_reducible refine Calls.mono CC ?_); rintro e' w3 ⟨rfl, hw3⟩; obtain rfl := hw3.symm; clear hw3))
          go_ret
          exact ⟨by rw [HE.out]; rfl, rfl⟩
      · have i4 : (i : Int) ≥ (m.length : Int) := by omega
        have HE : Hid (cmpL l m = 1) := by
          show _ = _
          rw [HI.out, HD.out, show m.drop i = [] from List.drop_eq_nil_of_le (by omega)]
          rfl
        clear HI HD
        generalize l[i] = x at *
        go_wp2
        go_ret
        exact ⟨by rw [HE.out]; rfl, rfl⟩
    · have hd : l.drop i = [] := List.drop_eq_nil_of_le (by omega)
      rw [hd] at HI
      obtain rfl : i = l.length := by omega
      by_cases hlm : l.length < m.length
      · have HE : Hid (cmpL l m = -1) := by
          show _ = _
          rw [HI.out, List.drop_eq_getElem_cons hlm]
          rfl
        have i4 : (l.length : Int) < (m.length : Int) := by omega
        clear HI
        go_wp2
        go_ret
        exact ⟨by rw [HE.out]; rfl, rfl⟩
      · have HE : Hid (cmpL l m = 0) := by
          show _ = _
          rw [HI.out, show m.drop l.length = [] from List.drop_eq_nil_of_le (by omega)]
          rfl
        have i4 : ¬ (l.length : Int) < (m.length : Int) := by omega
        clear HI
        go_wp2
        go_ret
        exact ⟨by rw [HE.out]; rfl, rfl⟩
end Go.Proofs.YtgdflaapgfpdeaaGreatDoor

namespace Go.Proofs.YtgdflaapgfpdeaaGreatDoor
open Go.RowKit

/-- What the search answers. -/
def SeaP (rs : List (List Nat)) (t : List Int) (i : Int) (ok : Bool) : Prop := (ok = true → ∃ n : Nat, i = n ∧ n < rs.length ∧ ofN (rs.getD n []) = t) ∧ (ok = false → ∀ n, n < rs.length → ofN (rs.getD n []) ≠ t)
def SeaR (rs : List (List Nat)) (t : List Int) (r : Ending) : Prop := ∃ i ok, r = .returned (.tuple #[.int .i64 i, .bool ok]) ∧ Hid (SeaP rs t i ok)
set_option maxHeartbeats 8000000 in
set_option maxRecDepth 10000 in
theorem search_any {w : World} {S : Nat → Prop} {ad : Option Addr} {cap : Nat} {rs : List (List Nat)} {tv : Value} {t : List Int} (hr : RowE ERs w S S (.slice ad rs.length cap) rs) (hS : ∀ y, S y → y < w.heap.size) (ht : Zts w tv t) (hl : rs.length ≤ 1000) (hl2 : ∀ r ∈ rs, r.length ≤ 1000) (hm : ∀ i j, i ≤ j → j < rs.length → cmpL (ofN (rs.getD j [])) t < 0 → cmpL (ofN (rs.getD i [])) t < 0) (hm2 : ∀ i j, i < j → j < rs.length → ofN (rs.getD j []) = t → cmpL (ofN (rs.getD i [])) t < 0) :
    Calls Tryz.prog 28 #[.slice ad rs.length cap, tv, .func (.func 29) #[] #[]] w fun r w' => SeaR rs t r ∧ w' = w := by
  have HS : Hid (∀ i, i < rs.length → ∃ g o, ad = some ⟨g, o, none⟩ ∧ rs.length ≤ cap ∧ ∃ ai ci li, w.cell? ⟨g, o + i, none⟩ = some (.slice ai li ci) ∧ Calls Tryz.prog 29 #[.slice ai li ci, tv] w fun r w' => r = .returned (.int .i64 (cmpL (ofN (rs.getD i [])) t)) ∧ w' = w) := fun i hi => by
    obtain ⟨g, o, a1, a2, a3, ai, ci, a4, a5⟩ := row_nts hr i hi
    refine ⟨g, o, a1, a3, ai, ci, _, a4, compareL_any (nts_zts a5 hS) ht ?_⟩
    rw [ofN_len]
    refine hl2 _ ?_
    rw [show rs.getD i [] = rs[i] by simp [hi]]
    exact List.getElem_mem hi
  have HM : Hid (∀ i j, i ≤ j → j < rs.length → cmpL (ofN (rs.getD j [])) t < 0 → cmpL (ofN (rs.getD i [])) t < 0) := hm
  have HM2 : Hid (∀ i j, i < j → j < rs.length → ofN (rs.getD j []) = t → cmpL (ofN (rs.getD i [])) t < 0) := hm2
  have hlen : rs.length ≤ 1000 := hl
  obtain ⟨tad, tcap, rfl, -⟩ := ht
  clear hr hS hl hl2 hm hm2
  go_enter Tryz.func28, Tryz.ntmps28
  go_upto_region 3 with fail
  go_loopw [9, 10] (fun av bv wr => ∃ lo hi : Nat, av = .int .i64 lo ∧ bv = .int .i64 hi ∧ lo ≤ hi ∧ hi ≤ rs.length ∧ wr = w ∧ Hid (∀ k, k < lo → cmpL (ofN (rs.getD k [])) t < 0) ∧ Hid (∀ k, hi ≤ k → k < rs.length → 0 ≤ cmpL (ofN (rs.getD k [])) t)) (fun av bv _ => (intOf bv).toNat - (intOf av).toNat)
  case atStart => exact ⟨0, rs.length, by go_num, by go_num, Nat.zero_le _, Nat.le_refl _, rfl, fun k h => by omega, fun k h h2 => by omega⟩
  case round =>
    obtain ⟨lo, hi, rfl, rfl, hlh, hin, hwr, H1, H2⟩ := hrel
    obtain rfl := hwr.symm
    clear hwr
    by_cases hlt : lo < hi
    · obtain ⟨g, o, rfl, hcap, ai, ci, li, q1, CC⟩ := HS.out ((lo + hi) / 2) (by omega)
      have HT : Hid (cmpL (ofN (rs.getD ((lo + hi) / 2) [])) t < 0 → ∀ k, k < (lo + hi) / 2 + 1 → cmpL (ofN (rs.getD k [])) t < 0) := fun h k hk => HM.out k _ (by omega) (by omega) h
      have HF : Hid (0 ≤ cmpL (ofN (rs.getD ((lo + hi) / 2) [])) t → ∀ k, (lo + hi) / 2 ≤ k → k < rs.length → 0 ≤ cmpL (ofN (rs.getD k [])) t) := fun h k hk hk2 => Int.not_lt.1 fun h3 => by have := HM.out _ k hk hk2 h3; omega
      generalize cmpL (ofN (rs.getD ((lo + hi) / 2) [])) t = cc at *
      by_cases hcc : cc < 0
      · have HT2 := HT.out hcc
        replace HT2 : Hid _ := HT2
        go_wp2_with (first | (go_at_call 29; (with_reducible refine Calls.mono CC ?_); rintro e' w3 ⟨rfl, hw3⟩; obtain rfl := hw3.symm; clear hw3))
        go_roundw
        case rel => exact ⟨(lo + hi) / 2 + 1, hi, by go_num, rfl, by omega, hin, (by trivial), HT2.out, H2.out⟩
        case measure => simp [intOf]; omega
      · have HF2 := HF.out (Int.not_lt.1 hcc)
        replace HF2 : Hid _ := HF2
        go_wp2_with (first | (go_at_call 29; (with_reducible refine Calls.mono CC ?_); rintro e' w3 ⟨rfl, hw3⟩; obtain rfl := hw3.symm; clear hw3))
        go_roundw
        case rel => exact ⟨lo, (lo + hi) / 2, rfl, by go_num, by omega, by omega, (by trivial), H1.out, HF2.out⟩
        case measure => simp [intOf]; omega
    · obtain rfl : hi = lo := by omega
      by_cases hn : hi < rs.length
      · obtain ⟨g, o, rfl, hcap, ai, ci, li, q1, CC⟩ := HS.out hi hn
        have i1 : (0 : Int) ≤ (hi : Int) := by omega
        have i2 : (hi : Int) < (rs.length : Int) := by omega
        by_cases hz : cmpL (ofN (rs.getD hi [])) t = 0
        · have HE : Hid (SeaP rs t (hi : Int) true) := ⟨fun _ => ⟨hi, rfl, hn, (cmpL_zero _ _).1 hz⟩, fun h => (by cases h)⟩
          rw [hz] at CC
          clear hz H1 H2
          go_wp2_with (first | (go_at_call 29; (with_reducible refine Calls.mono CC ?_); rintro e' w3 ⟨rfl, hw3⟩; obtain rfl := hw3.symm; clear hw3))
          go_ret2
          exact ⟨⟨_, _, rfl, HE.out⟩, rfl⟩
        · have HE : Hid (SeaP rs t (hi : Int) false) := ⟨fun h => (by cases h), fun _ k hk e => by
            have h0 := (cmpL_zero _ _).2 e
            rcases Nat.lt_or_ge k hi with h | h
            · have := H1.out k h
              omega
            · rcases Nat.eq_or_lt_of_le h with h | h
              · subst h
                exact hz h0
              · have h3 := H2.out hi (Nat.le_refl _) hn
                have h4 := HM2.out hi k h hk e
                omega⟩
          have e5 : (cmpL (ofN (rs.getD hi [])) t == 0) = false := beq_eq_false_iff_ne.2 hz
          clear hz H1 H2
          generalize cmpL (ofN (rs.getD hi [])) t = cc at *
          go_wp2_with (first | (go_at_call 29; (with_reducible refine Calls.mono CC ?_); rintro e' w3 ⟨rfl, hw3⟩; obtain rfl := hw3.symm; clear hw3))
          go_ret2
          exact ⟨⟨_, _, rfl, HE.out⟩, rfl⟩
      · have HE : Hid (SeaP rs t (hi : Int) false) := ⟨fun h => (by cases h), fun _ k hk e => by
          have h0 := (cmpL_zero _ _).2 e
          have := H1.out k (by omega)
          omega⟩
        have i2 : ¬ (hi : Int) < (rs.length : Int) := by omega
        clear H1 H2
        go_wp2
        go_ret2
        exact ⟨⟨_, _, rfl, HE.out⟩, rfl⟩
end Go.Proofs.YtgdflaapgfpdeaaGreatDoor

namespace Go.Proofs.YtgdflaapgfpdeaaGreatDoor
open Go.RowKit

theorem ahead_lt : ∀ (r s : List Int), Ahead r s → cmpL r s < 0
  | [], _, ⟨p, h, _⟩ => by simp at h
  | _ :: _, [], ⟨p, _, h, _⟩ => by simp at h
  | a :: r, b :: s, ⟨p, h1, h2, h3, h4⟩ => by
    unfold cmpL
    match p with
    | 0 =>
      have hab : a < b := by simpa using h3
      have e : cmpI a b = -1 := by
        unfold cmpI
        rw [if_pos (by omega)]
      rw [e, if_neg (by decide)]
      decide
    | q + 1 =>
      have hab : a = b := by simpa using h4 0 (by omega)
      subst hab
      rw [if_pos (cmpI_zero.2 rfl)]
      exact ahead_lt r s ⟨q, by simpa using h1, by simpa using h2, by simpa using h3, fun x hx => by simpa using h4 (x + 1) (by omega)⟩
theorem ofN_get (l : List Nat) (i : Nat) : (ofN l).getD i 0 = (l.getD i 0 : Int) := by
  simp only [ofN, List.getD_eq_getElem?_getD, List.getElem?_map]
  cases l[i]? <;> rfl
theorem res_ahead {fa ta : List Nat} {i j : Nat} (h : i < j) (hj : j < (resP fa ta).length) : Ahead (ofN ((resP fa ta).getD i [])) (ofN ((resP fa ta).getD j [])) := by
  have h1 := List.pairwise_iff_getElem.1 (all_sorted fa ta fa.length []) i j (show i < (resP fa ta).length by omega) hj h
  obtain ⟨p, a1, a2, a3, a4⟩ := h1
  have e1 : (resP fa ta).getD i [] = (allP fa ta fa.length [])[i]'(show i < (resP fa ta).length by omega) := by
    rw [List.getD_eq_getElem?_getD, List.getElem?_eq_getElem (show i < (resP fa ta).length by omega)]
    rfl
  have e2 : (resP fa ta).getD j [] = (allP fa ta fa.length [])[j]'hj := by
    rw [List.getD_eq_getElem?_getD, List.getElem?_eq_getElem hj]
    rfl
  refine ⟨p, by rw [ofN_len, e1]; exact a1, by rw [ofN_len, e2]; exact a2, by rw [ofN_get, ofN_get, e1, e2]; omega, fun x hx => by rw [ofN_get, ofN_get, e1, e2, a4 x hx]⟩
def ofD (od : Option OrdD) (tl : List Int) : Nat × Int := match od with
  | none => (0, 140)
  | some D => match D.2 with
    | none => (0, 140)
    | some p => match (resP p.1 p.2).findIdx? (fun r => decide (ofN r = tl)) with
      | some i => (i, 0)
      | none => (0, 141)
theorem of_found {fa ta : List Nat} {tl : List Int} {n : Nat} (h : n < (resP fa ta).length) (h2 : ofN ((resP fa ta).getD n []) = tl) : ofD (some (fnsP ta (resP fa ta), some (fa, ta))) tl = (n, 0) := by
  have e : (resP fa ta).findIdx? (fun r => decide (ofN r = tl)) = some n := by
    rw [List.findIdx?_eq_some_iff_getElem]
    have e1 : (resP fa ta).getD n [] = (resP fa ta)[n] := by simp [h]
    refine ⟨h, by rw [← e1]; simpa using h2, fun j hj => ?_⟩
    have e2 : (resP fa ta).getD j [] = (resP fa ta)[j]'(by omega) := by simp [show j < (resP fa ta).length by omega]
    have h3 := ahead_lt _ _ (res_ahead hj h)
    simp only [decide_eq_true_eq]
    intro h4
    rw [h2, e2, h4, (cmpL_zero tl tl).2 rfl] at h3
    omega
  unfold ofD
  dsimp only
  rw [e]
theorem of_none {fa ta : List Nat} {tl : List Int} (h : ∀ n, n < (resP fa ta).length → ofN ((resP fa ta).getD n []) ≠ tl) : ofD (some (fnsP ta (resP fa ta), some (fa, ta))) tl = (0, 141) := by
  have e : (resP fa ta).findIdx? (fun r => decide (ofN r = tl)) = none := by
    rw [List.findIdx?_eq_none_iff]
    intro x hx
    obtain ⟨j, hj, rfl⟩ := List.getElem_of_mem hx
    have := h j hj
    rw [show (resP fa ta).getD j [] = (resP fa ta)[j] by simp [hj]] at this
    exact decide_eq_false this
  unfold ofD
  dsimp only
  rw [e]
set_option maxHeartbeats 16000000 in
set_option maxRecDepth 10000 in
theorem of_all (d : Nat) (x : Value) (t : Tn (d + 1)) (w : World) (hx : TyAt w w.heap.size (d + 1) x t) (hN : (flat (d + 1) t).length ≤ 4194304) {tv : Value} {tl : List Int} (ht : Zts w tv tl) :
    Calls Tryz.prog 9 #[x, tv] w fun r w' => r = .returned (.tuple #[.int .i64 ((ofD (funD d t) tl).1 : Int), .int .i64 (ofD (funD d t) tl).2]) ∧ Hid (Below w.heap.size w w') := by
  have HX : Hid (TyAt w w.heap.size (d + 1) x t) := hx
  obtain ⟨u, rfl, hn1, hn2, hrow⟩ := hx
  obtain ⟨ad, cap, rfl⟩ := hrow.len
  obtain ⟨X, hX⟩ : ∃ X, X = w.heap.size := ⟨_, rfl⟩
  obtain ⟨W, hW⟩ : ∃ W, W = w.alloc (.cells #[.int .i64 t.1.1, .string ⟨t.1.2.toArray⟩, .slice ad t.2.length cap] 24) := ⟨_, rfl⟩
  have hBW : Below w.heap.size w W := by rw [hW]; exact (Below.refl _ _).alloc (Nat.le_refl _) _
  have hXW : W.heap[X]? = some (.cells #[.int .i64 t.1.1, .string ⟨t.1.2.toArray⟩, .slice ad t.2.length cap] 24 (0, 0)) := by rw [hW, hX]; exact new_blk _ _
  have CO := functionsOf_any d (.agg #[.int .i64 t.1.1, .string ⟨t.1.2.toArray⟩, .slice ad t.2.length cap]) t W (TyAt.below hBW hBW.size _ _ _ HX.out) hN
  have c0 : W.cell? ⟨X, 0, none⟩ = some (.int .i64 t.1.1) := heap_cl hXW rfl
  have c1 : W.cell? ⟨X, 1, none⟩ = some (.string ⟨t.1.2.toArray⟩) := heap_cl hXW rfl
  have c2 : W.cell? ⟨X, 2, none⟩ = some (.slice ad t.2.length cap) := heap_cl hXW rfl
  have HXE : Hid (X = w.heap.size) := hX
  have HBW : Hid (Below w.heap.size w W) := hBW
  have HZT : Hid (∀ w2, Below w.heap.size w w2 → Zts w2 tv tl) := fun w2 h2 => ht.on h2
  obtain ⟨tad, tcap, rfl, -⟩ := ht
  clear hn1 hn2 hrow hX hBW hXW hN HX
  generalize funD d t = od at *
  generalize t.1.1 = k at *
  generalize t.1.2 = n at *
  generalize t.2.length = m at *
  clear t
  go_enter Tryz.func9, Tryz.ntmps9
  go_upto_region 1 with fail
  rw [← hW, ← HXE.out]
  clear hW
  go_upto_region 2 with (first | (go_at_call 27; (with_reducible refine Calls.mono CO ?_); rintro e' w2 ⟨HB2, hP2⟩; obtain ⟨vp, ve, rfl, HP2⟩ : ∃ vp ve, e' = .returned (.tuple #[vp, ve]) ∧ Hid ((od = none ∧ vp = .pointer none ∧ ve = .int .i64 140) ∨ ∃ fa ta p, od = some (fnsP ta (resP fa ta), some (fa, ta)) ∧ Lat fa ∧ Lat ta ∧ (resP fa ta).length ≤ 40 ∧ vp = .pointer (some ⟨p, 0, none⟩) ∧ ve = .int .i64 0 ∧ OrP w2 (fun y => y < w2.heap.size) p (fnsP ta (resP fa ta), some (fa, ta))) := (by
        rcases hP2 with ⟨h1, h2⟩ | ⟨fa, ta, p, h1, h2, h3, h4, h5, h6⟩
        · exact ⟨_, _, h2, .inl ⟨h1, rfl, rfl⟩⟩
        · exact ⟨_, _, h5, .inr ⟨fa, ta, p, h1, h2, h3, h4, rfl, rfl, h6.out⟩⟩); clear hP2))
  have HBB : Hid (Below w.heap.size w w2) := HBW.out.trans (HB2.out.mono HBW.out.size)
  clear c0 c1 c2 CO HB2
  rcases HP2.out with ⟨rfl, rfl, rfl⟩ | ⟨fa, ta, p, rfl, hla, hlb, hfew, rfl, rfl, hor⟩
  · clear HP2
    go_wp2
    refine bodyPost_ret (v := .tuple #[.int .i64 0, .int .i64 140]) (by simp [results, Tryz.results9, go_sem]) rfl ?_
    exact ⟨rfl, HBB.out⟩
  · obtain ⟨hab, hrest⟩ := hor
    obtain ⟨pf, pt, rv, q1, q2, q3, q4, q5, q6⟩ := hrest fa ta rfl
    have HOR : Hid (OrP w2 (fun y => y < w2.heap.size) p (fnsP ta (resP fa ta), some (fa, ta))) := ⟨hab, hrest⟩
    have HLB : Hid (Lat ta) := hlb
    obtain ⟨adr, capr, hrv, -⟩ := RowK.open q6
    subst hrv
    have CS := search_any q6 (fun _ h => h) (HZT.out w2 HBB.out) (by omega) (fun r hr => by rw [((res_mem fa ta r).1 hr).1]; have := hla.few; omega) (fun i j h1 h2 h3 => by
      rcases Nat.eq_or_lt_of_le h1 with h | h
      · rw [h]; exact h3
      · exact ahead_neg _ _ _ (res_ahead h h2) h3) (fun i j h1 h2 h3 => by rw [← h3]; exact ahead_lt _ _ (res_ahead h1 h2))
    have HSE : Hid (∀ i ok, SeaP (resP fa ta) tl i ok → (ok = true → ∃ n : Nat, i = n ∧ ofD (some (fnsP ta (resP fa ta), some (fa, ta))) tl = (n, 0)) ∧ (ok = false → ofD (some (fnsP ta (resP fa ta), some (fa, ta))) tl = (0, 141))) := fun i ok h => ⟨fun hok => by
      obtain ⟨n, h1, h2, h3⟩ := h.1 hok
      exact ⟨n, h1, of_found h2 h3⟩, fun hok => of_none (h.2 hok)⟩
    clear HP2 HOR hrest hab q1 q2 q4 q5 q6 hla hlb hfew HZT
    generalize hod : ofD (some (fnsP ta (resP fa ta), some (fa, ta))) tl = od at *
    have HOD : Hid (ofD (some (fnsP ta (resP fa ta), some (fa, ta))) tl = od) := hod
    clear hod
    go_upto_region 5 with (first | (go_at_call 28; (with_reducible refine Calls.mono CS ?_); rintro e' w3 ⟨⟨i, ok, rfl, HI⟩, hw3⟩; obtain rfl := hw3.symm; clear hw3))
    obtain ⟨h1, h2⟩ := HSE.out i ok HI.out
    clear HSE HI CS q3
    cases ok with
    | true =>
      obtain ⟨n2, rfl, h3⟩ := h1 rfl
      replace h3 : Hid (od = (n2, 0)) := h3
      clear h1 h2
      go_wp2
      refine bodyPost_ret (v := .tuple #[.int .i64 (n2 : Int), .int .i64 0]) (by simp [results, Tryz.results9, go_sem]) rfl ?_
      rw [HOD.out, h3.out]
      exact ⟨rfl, HBB.out⟩
    | false =>
      have h3 : Hid (od = (0, 141)) := h2 rfl
      clear h1 h2
      go_wp2
      refine bodyPost_ret (v := .tuple #[.int .i64 0, .int .i64 141]) (by simp [results, Tryz.results9, go_sem]) rfl ?_
      rw [HOD.out, h3.out]
      exact ⟨rfl, HBB.out⟩
end Go.Proofs.YtgdflaapgfpdeaaGreatDoor

namespace Go.Proofs.YtgdflaapgfpdeaaGreatDoor
open Go.RowKit

set_option maxHeartbeats 4000000 in
set_option maxRecDepth 10000 in
theorem nod_step (d : Nat) (IH : ∀ (x : Value) (t : Tn d) (w : World) (B : Nat), B ≤ w.heap.size → TyAt w B d x t → (flat d t).length ≤ 4194304 →
    Calls Tryz.prog 36 #[x] w fun r w' => r = .returned (.int .i64 (flat d t).length) ∧ Below w.heap.size w w') : ∀ (x : Value) (t : Tn (d + 1)) (w : World) (B : Nat), B ≤ w.heap.size → TyAt w B (d + 1) x t → (flat (d + 1) t).length ≤ 4194304 →
    Calls Tryz.prog 36 #[x] w fun r w' => r = .returned (.int .i64 (flat (d + 1) t).length) ∧ Below w.heap.size w w'
  | x, ((k, n), ts), w, B, hB, ⟨v, hx, h1, h2, h⟩, hN => by
    simp only at hx h1 h2 h
    subst hx
    obtain ⟨ad, cap, rfl, hrow⟩ := h.cells
    rw [flat_succ, List.length_cons] at hN ⊢
    generalize hR : (flats d ts).length + 1 = R at hN ⊢
    have HR : Hid (1 + (flats d ts).length = R) := by show _ = R; omega
    obtain ⟨W, hW, hbW, hsW, b0, b1, b2⟩ := cells_box w (.int .i64 k) (.string ⟨n.toArray⟩) (.slice ad ts.length cap) 24
    have HW : Hid (Below w.heap.size w W) := hbW
    have HS : Hid (W.heap.size = w.heap.size + 1) := hsW
    have HB : Hid (B ≤ w.heap.size) := hB
    have HC : Hid (ts ≠ [] → ∃ g o, ad = some ⟨g, o, none⟩ ∧ ts.length ≤ cap ∧ g < B ∧
      ∀ j (h : j < ts.length), ∃ k n ad' len' cap', (∀ w', Below B w w' → w'.cell? ⟨g, o + j * 3, none⟩ = some (.int .i64 k) ∧ w'.cell? ⟨g, o + j * 3 + 1, none⟩ = some (.string n) ∧ w'.cell? ⟨g, o + j * 3 + 2, none⟩ = some (.slice ad' len' cap')) ∧ TyAt w B d (.agg #[.int .i64 k, .string n, .slice ad' len' cap']) ts[j]) := hrow
    clear hrow h hB h1 hR
    go_enter Tryz.func36, Tryz.ntmps36
    go_wp2
    rw [← hW]
    generalize hz : w.heap.size = z at b0 b1 b2 ⊢
    have HZ : Hid (w.heap.size = z) := hz
    clear hW hbW hsW hz
    go_loopw [3, 4] (fun b i wr => ∃ (j N : Nat), j ≤ ts.length ∧ i = .int .i64 j ∧ b = .int .i64 N ∧ Below (z + 1) W wr ∧ Hid (N + (flats d (ts.drop j)).length = R)) (fun _ i _ => ts.length - (intOf i).toNat)
    case atStart => exact ⟨0, 1, by omega, by go_num, by go_num, Below.refl _ _, HR.out⟩
    case round =>
      obtain ⟨j, N, hj, rfl, rfl, hbel, HJ⟩ := hrel
      have x2 := (hbel.cell (p := ⟨z, 2, none⟩) (by simp)).trans b2
      by_cases hlt : j < ts.length
      · obtain ⟨g, o, rfl, hcap, hg, hel⟩ := HC.out (by intro h; rw [h] at hlt; simp at hlt)
        obtain ⟨k1, n1, ad1, l1, cp1, hcel, T1⟩ := hel j hlt
        have hzB : B ≤ z := by have := HB.out; have := HZ.out; omega
        have hwz : Below z w wr := by
          have := HW.out
          rw [HZ.out] at this
          exact this.trans (hbel.mono (by omega))
        obtain ⟨p0, p1, p2⟩ := hcel wr (hwz.mono hzB)
        have hzr : z + 1 ≤ wr.heap.size := by have := hbel.size; have := HS.out; have := HZ.out; omega
        have HN2 : Hid (N + (flat d ts[j]).length + (flats d (ts.drop (j + 1))).length = R) := by
          show _ = R
          rw [← HJ.out, List.drop_eq_getElem_cons hlt, flats_cons, List.length_append]
          omega
        have hsm : N + (flat d ts[j]).length ≤ 4194304 := by have := HN2.out; omega
        have CJ := IH _ _ wr B (by omega) (T1.on (hwz.mono hzB)) (by omega)
        generalize (flat d ts[j]).length = m at CJ HN2 hsm
        have i1 : (0 : Int) ≤ (j : Int) := by omega
        have i2 : (j : Int) < (ts.length : Int) := by omega
        have hjl : j + 1 ≤ ts.length := hlt
        clear T1 IH b0 b1 b2 hcel hel HJ hN
        go_wp2_with (go_at_call 36; (with_reducible refine Calls.mono CJ ?_); rintro e' w1 ⟨rfl, hb1⟩)
        have hb2 : Below (z + 1) W w1 := hbel.trans (hb1.mono hzr)
        go_roundw
        case rel => exact ⟨j + 1, N + m, hjl, by go_num, by go_num, hb2, HN2⟩
        case measure => simp [intOf]; omega
      · have HF : Hid (R = N) := by
          show R = N
          have := HJ.out
          rw [List.drop_eq_nil_of_le (by omega)] at this
          simpa [flats] using this.symm
        clear IH
        go_wp2
        go_ret
        exact ⟨by rw [HF.out]; rfl, by have h := HW.out; rw [HZ.out] at h ⊢; exact h.trans (hbel.mono (by omega))⟩
theorem nod_any : ∀ (d : Nat) (x : Value) (t : Tn d) (w : World) (B : Nat), B ≤ w.heap.size → TyAt w B d x t → (flat d t).length ≤ 4194304 →
    Calls Tryz.prog 36 #[x] w fun r w' => r = .returned (.int .i64 (flat d t).length) ∧ Below w.heap.size w w'
  | 0, _, _, _, _, _, h, _ => h.elim
  | d + 1, x, t, w, B, hB, h, hN => nod_step d (nod_any d) x t w B hB h hN
set_option maxHeartbeats 4000000 in
set_option maxRecDepth 10000 in
theorem great40_any (d : Nat) (x : Value) (t : Tn (d + 1)) (w : World) (hx : TyAt w w.heap.size (d + 1) x t) (hN : (flat (d + 1) t).length ≤ 4194304) :
    Calls Tryz.prog 15 #[x] w fun r w' => r = .returned (.bool (decide (40 < (flat (d + 1) t).length))) ∧ Hid (Below w.heap.size w w') := by
  have HX : Hid (TyAt w w.heap.size (d + 1) x t) := hx
  obtain ⟨u, rfl, hn1, hn2, hrow⟩ := hx
  obtain ⟨ad, cap, rfl⟩ := hrow.len
  obtain ⟨X, hX⟩ : ∃ X, X = w.heap.size := ⟨_, rfl⟩
  obtain ⟨W, hW⟩ : ∃ W, W = w.alloc (.cells #[.int .i64 t.1.1, .string ⟨t.1.2.toArray⟩, .slice ad t.2.length cap] 24) := ⟨_, rfl⟩
  have hBW : Below w.heap.size w W := by rw [hW]; exact (Below.refl _ _).alloc (Nat.le_refl _) _
  have hXW : W.heap[X]? = some (.cells #[.int .i64 t.1.1, .string ⟨t.1.2.toArray⟩, .slice ad t.2.length cap] 24 (0, 0)) := by rw [hW, hX]; exact new_blk _ _
  have CO := nod_any (d + 1) (.agg #[.int .i64 t.1.1, .string ⟨t.1.2.toArray⟩, .slice ad t.2.length cap]) t W W.heap.size (Nat.le_refl _) (TyAt.below hBW hBW.size _ _ _ HX.out) hN
  have c0 : W.cell? ⟨X, 0, none⟩ = some (.int .i64 t.1.1) := heap_cl hXW rfl
  have c1 : W.cell? ⟨X, 1, none⟩ = some (.string ⟨t.1.2.toArray⟩) := heap_cl hXW rfl
  have c2 : W.cell? ⟨X, 2, none⟩ = some (.slice ad t.2.length cap) := heap_cl hXW rfl
  have HXE : Hid (X = w.heap.size) := hX
  have HBW : Hid (Below w.heap.size w W) := hBW
  clear hn1 hn2 hrow hX hBW hXW hN HX
  generalize (flat (d + 1) t).length = fl at *
  generalize t.1.1 = k at *
  generalize t.1.2 = n at *
  generalize t.2.length = m at *
  clear t
  go_enter Tryz.func15, Tryz.ntmps15
  go_upto_region 1 with fail
  rw [← hW, ← HXE.out]
  clear hW
  go_wp2_with (first | (go_at_call 36; (with_reducible refine Calls.mono CO ?_); rintro e' w2 ⟨rfl, HB2⟩))
  have HBB : Hid (Below w.heap.size w w2) := HBW.out.trans (HB2.mono HBW.out.size)
  have e : decide ((fl : Int) > 40) = decide (40 < fl) := decide_eq_decide.2 (by omega)
  refine bodyPost_ret (v := .bool (decide ((fl : Int) > 40))) (by simp [results, Tryz.results15, go_sem]) rfl ?_
  exact ⟨by rw [e], HBB.out⟩
end Go.Proofs.YtgdflaapgfpdeaaGreatDoor

namespace Go.Proofs.YtgdflaapgfpdeaaGreatDoor
open Go.RowKit

theorem res_ok {fa ta : List Nat} {f : Nat} (hf : f < (resP fa ta).length) : ((resP fa ta).getD f []).length = fa.length ∧ (∀ x, x < fa.length → ((resP fa ta).getD f []).getD x 0 < ta.length) ∧ ∀ x y, x < y → y < fa.length → Le fa x y → Le ta (((resP fa ta).getD f []).getD x 0) (((resP fa ta).getD f []).getD y 0) := (res_mem fa ta _).1 (res_in hf)
theorem res_mono {fa ta : List Nat} (hla : Lat fa) (hlb : Lat ta) {f : Nat} (hf : f < (resP fa ta).length) {x y : Nat} (h : Le fa x y) (hy : y < fa.length) : Le ta (((resP fa ta).getD f []).getD x 0) (((resP fa ta).getD f []).getD y 0) := by
  obtain ⟨_, h2, h3⟩ := res_ok hf
  rcases Nat.eq_or_lt_of_le (hla.rise _ _ h) with e | e
  · rw [e]
    exact hlb.refl _ (h2 y hy)
  · exact h3 x y e hy h
/-- The join of two functions, point by point. -/
theorem join_point {fa ta : List Nat} (hlb : Lat ta) (hfew : (resP fa ta).length ≤ 40) {f g : Nat} (hf : f < (resP fa ta).length) (hg : g < (resP fa ta).length) : joinP (fnsP ta (resP fa ta)) f g < (resP fa ta).length ∧ ∀ x, x < fa.length → ((resP fa ta).getD (joinP (fnsP ta (resP fa ta)) f g) []).getD x 0 = joinP ta (((resP fa ta).getD f []).getD x 0) (((resP fa ta).getD g []).getD x 0) := by
  have hl := fns_lat hlb hfew
  have hf' : f < (fnsP ta (resP fa ta)).length := by rw [fns_len]; exact hf
  have hg' : g < (fnsP ta (resP fa ta)).length := by rw [fns_len]; exact hg
  have hj := join_lt hl hf' hg'
  obtain ⟨_, _, j1, j2, j3⟩ := join_lat hl hf' hg'
  rw [fns_len] at hj
  generalize joinP (fnsP ta (resP fa ta)) f g = j at *
  obtain ⟨f1, f2, f3⟩ := res_ok hf
  obtain ⟨g1, g2, g3⟩ := res_ok hg
  obtain ⟨q1, q2, q3⟩ := res_ok hj
  have k1 := (fns_le hlb).1 j1
  have k2 := (fns_le hlb).1 j2
  refine ⟨hj, fun x hx => ?_⟩
  let r := (List.range fa.length).map fun x => joinP ta (((resP fa ta).getD f []).getD x 0) (((resP fa ta).getD g []).getD x 0)
  have hr : ∀ y, y < fa.length → r.getD y 0 = joinP ta (((resP fa ta).getD f []).getD y 0) (((resP fa ta).getD g []).getD y 0) := fun y hy => by simp [r, hy]
  have hrm : r ∈ resP fa ta := by
    refine (res_mem fa ta r).2 ⟨by simp [r], fun y hy => ?_, fun y z hyz hz h => ?_⟩
    · rw [hr y hy]
      exact join_lt hlb (f2 y hy) (g2 y hy)
    · have hy : y < fa.length := by omega
      rw [hr y hy, hr z hz]
      obtain ⟨_, _, a1, a2, _⟩ := join_lat hlb (f2 z hz) (g2 z hz)
      obtain ⟨_, _, _, _, b3⟩ := join_lat hlb (f2 y hy) (g2 y hy)
      exact b3 _ (hlb.trans _ _ _ (f3 y z hyz hz h) a1) (hlb.trans _ _ _ (g3 y z hyz hz h) a2)
  obtain ⟨k, hk, hkr⟩ := res_idx hrm
  have l1 : Le (fnsP ta (resP fa ta)) f k := (fns_le hlb).2 ⟨hf, hk, fun y hy => by
    rw [hkr, hr y hy]
    exact (join_lat hlb (f2 y hy) (g2 y hy)).2.2.1⟩
  have l2 : Le (fnsP ta (resP fa ta)) g k := (fns_le hlb).2 ⟨hg, hk, fun y hy => by
    rw [hkr, hr y hy]
    exact (join_lat hlb (f2 y hy) (g2 y hy)).2.2.2.1⟩
  have l3 := (fns_le hlb).1 (j3 k l1 l2)
  have h1 := l3.2.2 x hx
  rw [hkr, hr x hx] at h1
  exact hlb.anti h1 ((join_lat hlb (f2 x hx) (g2 x hx)).2.2.2.2 _ (k1.2.2 x hx) (k2.2.2 x hx))
theorem edge_mem (fa ta r : List Nat) (v : Nat) : ∀ k, ∀ y ∈ edgeP fa ta r v k, (ta.getD v 0).testBit (r.getD y 0) = true
  | 0, y, h => by simp [edgeP] at h
  | k + 1, y, h => by
    unfold edgeP at h
    split at h
    · next hc =>
      rcases List.mem_append.1 h with h | h
      · exact edge_mem fa ta r v k y h
      · rw [List.mem_singleton.1 h]
        simp only [Bool.and_eq_true] at hc
        exact hc.1
    · exact edge_mem fa ta r v k y h
theorem edge_sub (fa ta r : List Nat) (v : Nat) (k : Nat) : ∀ n, k ≤ n → ∀ y ∈ edgeP fa ta r v k, y ∈ edgeP fa ta r v n
  | 0, hn, y, h => by
    obtain rfl : k = 0 := by omega
    exact h
  | n + 1, hn, y, h => by
    rcases Nat.eq_or_lt_of_le hn with e | e
    · rw [← e]; exact h
    · have := edge_sub fa ta r v k n (by omega) y h
      unfold edgeP
      split
      · exact List.mem_append_left _ this
      · exact this
/-- What the least arguments say: where v is reached. -/
theorem edge_met {fa ta : List Nat} (hla : Lat fa) (hlb : Lat ta) {f v : Nat} (hf : f < (resP fa ta).length) {x : Nat} (hx : x < fa.length) : (edgeP fa ta ((resP fa ta).getD f []) v fa.length).any (fun y => (fa.getD y 0).testBit x) = (ta.getD v 0).testBit (((resP fa ta).getD f []).getD x 0) := by
  rw [Bool.eq_iff_iff, List.any_eq_true]
  constructor
  · rintro ⟨y, h1, h2⟩
    have h3 : Le ta v (((resP fa ta).getD f []).getD y 0) := edge_mem _ _ _ _ _ y h1
    exact hlb.trans _ _ _ h3 (res_mono hla hlb hf h2 hx)
  · intro h
    by_cases he : (edgeP fa ta ((resP fa ta).getD f []) v x).any (fun y => (fa.getD y 0).testBit x) = true
    · obtain ⟨y, h1, h2⟩ := List.any_eq_true.1 he
      exact ⟨y, edge_sub _ _ _ _ x fa.length (by omega) y h1, h2⟩
    · refine ⟨x, edge_sub _ _ _ _ (x + 1) fa.length hx x ?_, hla.refl x hx⟩
      have e : edgeP fa ta ((resP fa ta).getD f []) v (x + 1) = edgeP fa ta ((resP fa ta).getD f []) v x ++ [x] := by
        rw [edgeP, if_pos]
        rw [h, Bool.eq_false_iff.2 he]
        rfl
      rw [e]
      simp
theorem under_point {fa ta : List Nat} (hlb : Lat ta) {f g : Nat} (hf : f < (resP fa ta).length) (hg : g < (resP fa ta).length) : ((fnsP ta (resP fa ta)).getD f 0).testBit g = true ↔ ∀ x, x < fa.length → (ta.getD (((resP fa ta).getD f []).getD x 0) 0).testBit (((resP fa ta).getD g []).getD x 0) = true := by
  have h := fns_le (fa := fa) hlb (f := f) (g := g)
  exact ⟨fun q => (h.1 q).2.2, fun q => h.2 ⟨hf, hg, q⟩⟩
theorem form_parts {d : Nat} {t : Tn (d + 1)} (h : formB (d + 1) t = true) : ∀ c ∈ t.2, formB d c = true := by
  unfold formB at h
  simp only [Bool.and_eq_true, List.all_eq_true] at h
  exact h.2
/-- The parts of a function type that has an order. -/
theorem part_order {d : Nat} {t : Tn (d + 1)} {D : OrdD} (h : funD d t = some D) : ∃ (a b : Tn d) (A C : OrdD), t.2 = [a, b] ∧ t.1.1 = 3 ∧ orderD d a = some A ∧ orderD d b = some C ∧ D = (fnsP C.1 (resP A.1 C.1), some (A.1, C.1)) ∧ Lat A.1 ∧ Lat C.1 ∧ (resP A.1 C.1).length ≤ 40 ∧ orderD (d + 1) t = some D ∧ (flat d a).length ≤ 500 ∧ (flat d b).length ≤ 500 := by
  obtain ⟨a, b, A, C, h1, h2, h3, h4, h5, h6, h7, h8⟩ := fun_parts h
  obtain ⟨⟨k, n⟩, ts⟩ := t
  have h1 : ts = [a, b] := h1
  have h2 : k = 3 := h2
  subst h1 h2
  have ho : orderD (d + 1) ((3, n), [a, b]) = some D := by
    unfold funD at h
    rw [if_pos rfl] at h
    exact h
  have hw : wrongT (d + 1) ((3, n), [a, b]) = 0 ∧ noVarB (flat (d + 1) ((3, n), [a, b])) = true := by
    unfold orderD at ho
    split at ho
    · next hw => exact hw
    · cases ho
  obtain ⟨hfm, hfl⟩ := wrong_form hw.1
  have hnv := noVarB_iff.1 hw.2
  have e : flat (d + 1) ((3, n), [a, b]) = (3, n, 2) :: (flat d a ++ flat d b) := by
    rw [flat_succ, flats_cons, flats_cons, flats_nil, List.append_nil]
    rfl
  rw [e] at hfl hnv
  rw [List.length_cons, List.length_append] at hfl
  have hfm2 : ∀ c ∈ [a, b], formB d c = true := form_parts hfm
  have part : ∀ (c : Tn d) (E : OrdD), c ∈ [a, b] → (flat d c).length ≤ 499 → NoVar (flat d c) → ordD d c = some E → orderD d c = some E := fun c E hc hl hv he => by
    unfold orderD
    rw [if_pos ⟨by
      unfold wrongT
      rw [if_pos (hfm2 c hc), if_neg (by omega)], noVarB_iff.2 hv⟩]
    exact he
  exact ⟨a, b, A, C, rfl, rfl, part a A (by simp) (by omega) (fun y hy => hnv y (by simp [hy])) h3, part b C (by simp) (by omega) (fun y hy => hnv y (by simp [hy])) h4, h5, h6, h7, h8, ho, by omega, by omega⟩
end Go.Proofs.YtgdflaapgfpdeaaGreatDoor
