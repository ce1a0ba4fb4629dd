/- Lists of numbers compared; the search in rows of them; Of. The search in rows of lists; Of. Of. The law's own: nodes, great. Plain: functions point by point. LatticeMaps: all. -/
import Derived.Test.YtgdflaapgfpdeaaGreatDoorMxx
import Derived.Deep.LoopGhost
namespace Go.Proofs.YtgdflaapgfpdeaaGreatDoor
open Go.RowKit

def cmpI (x y : Int) : Int := if x < y then -1 else if y < x then 1 else 0
def cmpL : List Int → List Int → Int
  | [], [] => 0
  | [], _ :: _ => -1
  | _ :: _, [] => 1
  | x :: l, y :: m => if cmpI x y = 0 then cmpL l m else cmpI x y
theorem cmpI_zero {x y : Int} : cmpI x y = 0 ↔ x = y := by
  unfold cmpI
  split
  · constructor <;> intro h <;> omega
  · split
    · constructor <;> intro h <;> omega
    · constructor <;> intro h <;> omega
theorem cmpL_zero : ∀ (l m : List Int), cmpL l m = 0 ↔ l = m
  | [], [] => by simp [cmpL]
  | [], _ :: _ => by simp [cmpL]
  | _ :: _, [] => by simp [cmpL]
  | x :: l, y :: m => by
    unfold cmpL
    by_cases h : cmpI x y = 0
    · rw [if_pos h, cmpL_zero l m, cmpI_zero.1 h]
      simp
    · rw [if_neg h]
      constructor
      · intro h2; exact absurd h2 h
      · intro h2
        exact absurd (cmpI_zero.2 (List.cons.inj h2).1) h
/-- One list is ahead of another one. -/
def Ahead (r s : List Int) : Prop := ∃ p, p < r.length ∧ p < s.length ∧ r.getD p 0 < s.getD p 0 ∧ ∀ x, x < p → r.getD x 0 = s.getD x 0
theorem ahead_neg : ∀ (r s t : List Int), Ahead r s → cmpL s t < 0 → cmpL r t < 0
  | [], _, _, ⟨p, h, _⟩, _ => by simp at h
  | _ :: _, [], _, ⟨p, _, h, _⟩, _ => by simp at h
  | a :: r, b :: s, [], _, h => by simp [cmpL] at h
  | a :: r, b :: s, c :: t, ⟨p, h1, h2, h3, h4⟩, h => by
    unfold cmpL at h ⊢
    match p with
    | 0 =>
      have hab : a < b := by simpa using h3
      have hbc : b ≤ c := by
        apply Classical.byContradiction
        intro hn
        have e : cmpI b c = 1 := by
          unfold cmpI
          rw [if_neg (by omega), if_pos (by omega)]
        rw [e, if_neg (by decide)] at h
        omega
      have e : cmpI a c = -1 := by
        unfold cmpI
        rw [if_pos (by omega)]
      rw [e, if_neg (by decide)]
      decide
    | q + 1 =>
      have hab : a = b := by simpa using h4 0 (by omega)
      subst hab
      by_cases hc : cmpI a c = 0
      · rw [if_pos hc] at h ⊢
        exact ahead_neg r s t ⟨q, by simpa using h1, by simpa using h2, by simpa using h3, fun x hx => by simpa using h4 (x + 1) (by omega)⟩ h
      · rw [if_neg hc] at h ⊢
        exact h
def ofN (l : List Nat) : List Int := l.map fun (n : Nat) => (n : Int)
theorem ofN_len (l : List Nat) : (ofN l).length = l.length := by simp [ofN]
theorem ofN_inj {l m : List Nat} (h : ofN l = ofN m) : l = m := by
  have h2 := congrArg (List.map Int.toNat) h
  simpa [ofN, Function.comp_def] using h2
/-- A row of numbers of whatever sign. -/
def Zts (w : World) (v : Value) (l : List Int) : Prop := ∃ ad cap, v = .slice ad l.length cap ∧ ∀ i (h : i < l.length), ∃ g o, ad = some ⟨g, o, none⟩ ∧ l.length ≤ cap ∧ g < w.heap.size ∧ w.cell? ⟨g, o + i, none⟩ = some (.int .i64 l[i])
theorem Zts.on {w w' : World} {v : Value} {l : List Int} (h : Zts w v l) (hb : Below w.heap.size w w') : Zts w' v l := by
  obtain ⟨ad, cap, h1, h2⟩ := h
  refine ⟨ad, cap, h1, fun i hi => ?_⟩
  obtain ⟨g, o, a1, a2, a3, a4⟩ := h2 i hi
  exact ⟨g, o, a1, a2, Nat.lt_of_lt_of_le a3 hb.size, (hb.cell (p := ⟨g, o + i, none⟩) a3).trans a4⟩
theorem nts_zts {w : World} {S : Nat → Prop} {ad : Option Addr} {cap : Nat} {l : List Nat} (h : Nts w S (.slice ad l.length cap) l) (hS : ∀ y, S y → y < w.heap.size) : Zts w (.slice ad l.length cap) (ofN l) := by
  refine ⟨ad, cap, by rw [ofN_len], fun i hi => ?_⟩
  have hi2 : i < l.length := by rwa [ofN_len] at hi
  obtain ⟨g, o, a1, a2, a3, a4⟩ := h.at hi2
  exact ⟨g, o, a1, by rw [ofN_len]; exact a2, hS g a3, by rw [a4]; simp [ofN]⟩
set_option maxHeartbeats 4000000 in
set_option maxRecDepth 10000 in
theorem nan_any (x : Int) (w : World) : Calls Tryz.prog 51 #[.int .i64 x] w fun r w' => r = .returned (.bool false) ∧ w' = w := by
  have e1 : (x != x) = false := by simp
  go_enter Tryz.func51, Tryz.ntmps51
  go_wp2
  go_ret
  exact ⟨rfl, rfl⟩
set_option maxHeartbeats 4000000 in
set_option maxRecDepth 10000 in
theorem compareI_any (x y : Int) (w : World) : Calls Tryz.prog 41 #[.int .i64 x, .int .i64 y] w fun r w' => r = .returned (.int .i64 (cmpI x y)) ∧ w' = w := by
  unfold cmpI
  by_cases h1 : x < y
  · rw [if_pos h1]
    go_enter Tryz.func41, Tryz.ntmps41
    go_wp2_with (first | (go_at_call 51; (with_reducible refine Calls.mono (nan_any x _) ?_); rintro e' w3 ⟨rfl, hw3⟩; obtain rfl := hw3.symm; clear hw3) | (go_at_call 51; (with_reducible refine Calls.mono (nan_any y _) ?_); rintro e' w4 ⟨rfl, hw4⟩; obtain rfl := hw4.symm; clear hw4))
    go_ret
    exact ⟨rfl, rfl⟩
  · rw [if_neg h1]
    by_cases h2 : y < x
    · rw [if_pos h2]
      go_enter Tryz.func41, Tryz.ntmps41
      go_wp2_with (first | (go_at_call 51; (with_reducible refine Calls.mono (nan_any x _) ?_); rintro e' w3 ⟨rfl, hw3⟩; obtain rfl := hw3.symm; clear hw3) | (go_at_call 51; (with_reducible refine Calls.mono (nan_any y _) ?_); rintro e' w4 ⟨rfl, hw4⟩; obtain rfl := hw4.symm; clear hw4))
      go_ret
      exact ⟨rfl, rfl⟩
    · rw [if_neg h2]
      go_enter Tryz.func41, Tryz.ntmps41
      go_wp2_with (first | (go_at_call 51; (with_reducible refine Calls.mono (nan_any x _) ?_); rintro e' w3 ⟨rfl, hw3⟩; obtain rfl := hw3.symm; clear hw3) | (go_at_call 51; (with_reducible refine Calls.mono (nan_any y _) ?_); rintro e' w4 ⟨rfl, hw4⟩; obtain rfl := hw4.symm; clear hw4))
      go_ret
      exact ⟨rfl, rfl⟩
set_option maxHeartbeats 8000000 in
set_option maxRecDepth 10000 in
theorem compareL_any {w : World} {u v : Value} {l m : List Int} (hu : Zts w u l) (hv : Zts w v m) (hl : l.length ≤ 1000) :
    Calls Tryz.prog 29 #[u, v] w fun r w' => r = .returned (.int .i64 (cmpL l m)) ∧ w' = w := by
  obtain ⟨au, cu, rfl, HU⟩ := hu
  obtain ⟨av, cv, rfl, HV⟩ := hv
  replace HU : Hid (∀ i (h : i < l.length), ∃ g o, au = some ⟨g, o, none⟩ ∧ l.length ≤ cu ∧ g < w.heap.size ∧ w.cell? ⟨g, o + i, none⟩ = some (.int .i64 l[i])) := HU
  replace HV : Hid (∀ i (h : i < m.length), ∃ g o, av = some ⟨g, o, none⟩ ∧ m.length ≤ cv ∧ g < w.heap.size ∧ w.cell? ⟨g, o + i, none⟩ = some (.int .i64 m[i])) := HV
  go_enter Tryz.func29, Tryz.ntmps29
  go_upto_region 2 with fail
  go_loopw [11] (fun iv wr => ∃ i : Nat, i ≤ l.length ∧ i ≤ m.length ∧ iv = .int .i64 i ∧ wr = w ∧ Hid (cmpL l m = cmpL (l.drop i) (m.drop i))) (fun iv _ => l.length - (intOf iv).toNat)
  case atStart => exact ⟨0, by omega, by omega, by go_num, rfl, rfl⟩
  case round =>
    obtain ⟨i, hi, hm, rfl, hwr, HI⟩ := hrel
    obtain rfl := hwr.symm
    clear hwr
    by_cases hil : i < l.length
    · obtain ⟨g, o, rfl, hc, -, q1⟩ := HU.out i hil
      have i1 : (0 : Int) ≤ (i : Int) := by omega
      have i2 : (i : Int) < (l.length : Int) := by omega
      have HD : Hid (l.drop i = l[i] :: l.drop (i + 1)) := List.drop_eq_getElem_cons hil
      by_cases him : i < m.length
      · obtain ⟨g2, o2, rfl, hc2, -, q2⟩ := HV.out i him
        have HD2 : Hid (m.drop i = m[i] :: m.drop (i + 1)) := List.drop_eq_getElem_cons him
        have i3 : (i : Int) < (m.length : Int) := by omega
        have i4 : ¬ ((i : Int) ≥ (m.length : Int)) := by omega
        have CC := compareI_any l[i] m[i] w
        have HE : Hid (cmpL l m = if cmpI l[i] m[i] = 0 then cmpL (l.drop (i + 1)) (m.drop (i + 1)) else cmpI l[i] m[i]) := by
          show _ = _
          rw [HI.out, HD.out, HD2.out]
          rfl
        generalize l[i] = x at *
        generalize m[i] = y at *
        by_cases hz : cmpI x y = 0
        · rw [if_pos hz] at HE
          rw [hz] at CC
          clear hz HI HD HD2
          go_wp2_with (first | (go_at_call 41; (with_reducible refine Calls.mono CC ?_); rintro e' w3 ⟨rfl, hw3⟩; obtain rfl := hw3.symm; clear hw3))
          go_roundw
          case rel => exact ⟨i + 1, hil, him, by go_num, (by trivial), HE.out⟩
          case measure => simp [intOf]; omega
        · rw [if_neg hz] at HE
          have e5 : (cmpI x y != 0) = true := by simp [hz]
          clear hz HI HD HD2
          generalize cmpI x y = cc at *
          go_wp2_with (first | (go_at_call 41; (with_reducible refine Calls.mono CC ?_); rintro e' w3 ⟨rfl, hw3⟩; obtain rfl := hw3.symm; clear hw3))
          go_ret
          exact ⟨by rw [HE.out]; rfl, rfl⟩
      · have i4 : (i : Int) ≥ (m.length : Int) := by omega
        have HE : Hid (cmpL l m = 1) := by
          show _ = _
          rw [HI.out, HD.out, show m.drop i = [] from List.drop_eq_nil_of_le (by omega)]
          rfl
        clear HI HD
        generalize l[i] = x at *
        go_wp2
        go_ret
        exact ⟨by rw [HE.out]; rfl, rfl⟩
    · have hd : l.drop i = [] := List.drop_eq_nil_of_le (by omega)
      rw [hd] at HI
      obtain rfl : i = l.length := by omega
      by_cases hlm : l.length < m.length
      · have HE : Hid (cmpL l m = -1) := by
          show _ = _
          rw [HI.out, List.drop_eq_getElem_cons hlm]
          rfl
        have i4 : (l.length : Int) < (m.length : Int) := by omega
        clear HI
        go_wp2
        go_ret
        exact ⟨by rw [HE.out]; rfl, rfl⟩
      · have HE : Hid (cmpL l m = 0) := by
          show _ = _
          rw [HI.out, show m.drop l.length = [] from List.drop_eq_nil_of_le (by omega)]
          rfl
        have i4 : ¬ (l.length : Int) < (m.length : Int) := by omega
        clear HI
        go_wp2
        go_ret
        exact ⟨by rw [HE.out]; rfl, rfl⟩
end Go.Proofs.YtgdflaapgfpdeaaGreatDoor

namespace Go.Proofs.YtgdflaapgfpdeaaGreatDoor
open Go.RowKit

/-- What the search answers. -/
def SeaP (rs : List (List Nat)) (t : List Int) (i : Int) (ok : Bool) : Prop := (ok = true → ∃ n : Nat, i = n ∧ n < rs.length ∧ ofN (rs.getD n []) = t) ∧ (ok = false → ∀ n, n < rs.length → ofN (rs.getD n []) ≠ t)
def SeaR (rs : List (List Nat)) (t : List Int) (r : Ending) : Prop := ∃ i ok, r = .returned (.tuple #[.int .i64 i, .bool ok]) ∧ Hid (SeaP rs t i ok)
set_option maxHeartbeats 8000000 in
set_option maxRecDepth 10000 in
theorem search_any {w : World} {S : Nat → Prop} {ad : Option Addr} {cap : Nat} {rs : List (List Nat)} {tv : Value} {t : List Int} (hr : RowE ERs w S S (.slice ad rs.length cap) rs) (hS : ∀ y, S y → y < w.heap.size) (ht : Zts w tv t) (hl : rs.length ≤ 1000) (hl2 : ∀ r ∈ rs, r.length ≤ 1000) (hm : ∀ i j, i ≤ j → j < rs.length → cmpL (ofN (rs.getD j [])) t < 0 → cmpL (ofN (rs.getD i [])) t < 0) (hm2 : ∀ i j, i < j → j < rs.length → ofN (rs.getD j []) = t → cmpL (ofN (rs.getD i [])) t < 0) :
    Calls Tryz.prog 28 #[.slice ad rs.length cap, tv, .func (.func 29) #[] #[]] w fun r w' => SeaR rs t r ∧ w' = w := by
  have HS : Hid (∀ i, i < rs.length → ∃ g o, ad = some ⟨g, o, none⟩ ∧ rs.length ≤ cap ∧ ∃ ai ci li, w.cell? ⟨g, o + i, none⟩ = some (.slice ai li ci) ∧ Calls Tryz.prog 29 #[.slice ai li ci, tv] w fun r w' => r = .returned (.int .i64 (cmpL (ofN (rs.getD i [])) t)) ∧ w' = w) := fun i hi => by
    obtain ⟨g, o, a1, a2, a3, ai, ci, a4, a5⟩ := row_nts hr i hi
    refine ⟨g, o, a1, a3, ai, ci, _, a4, compareL_any (nts_zts a5 hS) ht ?_⟩
    rw [ofN_len]
    refine hl2 _ ?_
    rw [show rs.getD i [] = rs[i] by simp [hi]]
    exact List.getElem_mem hi
  have HM : Hid (∀ i j, i ≤ j → j < rs.length → cmpL (ofN (rs.getD j [])) t < 0 → cmpL (ofN (rs.getD i [])) t < 0) := hm
  have HM2 : Hid (∀ i j, i < j → j < rs.length → ofN (rs.getD j []) = t → cmpL (ofN (rs.getD i [])) t < 0) := hm2
  have hlen : rs.length ≤ 1000 := hl
  obtain ⟨tad, tcap, rfl, -⟩ := ht
  clear hr hS hl hl2 hm hm2
  go_enter Tryz.func28, Tryz.ntmps28
  go_upto_region 3 with fail
  go_loopw [9, 10] (fun av bv wr => ∃ lo hi : Nat, av = .int .i64 lo ∧ bv = .int .i64 hi ∧ lo ≤ hi ∧ hi ≤ rs.length ∧ wr = w ∧ Hid (∀ k, k < lo → cmpL (ofN (rs.getD k [])) t < 0) ∧ Hid (∀ k, hi ≤ k → k < rs.length → 0 ≤ cmpL (ofN (rs.getD k [])) t)) (fun av bv _ => (intOf bv).toNat - (intOf av).toNat)
  case atStart => exact ⟨0, rs.length, by go_num, by go_num, Nat.zero_le _, Nat.le_refl _, rfl, fun k h => by omega, fun k h h2 => by omega⟩
  case round =>
    obtain ⟨lo, hi, rfl, rfl, hlh, hin, hwr, H1, H2⟩ := hrel
    obtain rfl := hwr.symm
    clear hwr
    by_cases hlt : lo < hi
    · obtain ⟨g, o, rfl, hcap, ai, ci, li, q1, CC⟩ := HS.out ((lo + hi) / 2) (by omega)
      have HT : Hid (cmpL (ofN (rs.getD ((lo + hi) / 2) [])) t < 0 → ∀ k, k < (lo + hi) / 2 + 1 → cmpL (ofN (rs.getD k [])) t < 0) := fun h k hk => HM.out k _ (by omega) (by omega) h
      have HF : Hid (0 ≤ cmpL (ofN (rs.getD ((lo + hi) / 2) [])) t → ∀ k, (lo + hi) / 2 ≤ k → k < rs.length → 0 ≤ cmpL (ofN (rs.getD k [])) t) := fun h k hk hk2 => Int.not_lt.1 fun h3 => by have := HM.out _ k hk hk2 h3; omega
      generalize cmpL (ofN (rs.getD ((lo + hi) / 2) [])) t = cc at *
      by_cases hcc : cc < 0
      · have HT2 := HT.out hcc
        replace HT2 : Hid _ := HT2
        go_wp2_with (first | (go_at_call 29; (with_reducible refine Calls.mono CC ?_); rintro e' w3 ⟨rfl, hw3⟩; obtain rfl := hw3.symm; clear hw3))
        go_roundw
        case rel => exact ⟨(lo + hi) / 2 + 1, hi, by go_num, rfl, by omega, hin, (by trivial), HT2.out, H2.out⟩
        case measure => simp [intOf]; omega
      · have HF2 := HF.out (Int.not_lt.1 hcc)
        replace HF2 : Hid _ := HF2
        go_wp2_with (first | (go_at_call 29; (with_reducible refine Calls.mono CC ?_); rintro e' w3 ⟨rfl, hw3⟩; obtain rfl := hw3.symm; clear hw3))
        go_roundw
        case rel => exact ⟨lo, (lo + hi) / 2, rfl, by go_num, by omega, by omega, (by trivial), H1.out, HF2.out⟩
        case measure => simp [intOf]; omega
    · obtain rfl : hi = lo := by omega
      by_cases hn : hi < rs.length
      · obtain ⟨g, o, rfl, hcap, ai, ci, li, q1, CC⟩ := HS.out hi hn
        have i1 : (0 : Int) ≤ (hi : Int) := by omega
        have i2 : (hi : Int) < (rs.length : Int) := by omega
        by_cases hz : cmpL (ofN (rs.getD hi [])) t = 0
        · have HE : Hid (SeaP rs t (hi : Int) true) := ⟨fun _ => ⟨hi, rfl, hn, (cmpL_zero _ _).1 hz⟩, fun h => (by cases h)⟩
          rw [hz] at CC
          clear hz H1 H2
          go_wp2_with (first | (go_at_call 29; (with_reducible refine Calls.mono CC ?_); rintro e' w3 ⟨rfl, hw3⟩; obtain rfl := hw3.symm; clear hw3))
          go_ret2
          exact ⟨⟨_, _, rfl, HE.out⟩, rfl⟩
        · have HE : Hid (SeaP rs t (hi : Int) false) := ⟨fun h => (by cases h), fun _ k hk e => by
            have h0 := (cmpL_zero _ _).2 e
            rcases Nat.lt_or_ge k hi with h | h
            · have := H1.out k h
              omega
            · rcases Nat.eq_or_lt_of_le h with h | h
              · subst h
                exact hz h0
              · have h3 := H2.out hi (Nat.le_refl _) hn
                have h4 := HM2.out hi k h hk e
                omega⟩
          have e5 : (cmpL (ofN (rs.getD hi [])) t == 0) = false := beq_eq_false_iff_ne.2 hz
          clear hz H1 H2
          generalize cmpL (ofN (rs.getD hi [])) t = cc at *
          go_wp2_with (first | (go_at_call 29; (with_reducible refine Calls.mono CC ?_); rintro e' w3 ⟨rfl, hw3⟩; obtain rfl := hw3.symm; clear hw3))
          go_ret2
          exact ⟨⟨_, _, rfl, HE.out⟩, rfl⟩
      · have HE : Hid (SeaP rs t (hi : Int) false) := ⟨fun h => (by cases h), fun _ k hk e => by
          have h0 := (cmpL_zero _ _).2 e
          have := H1.out k (by omega)
          omega⟩
        have i2 : ¬ (hi : Int) < (rs.length : Int) := by omega
        clear H1 H2
        go_wp2
        go_ret2
        exact ⟨⟨_, _, rfl, HE.out⟩, rfl⟩
end Go.Proofs.YtgdflaapgfpdeaaGreatDoor

namespace Go.Proofs.YtgdflaapgfpdeaaGreatDoor
open Go.RowKit

theorem ahead_lt : ∀ (r s : List Int), Ahead r s → cmpL r s < 0
  | [], _, ⟨p, h, _⟩ => by simp at h
  | _ :: _, [], ⟨p, _, h, _⟩ => by simp at h
  | a :: r, b :: s, ⟨p, h1, h2, h3, h4⟩ => by
    unfold cmpL
    match p with
    | 0 =>
      have hab : a < b := by simpa using h3
      have e : cmpI a b = -1 := by
        unfold cmpI
        rw [if_pos (by omega)]
      rw [e, if_neg (by decide)]
      decide
    | q + 1 =>
      have hab : a = b := by simpa using h4 0 (by omega)
      subst hab
      rw [if_pos (cmpI_zero.2 rfl)]
      exact ahead_lt r s ⟨q, by simpa using h1, by simpa using h2, by simpa using h3, fun x hx => by simpa using h4 (x + 1) (by omega)⟩
theorem ofN_get (l : List Nat) (i : Nat) : (ofN l).getD i 0 = (l.getD i 0 : Int) := by
  simp only [ofN, List.getD_eq_getElem?_getD, List.getElem?_map]
  cases l[i]? <;> rfl
theorem res_ahead {fa ta : List Nat} {i j : Nat} (h : i < j) (hj : j < (resP fa ta).length) : Ahead (ofN ((resP fa ta).getD i [])) (ofN ((resP fa ta).getD j [])) := by
  have h1 := List.pairwise_iff_getElem.1 (all_sorted fa ta fa.length []) i j (show i < (resP fa ta).length by omega) hj h
  obtain ⟨p, a1, a2, a3, a4⟩ := h1
  have e1 : (resP fa ta).getD i [] = (allP fa ta fa.length [])[i]'(show i < (resP fa ta).length by omega) := by
    rw [List.getD_eq_getElem?_getD, List.getElem?_eq_getElem (show i < (resP fa ta).length by omega)]
    rfl
  have e2 : (resP fa ta).getD j [] = (allP fa ta fa.length [])[j]'hj := by
    rw [List.getD_eq_getElem?_getD, List.getElem?_eq_getElem hj]
    rfl
  refine ⟨p, by rw [ofN_len, e1]; exact a1, by rw [ofN_len, e2]; exact a2, by rw [ofN_get, ofN_get, e1, e2]; omega, fun x hx => by rw [ofN_get, ofN_get, e1, e2, a4 x hx]⟩
def ofD (od : Option OrdD) (tl : List Int) : Nat × Int := match od with
  | none => (0, 140)
  | some D => match D.2 with
    | none => (0, 140)
    | some p => match (resP p.1 p.2).findIdx? (fun r => decide (ofN r = tl)) with
      | some i => (i, 0)
      | none => (0, 141)
theorem of_found {fa ta : List Nat} {tl : List Int} {n : Nat} (h : n < (resP fa ta).length) (h2 : ofN ((resP fa ta).getD n []) = tl) : ofD (some (fnsP ta (resP fa ta), some (fa, ta))) tl = (n, 0) := by
  have e : (resP fa ta).findIdx? (fun r => decide (ofN r = tl)) = some n := by
    rw [List.findIdx?_eq_some_iff_getElem]
    have e1 : (resP fa ta).getD n [] = (resP fa ta)[n] := by simp [h]
    refine ⟨h, by rw [← e1]; simpa using h2, fun j hj => ?_⟩
    have e2 : (resP fa ta).getD j [] = (resP fa ta)[j]'(by omega) := by simp [show j < (resP fa ta).length by omega]
    have h3 := ahead_lt _ _ (res_ahead hj h)
    simp only [decide_eq_true_eq]
    intro h4
    rw [h2, e2, h4, (cmpL_zero tl tl).2 rfl] at h3
    omega
  unfold ofD
  dsimp only
  rw [e]
theorem of_none {fa ta : List Nat} {tl : List Int} (h : ∀ n, n < (resP fa ta).length → ofN ((resP fa ta).getD n []) ≠ tl) : ofD (some (fnsP ta (resP fa ta), some (fa, ta))) tl = (0, 141) := by
  have e : (resP fa ta).findIdx? (fun r => decide (ofN r = tl)) = none := by
    rw [List.findIdx?_eq_none_iff]
    intro x hx
    obtain ⟨j, hj, rfl⟩ := List.getElem_of_mem hx
    have := h j hj
    rw [show (resP fa ta).getD j [] = (resP fa ta)[j] by simp [hj]] at this
    exact decide_eq_false this
  unfold ofD
  dsimp only
  rw [e]
set_option maxHeartbeats 16000000 in
set_option maxRecDepth 10000 in
theorem of_all (d : Nat) (x : Value) (t : Tn (d + 1)) (w : World) (hx : TyAt w w.heap.size (d + 1) x t) (hN : (flat (d + 1) t).length ≤ 4194304) {tv : Value} {tl : List Int} (ht : Zts w tv tl) :
    Calls Tryz.prog 9 #[x, tv] w fun r w' => r = .returned (.tuple #[.int .i64 ((ofD (funD d t) tl).1 : Int), .int .i64 (ofD (funD d t) tl).2]) ∧ Hid (Below w.heap.size w w') := by
  have HX : Hid (TyAt w w.heap.size (d + 1) x t) := hx
  obtain ⟨u, rfl, hn1, hn2, hrow⟩ := hx
  obtain ⟨ad, cap, rfl⟩ := hrow.len
  obtain ⟨X, hX⟩ : ∃ X, X = w.heap.size := ⟨_, rfl⟩
  obtain ⟨W, hW⟩ : ∃ W, W = w.alloc (.cells #[.int .i64 t.1.1, .string ⟨t.1.2.toArray⟩, .slice ad t.2.length cap] 24) := ⟨_, rfl⟩
  have hBW : Below w.heap.size w W := by rw [hW]; exact (Below.refl _ _).alloc (Nat.le_refl _) _
  have hXW : W.heap[X]? = some (.cells #[.int .i64 t.1.1, .string ⟨t.1.2.toArray⟩, .slice ad t.2.length cap] 24 (0, 0)) := by rw [hW, hX]; exact new_blk _ _
  have CO := functionsOf_any d (.agg #[.int .i64 t.1.1, .string ⟨t.1.2.toArray⟩, .slice ad t.2.length cap]) t W (TyAt.below hBW hBW.size _ _ _ HX.out) hN
  have c0 : W.cell? ⟨X, 0, none⟩ = some (.int .i64 t.1.1) := heap_cl hXW rfl
  have c1 : W.cell? ⟨X, 1, none⟩ = some (.string ⟨t.1.2.toArray⟩) := heap_cl hXW rfl
  have c2 : W.cell? ⟨X, 2, none⟩ = some (.slice ad t.2.length cap) := heap_cl hXW rfl
  have HXE : Hid (X = w.heap.size) := hX
  have HBW : Hid (Below w.heap.size w W) := hBW
  have HZT : Hid (∀ w2, Below w.heap.size w w2 → Zts w2 tv tl) := fun w2 h2 => ht.on h2
  obtain ⟨tad, tcap, rfl, -⟩ := ht
  clear hn1 hn2 hrow hX hBW hXW hN HX
  generalize funD d t = od at *
  generalize t.1.1 = k at *
  generalize t.1.2 = n at *
  generalize t.2.length = m at *
  clear t
  go_enter Tryz.func9, Tryz.ntmps9
  go_upto_region 1 with fail
  rw [← hW, ← HXE.out]
  clear hW
  go_upto_region 2 with (first | (go_at_call 27; (with_reducible refine Calls.mono CO ?_); rintro e' w2 ⟨HB2, hP2⟩; obtain ⟨vp, ve, rfl, HP2⟩ : ∃ vp ve, e' = .returned (.tuple #[vp, ve]) ∧ Hid ((od = none ∧ vp = .pointer none ∧ ve = .int .i64 140) ∨ ∃ fa ta p, od = some (fnsP ta (resP fa ta), some (fa, ta)) ∧ Lat fa ∧ Lat ta ∧ (resP fa ta).length ≤ 40 ∧ vp = .pointer (some ⟨p, 0, none⟩) ∧ ve = .int .i64 0 ∧ OrP w2 (fun y => y < w2.heap.size) p (fnsP ta (resP fa ta), some (fa, ta))) := (by
        rcases hP2 with ⟨h1, h2⟩ | ⟨fa, ta, p, h1, h2, h3, h4, h5, h6⟩
        · exact ⟨_, _, h2, .inl ⟨h1, rfl, rfl⟩⟩
        · exact ⟨_, _, h5, .inr ⟨fa, ta, p, h1, h2, h3, h4, rfl, rfl, h6.out⟩⟩); clear hP2))
  have HBB : Hid (Below w.heap.size w w2) := HBW.out.trans (HB2.out.mono HBW.out.size)
  clear c0 c1 c2 CO HB2
  rcases HP2.out with ⟨rfl, rfl, rfl⟩ | ⟨fa, ta, p, rfl, hla, hlb, hfew, rfl, rfl, hor⟩
  · clear HP2
    go_wp2
    refine bodyPost_ret (v := .tuple #[.int .i64 0, .int .i64 140]) (by simp [results, Tryz.results9, go_sem]) rfl ?_
    exact ⟨rfl, HBB.out⟩
  · obtain ⟨hab, hrest⟩ := hor
    obtain ⟨pf, pt, rv, q1, q2, q3, q4, q5, q6⟩ := hrest fa ta rfl
    have HOR : Hid (OrP w2 (fun y => y < w2.heap.size) p (fnsP ta (resP fa ta), some (fa, ta))) := ⟨hab, hrest⟩
    have HLB : Hid (Lat ta) := hlb
    obtain ⟨adr, capr, hrv, -⟩ := RowK.open q6
    subst hrv
    have CS := search_any q6 (fun _ h => h) (HZT.out w2 HBB.out) (by omega) (fun r hr => by rw [((res_mem fa ta r).1 hr).1]; have := hla.few; omega) (fun i j h1 h2 h3 => by
      rcases Nat.eq_or_lt_of_le h1 with h | h
      · rw [h]; exact h3
      · exact ahead_neg _ _ _ (res_ahead h h2) h3) (fun i j h1 h2 h3 => by rw [← h3]; exact ahead_lt _ _ (res_ahead h1 h2))
    have HSE : Hid (∀ i ok, SeaP (resP fa ta) tl i ok → (ok = true → ∃ n : Nat, i = n ∧ ofD (some (fnsP ta (resP fa ta), some (fa, ta))) tl = (n, 0)) ∧ (ok = false → ofD (some (fnsP ta (resP fa ta), some (fa, ta))) tl = (0, 141))) := fun i ok h => ⟨fun hok => by
      obtain ⟨n, h1, h2, h3⟩ := h.1 hok
      exact ⟨n, h1, of_found h2 h3⟩, fun hok => of_none (h.2 hok)⟩
    clear HP2 HOR hrest hab q1 q2 q4 q5 q6 hla hlb hfew HZT
    generalize hod : ofD (some (fnsP ta (resP fa ta), some (fa, ta))) tl = od at *
    have HOD : Hid (ofD (some (fnsP ta (resP fa ta), some (fa, ta))) tl = od) := hod
    clear hod
    go_upto_region 5 with (first | (go_at_call 28; (with_reducible refine Calls.mono CS ?_); rintro e' w3 ⟨⟨i, ok, rfl, HI⟩, hw3⟩; obtain rfl := hw3.symm; clear hw3))
    obtain ⟨h1, h2⟩ := HSE.out i ok HI.out
    clear HSE HI CS q3
    cases ok with
    | true =>
      obtain ⟨n2, rfl, h3⟩ := h1 rfl
      replace h3 : Hid (od = (n2, 0)) := h3
      clear h1 h2
      go_wp2
      refine bodyPost_ret (v := .tuple #[.int .i64 (n2 : Int), .int .i64 0]) (by simp [results, Tryz.results9, go_sem]) rfl ?_
      rw [HOD.out, h3.out]
      exact ⟨rfl, HBB.out⟩
    | false =>
      have h3 : Hid (od = (0, 141)) := h2 rfl
      clear h1 h2
      go_wp2
      refine bodyPost_ret (v := .tuple #[.int .i64 0, .int .i64 141]) (by simp [results, Tryz.results9, go_sem]) rfl ?_
      rw [HOD.out, h3.out]
      exact ⟨rfl, HBB.out⟩
end Go.Proofs.YtgdflaapgfpdeaaGreatDoor

namespace Go.Proofs.YtgdflaapgfpdeaaGreatDoor
open Go.RowKit

set_option maxHeartbeats 4000000 in
set_option maxRecDepth 10000 in
theorem nod_step (d : Nat) (IH : ∀ (x : Value) (t : Tn d) (w : World) (B : Nat), B ≤ w.heap.size → TyAt w B d x t → (flat d t).length ≤ 4194304 →
    Calls Tryz.prog 36 #[x] w fun r w' => r = .returned (.int .i64 (flat d t).length) ∧ Below w.heap.size w w') : ∀ (x : Value) (t : Tn (d + 1)) (w : World) (B : Nat), B ≤ w.heap.size → TyAt w B (d + 1) x t → (flat (d + 1) t).length ≤ 4194304 →
    Calls Tryz.prog 36 #[x] w fun r w' => r = .returned (.int .i64 (flat (d + 1) t).length) ∧ Below w.heap.size w w'
  | x, ((k, n), ts), w, B, hB, ⟨v, hx, h1, h2, h⟩, hN => by
    simp only at hx h1 h2 h
    subst hx
    obtain ⟨ad, cap, rfl, hrow⟩ := h.cells
    rw [flat_succ, List.length_cons] at hN ⊢
    generalize hR : (flats d ts).length + 1 = R at hN ⊢
    have HR : Hid (1 + (flats d ts).length = R) := by show _ = R; omega
    obtain ⟨W, hW, hbW, hsW, b0, b1, b2⟩ := cells_box w (.int .i64 k) (.string ⟨n.toArray⟩) (.slice ad ts.length cap) 24
    have HW : Hid (Below w.heap.size w W) := hbW
    have HS : Hid (W.heap.size = w.heap.size + 1) := hsW
    have HB : Hid (B ≤ w.heap.size) := hB
    have HC : Hid (ts ≠ [] → ∃ g o, ad = some ⟨g, o, none⟩ ∧ ts.length ≤ cap ∧ g < B ∧
      ∀ j (h : j < ts.length), ∃ k n ad' len' cap', (∀ w', Below B w w' → w'.cell? ⟨g, o + j * 3, none⟩ = some (.int .i64 k) ∧ w'.cell? ⟨g, o + j * 3 + 1, none⟩ = some (.string n) ∧ w'.cell? ⟨g, o + j * 3 + 2, none⟩ = some (.slice ad' len' cap')) ∧ TyAt w B d (.agg #[.int .i64 k, .string n, .slice ad' len' cap']) ts[j]) := hrow
    clear hrow h hB h1 hR
    go_enter Tryz.func36, Tryz.ntmps36
    go_wp2
    rw [← hW]
    generalize hz : w.heap.size = z at b0 b1 b2 ⊢
    have HZ : Hid (w.heap.size = z) := hz
    clear hW hbW hsW hz
    go_loopw [3, 4] (fun b i wr => ∃ (j N : Nat), j ≤ ts.length ∧ i = .int .i64 j ∧ b = .int .i64 N ∧ Below (z + 1) W wr ∧ Hid (N + (flats d (ts.drop j)).length = R)) (fun _ i _ => ts.length - (intOf i).toNat)
    case atStart => exact ⟨0, 1, by omega, by go_num, by go_num, Below.refl _ _, HR.out⟩
    case round =>
      obtain ⟨j, N, hj, rfl, rfl, hbel, HJ⟩ := hrel
      have x2 := (hbel.cell (p := ⟨z, 2, none⟩) (by simp)).trans b2
      by_cases hlt : j < ts.length
      · obtain ⟨g, o, rfl, hcap, hg, hel⟩ := HC.out (by intro h; rw [h] at hlt; simp at hlt)
        obtain ⟨k1, n1, ad1, l1, cp1, hcel, T1⟩ := hel j hlt
        have hzB : B ≤ z := by have := HB.out; have := HZ.out; omega
        have hwz : Below z w wr := by
          have := HW.out
          rw [HZ.out] at this
          exact this.trans (hbel.mono (by omega))
        obtain ⟨p0, p1, p2⟩ := hcel wr (hwz.mono hzB)
        have hzr : z + 1 ≤ wr.heap.size := by have := hbel.size; have := HS.out; have := HZ.out; omega
        have HN2 : Hid (N + (flat d ts[j]).length + (flats d (ts.drop (j + 1))).length = R) := by
          show _ = R
          rw [← HJ.out, List.drop_eq_getElem_cons hlt, flats_cons, List.length_append]
          omega
        have hsm : N + (flat d ts[j]).length ≤ 4194304 := by have := HN2.out; omega
        have CJ := IH _ _ wr B (by omega) (T1.on (hwz.mono hzB)) (by omega)
        generalize (flat d ts[j]).length = m at CJ HN2 hsm
        have i1 : (0 : Int) ≤ (j : Int) := by omega
        have i2 : (j : Int) < (ts.length : Int) := by omega
        have hjl : j + 1 ≤ ts.length := hlt
        clear T1 IH b0 b1 b2 hcel hel HJ hN
        go_wp2_with (go_at_call 36; (with_reducible refine Calls.mono CJ ?_); rintro e' w1 ⟨rfl, hb1⟩)
        have hb2 : Below (z + 1) W w1 := hbel.trans (hb1.mono hzr)
        go_roundw
        case rel => exact ⟨j + 1, N + m, hjl, by go_num, by go_num, hb2, HN2⟩
        case measure => simp [intOf]; omega
      · have HF : Hid (R = N) := by
          show R = N
          have := HJ.out
          rw [List.drop_eq_nil_of_le (by omega)] at this
          simpa [flats] using this.symm
        clear IH
        go_wp2
        go_ret
        exact ⟨by rw [HF.out]; rfl, by have h := HW.out; rw [HZ.out] at h ⊢; exact h.trans (hbel.mono (by omega))⟩
theorem nod_any : ∀ (d : Nat) (x : Value) (t : Tn d) (w : World) (B : Nat), B ≤ w.heap.size → TyAt w B d x t → (flat d t).length ≤ 4194304 →
    Calls Tryz.prog 36 #[x] w fun r w' => r = .returned (.int .i64 (flat d t).length) ∧ Below w.heap.size w w'
  | 0, _, _, _, _, _, h, _ => h.elim
  | d + 1, x, t, w, B, hB, h, hN => nod_step d (nod_any d) x t w B hB h hN
set_option maxHeartbeats 4000000 in
set_option maxRecDepth 10000 in
theorem great40_any (d : Nat) (x : Value) (t : Tn (d + 1)) (w : World) (hx : TyAt w w.heap.size (d + 1) x t) (hN : (flat (d + 1) t).length ≤ 4194304) :
    Calls Tryz.prog 15 #[x] w fun r w' => r = .returned (.bool (decide (40 < (flat (d + 1) t).length))) ∧ Hid (Below w.heap.size w w') := by
  have HX : Hid (TyAt w w.heap.size (d + 1) x t) := hx
  obtain ⟨u, rfl, hn1, hn2, hrow⟩ := hx
  obtain ⟨ad, cap, rfl⟩ := hrow.len
  obtain ⟨X, hX⟩ : ∃ X, X = w.heap.size := ⟨_, rfl⟩
  obtain ⟨W, hW⟩ : ∃ W, W = w.alloc (.cells #[.int .i64 t.1.1, .string ⟨t.1.2.toArray⟩, .slice ad t.2.length cap] 24) := ⟨_, rfl⟩
  have hBW : Below w.heap.size w W := by rw [hW]; exact (Below.refl _ _).alloc (Nat.le_refl _) _
  have hXW : W.heap[X]? = some (.cells #[.int .i64 t.1.1, .string ⟨t.1.2.toArray⟩, .slice ad t.2.length cap] 24 (0, 0)) := by rw [hW, hX]; exact new_blk _ _
  have CO := nod_any (d + 1) (.agg #[.int .i64 t.1.1, .string ⟨t.1.2.toArray⟩, .slice ad t.2.length cap]) t W W.heap.size (Nat.le_refl _) (TyAt.below hBW hBW.size _ _ _ HX.out) hN
  have c0 : W.cell? ⟨X, 0, none⟩ = some (.int .i64 t.1.1) := heap_cl hXW rfl
  have c1 : W.cell? ⟨X, 1, none⟩ = some (.string ⟨t.1.2.toArray⟩) := heap_cl hXW rfl
  have c2 : W.cell? ⟨X, 2, none⟩ = some (.slice ad t.2.length cap) := heap_cl hXW rfl
  have HXE : Hid (X = w.heap.size) := hX
  have HBW : Hid (Below w.heap.size w W) := hBW
  clear hn1 hn2 hrow hX hBW hXW hN HX
  generalize (flat (d + 1) t).length = fl at *
  generalize t.1.1 = k at *
  generalize t.1.2 = n at *
  generalize t.2.length = m at *
  clear t
  go_enter Tryz.func15, Tryz.ntmps15
  go_upto_region 1 with fail
  rw [← hW, ← HXE.out]
  clear hW
  go_wp2_with (first | (go_at_call 36; (with_reducible refine Calls.mono CO ?_); rintro e' w2 ⟨rfl, HB2⟩))
  have HBB : Hid (Below w.heap.size w w2) := HBW.out.trans (HB2.mono HBW.out.size)
  have e : decide ((fl : Int) > 40) = decide (40 < fl) := decide_eq_decide.2 (by omega)
  refine bodyPost_ret (v := .bool (decide ((fl : Int) > 40))) (by simp [results, Tryz.results15, go_sem]) rfl ?_
  exact ⟨by rw [e], HBB.out⟩
end Go.Proofs.YtgdflaapgfpdeaaGreatDoor

namespace Go.Proofs.YtgdflaapgfpdeaaGreatDoor
open Go.RowKit

theorem res_ok {fa ta : List Nat} {f : Nat} (hf : f < (resP fa ta).length) : ((resP fa ta).getD f []).length = fa.length ∧ (∀ x, x < fa.length → ((resP fa ta).getD f []).getD x 0 < ta.length) ∧ ∀ x y, x < y → y < fa.length → Le fa x y → Le ta (((resP fa ta).getD f []).getD x 0) (((resP fa ta).getD f []).getD y 0) := (res_mem fa ta _).1 (res_in hf)
theorem res_mono {fa ta : List Nat} (hla : Lat fa) (hlb : Lat ta) {f : Nat} (hf : f < (resP fa ta).length) {x y : Nat} (h : Le fa x y) (hy : y < fa.length) : Le ta (((resP fa ta).getD f []).getD x 0) (((resP fa ta).getD f []).getD y 0) := by
  obtain ⟨_, h2, h3⟩ := res_ok hf
  rcases Nat.eq_or_lt_of_le (hla.rise _ _ h) with e | e
  · rw [e]
    exact hlb.refl _ (h2 y hy)
  · exact h3 x y e hy h
/-- The join of two functions, point by point. -/
theorem join_point {fa ta : List Nat} (hlb : Lat ta) (hfew : (resP fa ta).length ≤ 40) {f g : Nat} (hf : f < (resP fa ta).length) (hg : g < (resP fa ta).length) : joinP (fnsP ta (resP fa ta)) f g < (resP fa ta).length ∧ ∀ x, x < fa.length → ((resP fa ta).getD (joinP (fnsP ta (resP fa ta)) f g) []).getD x 0 = joinP ta (((resP fa ta).getD f []).getD x 0) (((resP fa ta).getD g []).getD x 0) := by
  have hl := fns_lat hlb hfew
  have hf' : f < (fnsP ta (resP fa ta)).length := by rw [fns_len]; exact hf
  have hg' : g < (fnsP ta (resP fa ta)).length := by rw [fns_len]; exact hg
  have hj := join_lt hl hf' hg'
  obtain ⟨_, _, j1, j2, j3⟩ := join_lat hl hf' hg'
  rw [fns_len] at hj
  generalize joinP (fnsP ta (resP fa ta)) f g = j at *
  obtain ⟨f1, f2, f3⟩ := res_ok hf
  obtain ⟨g1, g2, g3⟩ := res_ok hg
  obtain ⟨q1, q2, q3⟩ := res_ok hj
  have k1 := (fns_le hlb).1 j1
  have k2 := (fns_le hlb).1 j2
  refine ⟨hj, fun x hx => ?_⟩
  let r := (List.range fa.length).map fun x => joinP ta (((resP fa ta).getD f []).getD x 0) (((resP fa ta).getD g []).getD x 0)
  have hr : ∀ y, y < fa.length → r.getD y 0 = joinP ta (((resP fa ta).getD f []).getD y 0) (((resP fa ta).getD g []).getD y 0) := fun y hy => by simp [r, hy]
  have hrm : r ∈ resP fa ta := by
    refine (res_mem fa ta r).2 ⟨by simp [r], fun y hy => ?_, fun y z hyz hz h => ?_⟩
    · rw [hr y hy]
      exact join_lt hlb (f2 y hy) (g2 y hy)
    · have hy : y < fa.length := by omega
      rw [hr y hy, hr z hz]
      obtain ⟨_, _, a1, a2, _⟩ := join_lat hlb (f2 z hz) (g2 z hz)
      obtain ⟨_, _, _, _, b3⟩ := join_lat hlb (f2 y hy) (g2 y hy)
      exact b3 _ (hlb.trans _ _ _ (f3 y z hyz hz h) a1) (hlb.trans _ _ _ (g3 y z hyz hz h) a2)
  obtain ⟨k, hk, hkr⟩ := res_idx hrm
  have l1 : Le (fnsP ta (resP fa ta)) f k := (fns_le hlb).2 ⟨hf, hk, fun y hy => by
    rw [hkr, hr y hy]
    exact (join_lat hlb (f2 y hy) (g2 y hy)).2.2.1⟩
  have l2 : Le (fnsP ta (resP fa ta)) g k := (fns_le hlb).2 ⟨hg, hk, fun y hy => by
    rw [hkr, hr y hy]
    exact (join_lat hlb (f2 y hy) (g2 y hy)).2.2.2.1⟩
  have l3 := (fns_le hlb).1 (j3 k l1 l2)
  have h1 := l3.2.2 x hx
  rw [hkr, hr x hx] at h1
  exact hlb.anti h1 ((join_lat hlb (f2 x hx) (g2 x hx)).2.2.2.2 _ (k1.2.2 x hx) (k2.2.2 x hx))
theorem edge_mem (fa ta r : List Nat) (v : Nat) : ∀ k, ∀ y ∈ edgeP fa ta r v k, (ta.getD v 0).testBit (r.getD y 0) = true
  | 0, y, h => by simp [edgeP] at h
  | k + 1, y, h => by
    unfold edgeP at h
    split at h
    · next hc =>
      rcases List.mem_append.1 h with h | h
      · exact edge_mem fa ta r v k y h
      · rw [List.mem_singleton.1 h]
        simp only [Bool.and_eq_true] at hc
        exact hc.1
    · exact edge_mem fa ta r v k y h
theorem edge_sub (fa ta r : List Nat) (v : Nat) (k : Nat) : ∀ n, k ≤ n → ∀ y ∈ edgeP fa ta r v k, y ∈ edgeP fa ta r v n
  | 0, hn, y, h => by
    obtain rfl : k = 0 := by omega
    exact h
  | n + 1, hn, y, h => by
    rcases Nat.eq_or_lt_of_le hn with e | e
    · rw [← e]; exact h
    · have := edge_sub fa ta r v k n (by omega) y h
      unfold edgeP
      split
      · exact List.mem_append_left _ this
      · exact this
/-- What the least arguments say: where v is reached. -/
theorem edge_met {fa ta : List Nat} (hla : Lat fa) (hlb : Lat ta) {f v : Nat} (hf : f < (resP fa ta).length) {x : Nat} (hx : x < fa.length) : (edgeP fa ta ((resP fa ta).getD f []) v fa.length).any (fun y => (fa.getD y 0).testBit x) = (ta.getD v 0).testBit (((resP fa ta).getD f []).getD x 0) := by
  rw [Bool.eq_iff_iff, List.any_eq_true]
  constructor
  · rintro ⟨y, h1, h2⟩
    have h3 : Le ta v (((resP fa ta).getD f []).getD y 0) := edge_mem _ _ _ _ _ y h1
    exact hlb.trans _ _ _ h3 (res_mono hla hlb hf h2 hx)
  · intro h
    by_cases he : (edgeP fa ta ((resP fa ta).getD f []) v x).any (fun y => (fa.getD y 0).testBit x) = true
    · obtain ⟨y, h1, h2⟩ := List.any_eq_true.1 he
      exact ⟨y, edge_sub _ _ _ _ x fa.length (by omega) y h1, h2⟩
    · refine ⟨x, edge_sub _ _ _ _ (x + 1) fa.length hx x ?_, hla.refl x hx⟩
      have e : edgeP fa ta ((resP fa ta).getD f []) v (x + 1) = edgeP fa ta ((resP fa ta).getD f []) v x ++ [x] := by
        rw [edgeP, if_pos]
        rw [h, Bool.eq_false_iff.2 he]
        rfl
      rw [e]
      simp
theorem under_point {fa ta : List Nat} (hlb : Lat ta) {f g : Nat} (hf : f < (resP fa ta).length) (hg : g < (resP fa ta).length) : ((fnsP ta (resP fa ta)).getD f 0).testBit g = true ↔ ∀ x, x < fa.length → (ta.getD (((resP fa ta).getD f []).getD x 0) 0).testBit (((resP fa ta).getD g []).getD x 0) = true := by
  have h := fns_le (fa := fa) hlb (f := f) (g := g)
  exact ⟨fun q => (h.1 q).2.2, fun q => h.2 ⟨hf, hg, q⟩⟩
theorem form_parts {d : Nat} {t : Tn (d + 1)} (h : formB (d + 1) t = true) : ∀ c ∈ t.2, formB d c = true := by
  unfold formB at h
  simp only [Bool.and_eq_true, List.all_eq_true] at h
  exact h.2
/-- The parts of a function type that has an order. -/
theorem part_order {d : Nat} {t : Tn (d + 1)} {D : OrdD} (h : funD d t = some D) : ∃ (a b : Tn d) (A C : OrdD), t.2 = [a, b] ∧ t.1.1 = 3 ∧ orderD d a = some A ∧ orderD d b = some C ∧ D = (fnsP C.1 (resP A.1 C.1), some (A.1, C.1)) ∧ Lat A.1 ∧ Lat C.1 ∧ (resP A.1 C.1).length ≤ 40 ∧ orderD (d + 1) t = some D ∧ (flat d a).length ≤ 500 ∧ (flat d b).length ≤ 500 := by
  obtain ⟨a, b, A, C, h1, h2, h3, h4, h5, h6, h7, h8⟩ := fun_parts h
  obtain ⟨⟨k, n⟩, ts⟩ := t
  have h1 : ts = [a, b] := h1
  have h2 : k = 3 := h2
  subst h1 h2
  have ho : orderD (d + 1) ((3, n), [a, b]) = some D := by
    unfold funD at h
    rw [if_pos rfl] at h
    exact h
  have hw : wrongT (d + 1) ((3, n), [a, b]) = 0 ∧ noVarB (flat (d + 1) ((3, n), [a, b])) = true := by
    unfold orderD at ho
    split at ho
    · next hw => exact hw
    · cases ho
  obtain ⟨hfm, hfl⟩ := wrong_form hw.1
  have hnv := noVarB_iff.1 hw.2
  have e : flat (d + 1) ((3, n), [a, b]) = (3, n, 2) :: (flat d a ++ flat d b) := by
    rw [flat_succ, flats_cons, flats_cons, flats_nil, List.append_nil]
    rfl
  rw [e] at hfl hnv
  rw [List.length_cons, List.length_append] at hfl
  have hfm2 : ∀ c ∈ [a, b], formB d c = true := form_parts hfm
  have part : ∀ (c : Tn d) (E : OrdD), c ∈ [a, b] → (flat d c).length ≤ 499 → NoVar (flat d c) → ordD d c = some E → orderD d c = some E := fun c E hc hl hv he => by
    unfold orderD
    rw [if_pos ⟨by
      unfold wrongT
      rw [if_pos (hfm2 c hc), if_neg (by omega)], noVarB_iff.2 hv⟩]
    exact he
  exact ⟨a, b, A, C, rfl, rfl, part a A (by simp) (by omega) (fun y hy => hnv y (by simp [hy])) h3, part b C (by simp) (by omega) (fun y hy => hnv y (by simp [hy])) h4, h5, h6, h7, h8, ho, by omega, by omega⟩
end Go.Proofs.YtgdflaapgfpdeaaGreatDoor

namespace Go.Proofs.YtgdflaapgfpdeaaGreatDoor
open Go.RowKit

/-- What the law asks of a function type's order, as contracts. -/
structure Calls6 (fa ta : List Nat) (x u a : Value) (w : World) : Prop where
  below : ∀ f g : Nat, f < (resP fa ta).length → g < (resP fa ta).length → Calls Tryz.prog 21 #[x, .int .i64 (f : Int), .int .i64 (g : Int)] w fun r w' => r = .returned (.tuple #[.bool (((fnsP ta (resP fa ta)).getD f 0).testBit g), .int .i64 0]) ∧ Hid (Below w.heap.size w w')
  join : ∀ f g : Nat, f < (resP fa ta).length → g < (resP fa ta).length → Calls Tryz.prog 23 #[x, .int .i64 (f : Int), .int .i64 (g : Int)] w fun r w' => r = .returned (.tuple #[.int .i64 (joinP (fnsP ta (resP fa ta)) f g : Int), .int .i64 0]) ∧ Hid (Below w.heap.size w w')
  edge : ∀ f v : Nat, f < (resP fa ta).length → v < ta.length → Calls Tryz.prog 31 #[x, .int .i64 (f : Int), .int .i64 (v : Int)] w fun r w' => EdPost (edgeP fa ta ((resP fa ta).getD f []) v fa.length, 0) w r w'
  apply : ∀ f y : Nat, f < (resP fa ta).length → y < fa.length → Calls Tryz.prog 14 #[x, .int .i64 (f : Int), .int .i64 (y : Int)] w fun r w' => r = .returned (.tuple #[.int .i64 (((resP fa ta).getD f []).getD y 0 : Int), .int .i64 0]) ∧ Hid (Below w.heap.size w w')
  of : ∀ (f : Nat) (tv : Value), f < (resP fa ta).length → Zts w tv (ofN ((resP fa ta).getD f [])) → Calls Tryz.prog 9 #[x, tv] w fun r w' => r = .returned (.tuple #[.int .i64 (f : Int), .int .i64 0]) ∧ Hid (Below w.heap.size w w')
  joinU : ∀ p q : Nat, p < ta.length → q < ta.length → Calls Tryz.prog 23 #[u, .int .i64 (p : Int), .int .i64 (q : Int)] w fun r w' => r = .returned (.tuple #[.int .i64 (joinP ta p q : Int), .int .i64 0]) ∧ Hid (Below w.heap.size w w')
  belowU : ∀ p q : Nat, p < ta.length → q < ta.length → Calls Tryz.prog 21 #[u, .int .i64 (p : Int), .int .i64 (q : Int)] w fun r w' => r = .returned (.tuple #[.bool ((ta.getD p 0).testBit q), .int .i64 0]) ∧ Hid (Below w.heap.size w w')
  belowA : ∀ p q : Nat, p < fa.length → q < fa.length → Calls Tryz.prog 21 #[a, .int .i64 (p : Int), .int .i64 (q : Int)] w fun r w' => r = .returned (.tuple #[.bool ((fa.getD p 0).testBit q), .int .i64 0]) ∧ Hid (Below w.heap.size w w')
theorem below_some {d : Nat} {x : Value} {t : Tn (d + 1)} {w : World} {D : OrdD} (hx : TyAt w w.heap.size (d + 1) x t) (hN : (flat (d + 1) t).length ≤ 4194304) (hD : orderD (d + 1) t = some D) (a b : Nat) (ha : a < D.1.length) (hb : b < D.1.length) : Calls Tryz.prog 21 #[x, .int .i64 (a : Int), .int .i64 (b : Int)] w fun r w' => r = .returned (.tuple #[.bool ((D.1.getD a 0).testBit b), .int .i64 0]) ∧ Hid (Below w.heap.size w w') := by
  have := below_all d x t w hx hN a b
  rw [hD, show belowD (some D) (a : Int) (b : Int) = ((D.1.getD a 0).testBit b, 0) by
    show (if _ then _ else _) = _
    rw [if_pos ⟨by omega, by omega, by omega, by omega⟩]
    rfl] at this
  exact this
theorem join_some {d : Nat} {x : Value} {t : Tn (d + 1)} {w : World} {D : OrdD} (hx : TyAt w w.heap.size (d + 1) x t) (hN : (flat (d + 1) t).length ≤ 4194304) (hT : ∀ w', Below w.heap.size w w' → TabAt 0 Lib.deBruijn64tab w') (hD : orderD (d + 1) t = some D) (a b : Nat) (ha : a < D.1.length) (hb : b < D.1.length) : Calls Tryz.prog 23 #[x, .int .i64 (a : Int), .int .i64 (b : Int)] w fun r w' => r = .returned (.tuple #[.int .i64 (joinP D.1 a b : Int), .int .i64 0]) ∧ Hid (Below w.heap.size w w') := by
  have := join_all d x t w hx hN hT a b
  rw [hD, show joinD (some D) (a : Int) (b : Int) = (joinP D.1 a b, 0) by
    show (if _ then _ else _) = _
    rw [if_pos ⟨by omega, by omega, by omega, by omega⟩]
    rfl] at this
  exact this
/-- The contracts at a function type that has an order. -/
theorem calls6 {d : Nat} {x u a : Value} {t : Tn (d + 2)} {ta ua : Tn (d + 1)} {A C : OrdD} {w : World} (hx : TyAt w w.heap.size (d + 2) x t) (ha : TyAt w w.heap.size (d + 1) a ta) (hu : TyAt w w.heap.size (d + 1) u ua) (hN : (flat (d + 2) t).length ≤ 4194304) (hNa : (flat (d + 1) ta).length ≤ 500) (hNu : (flat (d + 1) ua).length ≤ 500) (hT : ∀ w', Below w.heap.size w w' → TabAt 0 Lib.deBruijn64tab w') (hf : funD (d + 1) t = some (fnsP C.1 (resP A.1 C.1), some (A.1, C.1))) (ho : orderD (d + 2) t = some (fnsP C.1 (resP A.1 C.1), some (A.1, C.1))) (hA : orderD (d + 1) ta = some A) (hC : orderD (d + 1) ua = some C) : Calls6 A.1 C.1 x u a w := by
  have hl : (fnsP C.1 (resP A.1 C.1), some (A.1, C.1)).1.length = (resP A.1 C.1).length := fns_len _ _
  refine ⟨fun f g h1 h2 => below_some hx hN ho f g (by rw [hl]; exact h1) (by rw [hl]; exact h2), fun f g h1 h2 => join_some hx hN hT ho f g (by rw [hl]; exact h1) (by rw [hl]; exact h2), fun f v h1 h2 => ?_, fun f y h1 h2 => ?_, fun f tv h1 h2 => ?_, fun p q h1 h2 => join_some hu (by omega) hT hC p q h1 h2, fun p q h1 h2 => below_some hu (by omega) hC p q h1 h2, fun p q h1 h2 => below_some ha (by omega) hA p q h1 h2⟩
  · have := edge_all (d + 1) x t w hx hN f v
    rw [hf, show edgeD (some (fnsP C.1 (resP A.1 C.1), some (A.1, C.1))) (f : Int) (v : Int) = (edgeP A.1 C.1 ((resP A.1 C.1).getD f []) v A.1.length, 0) by
      show (if _ then _ else _) = _
      rw [if_pos ⟨by omega, by (show (f : Int) < ((fnsP C.1 (resP A.1 C.1)).length : Int)); rw [fns_len]; omega, by omega, by (show (v : Int) < (C.1.length : Int)); omega⟩]
      rfl] at this
    exact this
  · have := apply_all (d + 1) x t w hx hN f y
    rw [hf, show applyD (some (fnsP C.1 (resP A.1 C.1), some (A.1, C.1))) (f : Int) (y : Int) = (((resP A.1 C.1).getD f []).getD y 0, 0) by
      show (if _ then _ else _) = _
      rw [if_pos ⟨by omega, by (show (f : Int) < ((fnsP C.1 (resP A.1 C.1)).length : Int)); rw [fns_len]; omega, by omega, by (show (y : Int) < (A.1.length : Int)); omega⟩]
      rfl] at this
    exact this
  · have := of_all (d + 1) x t w hx hN h2
    rw [hf, of_found h1 rfl] at this
    exact this
set_option maxHeartbeats 16000000 in
set_option maxRecDepth 10000 in
theorem all_any {d : Nat} {n : List UInt8} {ta ua : Tn (d + 1)} {A C : OrdD} {x : Value} (w : World) (hx : TyAt w w.heap.size (d + 2) x ((3, n), [ta, ua])) (hN : (flat (d + 2) ((3, n), [ta, ua])).length ≤ 4194304) (hNa : (flat (d + 1) ta).length ≤ 500) (hNu : (flat (d + 1) ua).length ≤ 500) (hT : ∀ w', Below w.heap.size w w' → TabAt 0 Lib.deBruijn64tab w') (hfd : funD (d + 1) ((3, n), [ta, ua]) = some (fnsP C.1 (resP A.1 C.1), some (A.1, C.1))) (hod : orderD (d + 2) ((3, n), [ta, ua]) = some (fnsP C.1 (resP A.1 C.1), some (A.1, C.1))) (hA : orderD (d + 1) ta = some A) (hC : orderD (d + 1) ua = some C) (hla : Lat A.1) (hlb : Lat C.1) (hfew : (resP A.1 C.1).length ≤ 40) (f h v : Nat) (hf : f < (resP A.1 C.1).length) (hh : h < (resP A.1 C.1).length) (hv : v < C.1.length) :
    Calls Tryz.prog 16 #[x, .int .i64 (f : Int), .int .i64 (h : Int), .int .i64 (v : Int), .int .i64 (A.1.length : Int)] w fun e w' => e = .returned (.bool true) ∧ Hid (Below w.heap.size w w') := by
  have HX : Hid (TyAt w w.heap.size (d + 2) x ((3, n), [ta, ua])) := hx
  obtain ⟨u, rfl, hn1, hn2, hrow⟩ := hx
  obtain ⟨ad, cap, rfl, hc⟩ := RowP.cells hrow
  obtain ⟨g, o, rfl, hcap, hgB, hel⟩ := hc (by simp)
  obtain ⟨k0, n0, ad0, len0, cap0, hc0, ht0⟩ := hel 0 (by simp)
  obtain ⟨k1, n1, ad1, len1, cap1, hc1, ht1⟩ := hel 1 (by simp)
  replace ht0 : TyAt w w.heap.size (d + 1) (.agg #[.int .i64 k0, .string n0, .slice ad0 len0 cap0]) ta := ht0
  replace ht1 : TyAt w w.heap.size (d + 1) (.agg #[.int .i64 k1, .string n1, .slice ad1 len1 cap1]) ua := ht1
  replace hcap : 2 ≤ cap := hcap
  obtain ⟨X, hX⟩ : ∃ X, X = w.heap.size := ⟨_, rfl⟩
  obtain ⟨W, hW⟩ : ∃ W, W = w.alloc (.cells #[.int .i64 3, .string ⟨n.toArray⟩, .slice (some ⟨g, o, none⟩) 2 cap] 24) := ⟨_, rfl⟩
  have hBW : Below w.heap.size w W := by rw [hW]; exact (Below.refl _ _).alloc (Nat.le_refl _) _
  have hXW : W.heap[X]? = some (.cells #[.int .i64 3, .string ⟨n.toArray⟩, .slice (some ⟨g, o, none⟩) 2 cap] 24 (0, 0)) := by rw [hW, hX]; exact new_blk _ _
  obtain ⟨fa, hfa⟩ : ∃ fa, fa = A.1 := ⟨_, rfl⟩
  obtain ⟨tb, htb⟩ : ∃ tb, tb = C.1 := ⟨_, rfl⟩
  have HALL : Hid (∀ w2 : World, Below W.heap.size W w2 → Calls6 fa tb (.agg #[.int .i64 3, .string ⟨n.toArray⟩, .slice (some ⟨g, o, none⟩) 2 cap]) (.agg #[.int .i64 k1, .string n1, .slice ad1 len1 cap1]) (.agg #[.int .i64 k0, .string n0, .slice ad0 len0 cap0]) w2 ∧ (w2.cell? ⟨X, 0, none⟩ = some (.int .i64 3) ∧ w2.cell? ⟨X, 1, none⟩ = some (.string ⟨n.toArray⟩) ∧ w2.cell? ⟨X, 2, none⟩ = some (.slice (some ⟨g, o, none⟩) 2 cap)) ∧ (w2.cell? ⟨g, o, none⟩ = some (.int .i64 k0) ∧ w2.cell? ⟨g, o + 1, none⟩ = some (.string n0) ∧ w2.cell? ⟨g, o + 2, none⟩ = some (.slice ad0 len0 cap0)) ∧ w2.cell? ⟨g, o + 3, none⟩ = some (.int .i64 k1) ∧ w2.cell? ⟨g, o + 4, none⟩ = some (.string n1) ∧ w2.cell? ⟨g, o + 5, none⟩ = some (.slice ad1 len1 cap1)) := fun w2 h2 => by
    have h3 : Below w.heap.size w w2 := hBW.trans (h2.mono hBW.size)
    have h4 := (h2.block X (lt_heap hXW)).trans hXW
    obtain ⟨e0, e1, e2⟩ := hc0 w2 h3
    obtain ⟨e3, e4, e5⟩ := hc1 w2 h3
    rw [show o + 0 * 3 = o by omega] at e0 e1 e2
    refine ⟨?_, ⟨heap_cl h4 rfl, heap_cl h4 rfl, heap_cl h4 rfl⟩, ⟨e0, e1, e2⟩, by simpa using e3, by simpa using e4, by simpa using e5⟩
    rw [hfa, htb]
    exact calls6 (TyAt.below h3 h3.size _ _ _ HX.out) (TyAt.below h3 h3.size _ _ _ ht0) (TyAt.below h3 h3.size _ _ _ ht1) hN hNa hNu (fun w' h' => hT w' (h3.trans (h'.mono h3.size))) hfd hod hA hC
  have HBW : Hid (∀ w2 : World, Below W.heap.size W w2 → Below w.heap.size w w2) := fun w2 h2 => hBW.trans (h2.mono hBW.size)
  have HXE : Hid (X = w.heap.size) := hX
  rw [← hfa] at hla hf hh ⊢
  rw [← htb] at hlb hf hh hv
  rw [← hfa, ← htb] at hfew
  clear hel hc hc0 hc1 ht0 ht1 hrow hn1 hn2 HX hN hNa hNu hT hfd hod hA hC hX hXW hBW hgB hfa htb
  -- what is known of the functions
  obtain ⟨rf, hrf⟩ : ∃ rf, rf = (resP fa tb).getD f [] := ⟨_, rfl⟩
  obtain ⟨rg, hrg⟩ : ∃ rg, rg = (resP fa tb).getD h [] := ⟨_, rfl⟩
  obtain ⟨j, hj⟩ : ∃ j, j = joinP (fnsP tb (resP fa tb)) f h := ⟨_, rfl⟩
  obtain ⟨el, hel⟩ : ∃ el, el = edgeP fa tb rf v fa.length := ⟨_, rfl⟩
  obtain ⟨fg, hfg⟩ : ∃ fg, fg = ((fnsP tb (resP fa tb)).getD f 0).testBit h := ⟨_, rfl⟩
  obtain ⟨hj1, hj2⟩ := join_point hlb hfew hf hh
  obtain ⟨f1, f2, f3⟩ := res_ok hf
  obtain ⟨g1, g2, g3⟩ := res_ok hh
  rw [← hj] at hj1 hj2
  rw [← hrf] at hj2 f1 f2
  rw [← hrg] at hj2 g1 g2
  have HFL : Hid (rf.length = fa.length) := f1
  have HF2 : Hid (∀ y, y < fa.length → rf.getD y 0 < tb.length ∧ rg.getD y 0 < tb.length) := fun y hy => ⟨f2 y hy, g2 y hy⟩
  have HJ2 : Hid (∀ y, y < fa.length → ((resP fa tb).getD j []).getD y 0 = joinP tb (rf.getD y 0) (rg.getD y 0)) := hj2
  have HMET : Hid (∀ y, y < fa.length → el.any (fun z => (fa.getD z 0).testBit y) = (tb.getD v 0).testBit (rf.getD y 0)) := fun y hy => by
    rw [hel, hrf]
    exact edge_met hla hlb hf hy
  have HUND : Hid (fg = true ↔ ∀ y, y < fa.length → (tb.getD (rf.getD y 0) 0).testBit (rg.getD y 0) = true) := by
    show _ ↔ _
    rw [hfg, hrf, hrg]
    exact under_point hlb hf hh
  have HEL : Hid (el.length ≤ 40 ∧ ∀ z ∈ el, z < fa.length) := by
    have hl := hla.few
    rw [hel]
    exact ⟨Nat.le_trans (edge_len _ _ _ _ _) hl, edge_lt _ _ _ _ _⟩
  have hfl40 : fa.length ≤ 40 := hla.few
  have HNUM : Hid (f < (resP fa tb).length ∧ h < (resP fa tb).length ∧ v < tb.length ∧ j < (resP fa tb).length) := ⟨hf, hh, hv, hj1⟩
  have HE1 : Hid (fg = ((fnsP tb (resP fa tb)).getD f 0).testBit h) := hfg
  have HE2 : Hid (j = joinP (fnsP tb (resP fa tb)) f h) := hj
  have HE3 : Hid (el = edgeP fa tb ((resP fa tb).getD f []) v fa.length) := by
    show _ = _
    rw [hel, hrf]
  have HE4 : Hid (rf = (resP fa tb).getD f []) := hrf
  have HE5 : Hid (rg = (resP fa tb).getD h []) := hrg
  clear hfg hj hel hrf hrg hj1 hj2 f1 f2 f3 g1 g2 g3 hlb hla hfew hf hh hv
  have HBc : Hid (Below W.heap.size W W) := Below.refl _ _
  obtain ⟨K6, ⟨c0, c1, c2⟩, ⟨a0, a1, a2⟩, b0, b1, b2⟩ := HALL.out W HBc.out
  clear a0 a1 a2 b0 b1 b2
  go_enter Tryz.func16, Tryz.ntmps16
  go_upto_region 1 with fail
  rw [← hW, ← HXE.out]
  clear hW
  have CC : Calls Tryz.prog 21 #[.agg #[.int .i64 3, .string ⟨n.toArray⟩, .slice (some ⟨g, o, none⟩) 2 cap], .int .i64 (f : Int), .int .i64 (h : Int)] W fun r w' => r = .returned (.tuple #[.bool fg, .int .i64 0]) ∧ Hid (Below W.heap.size W w') := by
    have q := K6.below f h HNUM.out.1 HNUM.out.2.1
    rw [← HE1.out] at q
    exact q
  clear K6
  go_upto_region 2 with (first | (go_at_call 21; (with_reducible refine Calls.mono CC ?_); rintro e' w2 ⟨rfl, HBn⟩))
  replace HBc : Hid (Below W.heap.size W w2) := HBc.out.trans (HBn.out.mono HBc.out.size)
  clear CC HBn c0 c1 c2
  obtain ⟨K6, ⟨c0, c1, c2⟩, ⟨a0, a1, a2⟩, b0, b1, b2⟩ := HALL.out w2 HBc.out
  clear a0 a1 a2 b0 b1 b2
  have CC : Calls Tryz.prog 23 #[.agg #[.int .i64 3, .string ⟨n.toArray⟩, .slice (some ⟨g, o, none⟩) 2 cap], .int .i64 (f : Int), .int .i64 (h : Int)] w2 fun r w' => r = .returned (.tuple #[.int .i64 (j : Int), .int .i64 0]) ∧ Hid (Below w2.heap.size w2 w') := by
    have q := K6.join f h HNUM.out.1 HNUM.out.2.1
    rw [← HE2.out] at q
    exact q
  clear K6
  go_upto_region 3 with (first | (go_at_call 23; (with_reducible refine Calls.mono CC ?_); rintro e' w3 ⟨rfl, HBn⟩))
  replace HBc : Hid (Below W.heap.size W w3) := HBc.out.trans (HBn.out.mono HBc.out.size)
  clear CC HBn c0 c1 c2
  obtain ⟨K6, ⟨c0, c1, c2⟩, ⟨a0, a1, a2⟩, b0, b1, b2⟩ := HALL.out w3 HBc.out
  clear a0 a1 a2 b0 b1 b2
  have CC : Calls Tryz.prog 31 #[.agg #[.int .i64 3, .string ⟨n.toArray⟩, .slice (some ⟨g, o, none⟩) 2 cap], .int .i64 (f : Int), .int .i64 (v : Int)] w3 fun r w' => EdPost (el, 0) w3 r w' := by
    have q := K6.edge f v HNUM.out.1 HNUM.out.2.2.1
    rw [← HE3.out] at q
    exact q
  clear K6
  go_upto_region 4 with (first | (go_at_call 31; (with_reducible refine Calls.mono CC ?_); rintro e' w4 ⟨ade, cape, rfl, HBn, HOe⟩))
  have hw34 := HBn.out.size
  replace HBc : Hid (Below W.heap.size W w4) := HBc.out.trans (HBn.out.mono HBc.out.size)
  clear CC HBn c0 c1 c2
  obtain ⟨K6, ⟨c0, c1, c2⟩, -, b0, b1, b2⟩ := HALL.out w4 HBc.out
  clear K6
  go_upto_region 5 with fail
  obtain ⟨U, hU⟩ : ∃ U, U = w4.heap.size := ⟨_, rfl⟩
  obtain ⟨w5, hw5⟩ : ∃ w5, w5 = w4.alloc (.cells #[.int .i64 k1, .string n1, .slice ad1 len1 cap1] 24) := ⟨_, rfl⟩
  have hU5 : w5.heap[U]? = some (.cells #[.int .i64 k1, .string n1, .slice ad1 len1 cap1] 24 (0, 0)) := by rw [hw5, hU]; exact new_blk _ _
  have hB5 : Below w4.heap.size w4 w5 := by rw [hw5]; exact (Below.refl _ _).alloc (Nat.le_refl _) _
  rw [← hw5, ← hU]
  have HBc5 : Hid (Below W.heap.size W w5) := HBc.out.trans (hB5.mono HBc.out.size)
  have HED : Hid (∀ w2 : World, Below w5.heap.size w5 w2 → Below W.heap.size W w2 ∧ w2.cell? ⟨U, 0, none⟩ = some (.int .i64 k1) ∧ w2.cell? ⟨U, 1, none⟩ = some (.string n1) ∧ w2.cell? ⟨U, 2, none⟩ = some (.slice ad1 len1 cap1) ∧ ∀ i (hi : i < el.length), ∃ ge oe, ade = some ⟨ge, oe, none⟩ ∧ el.length ≤ cape ∧ ge < w5.heap.size ∧ w2.cell? ⟨ge, oe + i, none⟩ = some (.int .i64 (el[i] : Int))) := fun w2 h2 => by
    have h4 := (h2.block U (lt_heap hU5)).trans hU5
    refine ⟨HBc5.out.trans (h2.mono HBc5.out.size), heap_cl h4 rfl, heap_cl h4 rfl, heap_cl h4 rfl, fun i hi => ?_⟩
    obtain ⟨ge, oe, q1, q2, q3, q4⟩ := (RowE.toNts (OwnN.rowE HOe.out)).at hi
    have hge : ge < w5.heap.size := Nat.lt_of_lt_of_le q3.2 hB5.size
    exact ⟨ge, oe, q1, q2, hge, (h2.cell (p := ⟨ge, oe + i, none⟩) hge).trans ((hB5.cell (p := ⟨ge, oe + i, none⟩) q3.2).trans q4)⟩
  clear HBc HOe hw34 c0 c1 c2 b0 b1 b2 hU hw5 hU5 hB5
  go_upto_region 8 with fail
  go_loopw [18, 19, 20] (fun uv rv iv wr => ∃ (y : Nat) (ub : Bool), y ≤ fa.length ∧ iv = .int .i64 y ∧ uv = .bool ub ∧ Hid (ub = true ↔ ∀ z, z < y → (tb.getD (rf.getD z 0) 0).testBit (rg.getD z 0) = true) ∧ Hid (Below w5.heap.size w5 wr) ∧ ∃ ad cap, rv = .slice ad y cap ∧ Hid (OwnN ENat 3 w5.heap.size (fun _ => False) wr (.slice ad y cap) (rf.take y))) (fun _ _ iv _ => fa.length - (intOf iv).toNat)
  case atStart => exact ⟨0, true, by omega, by go_num, rfl, ⟨fun _ z hz => by omega, fun _ => rfl⟩, Below.refl _ _, none, 0, rfl, OwnN.nil _ _ _ _ _⟩
  case round =>
    obtain ⟨y, ub, hy, rfl, rfl, HU, HB, adr, capr, rfl, HO⟩ := hrel
    by_cases hyl : y < fa.length
    · have i1 : (0 : Int) ≤ (y : Int) := by omega
      have i2 : (y : Int) < (fa.length : Int) := by omega
      obtain ⟨p, hp⟩ : ∃ p, p = rf.getD y 0 := ⟨_, rfl⟩
      obtain ⟨q, hq⟩ : ∃ q, q = rg.getD y 0 := ⟨_, rfl⟩
      obtain ⟨jx, hjx⟩ : ∃ jx, jx = joinP tb p q := ⟨_, rfl⟩
      obtain ⟨bpq, hbpq⟩ : ∃ b, b = (tb.getD p 0).testBit q := ⟨_, rfl⟩
      obtain ⟨bre, hbre⟩ : ∃ b, b = (tb.getD v 0).testBit p := ⟨_, rfl⟩
      have HPQ : Hid (p < tb.length ∧ q < tb.length) := by rw [hp, hq]; exact HF2.out y hyl
      have G1 : Hid (p = rf.getD y 0) := hp
      have G2 : Hid (q = rg.getD y 0) := hq
      have G3 : Hid (jx = ((resP fa tb).getD j []).getD y 0) := by
        show _ = _
        rw [HJ2.out y hyl, ← hp, ← hq, hjx]
      have G4 : Hid (jx = joinP tb p q) := hjx
      have G5 : Hid (bpq = (tb.getD p 0).testBit q) := hbpq
      have G6 : Hid (bre = (tb.getD v 0).testBit p) := hbre
      have G7 : Hid (el.any (fun z => (fa.getD z 0).testBit y) = bre) := by
        show _ = _
        rw [HMET.out y hyl, hbre, hp]
      have GL : Hid (y < rf.length) := by
        show _ < _
        rw [HFL.out]
        exact hyl
      have GT : Hid (rf.take y ++ [p] = rf.take (y + 1)) := by
        show _ = _
        have hgl := GL.out
        rw [List.take_succ_eq_append_getElem hgl, hp]
        simp [hgl]
      clear hp hq hjx hbpq hbre
      obtain ⟨HBW5, u0, u1, u2, -⟩ := HED.out wr HB.out
      obtain ⟨K6, ⟨c0, c1, c2⟩, ⟨a0, a1, a2⟩, b0, b1, b2⟩ := HALL.out wr HBW5
      clear a0 a1 a2 b0 b1 b2 HBW5
      have CC : Calls Tryz.prog 14 #[.agg #[.int .i64 3, .string ⟨n.toArray⟩, .slice (some ⟨g, o, none⟩) 2 cap], .int .i64 (f : Int), .int .i64 (y : Int)] wr fun r w' => r = .returned (.tuple #[.int .i64 (p : Int), .int .i64 0]) ∧ Hid (Below wr.heap.size wr w') := by
        have s := K6.apply f y HNUM.out.1 hyl
        rw [← HE4.out, ← G1.out] at s
        exact s
      clear K6
      go_upto_region 11 with (first | (go_at_call 14; (with_reducible refine Calls.mono CC ?_); rintro e' w10 ⟨rfl, HBn⟩))
      replace HO : Hid (OwnN ENat 3 w5.heap.size (fun _ => False) w10 (.slice adr y capr) (rf.take y)) := HO.out.on (fun _ h => h.elim) HB.out.size HBn.out
      replace HB : Hid (Below w5.heap.size w5 w10) := HB.out.trans (HBn.out.mono HB.out.size)
      clear CC HBn c0 c1 c2 u0 u1 u2
      obtain ⟨HBW5, u0, u1, u2, -⟩ := HED.out w10 HB.out
      obtain ⟨K6, ⟨c0, c1, c2⟩, ⟨a0, a1, a2⟩, b0, b1, b2⟩ := HALL.out w10 HBW5
      clear a0 a1 a2 b0 b1 b2 HBW5
      have CC : Calls Tryz.prog 14 #[.agg #[.int .i64 3, .string ⟨n.toArray⟩, .slice (some ⟨g, o, none⟩) 2 cap], .int .i64 (h : Int), .int .i64 (y : Int)] w10 fun r w' => r = .returned (.tuple #[.int .i64 (q : Int), .int .i64 0]) ∧ Hid (Below w10.heap.size w10 w') := by
        have s := K6.apply h y HNUM.out.2.1 hyl
        rw [← HE5.out, ← G2.out] at s
        exact s
      clear K6
      go_upto_region 12 with (first | (go_at_call 14; (with_reducible refine Calls.mono CC ?_); rintro e' w11 ⟨rfl, HBn⟩))
      replace HO : Hid (OwnN ENat 3 w5.heap.size (fun _ => False) w11 (.slice adr y capr) (rf.take y)) := HO.out.on (fun _ h => h.elim) HB.out.size HBn.out
      replace HB : Hid (Below w5.heap.size w5 w11) := HB.out.trans (HBn.out.mono HB.out.size)
      clear CC HBn c0 c1 c2 u0 u1 u2
      obtain ⟨HBW5, u0, u1, u2, -⟩ := HED.out w11 HB.out
      obtain ⟨K6, ⟨c0, c1, c2⟩, ⟨a0, a1, a2⟩, b0, b1, b2⟩ := HALL.out w11 HBW5
      clear a0 a1 a2 b0 b1 b2 HBW5
      have CC : Calls Tryz.prog 14 #[.agg #[.int .i64 3, .string ⟨n.toArray⟩, .slice (some ⟨g, o, none⟩) 2 cap], .int .i64 (j : Int), .int .i64 (y : Int)] w11 fun r w' => r = .returned (.tuple #[.int .i64 (jx : Int), .int .i64 0]) ∧ Hid (Below w11.heap.size w11 w') := by
        have s := K6.apply j y HNUM.out.2.2.2 hyl
        rw [← G3.out] at s
        exact s
      clear K6
      go_upto_region 13 with (first | (go_at_call 14; (with_reducible refine Calls.mono CC ?_); rintro e' w12 ⟨rfl, HBn⟩))
      replace HO : Hid (OwnN ENat 3 w5.heap.size (fun _ => False) w12 (.slice adr y capr) (rf.take y)) := HO.out.on (fun _ h => h.elim) HB.out.size HBn.out
      replace HB : Hid (Below w5.heap.size w5 w12) := HB.out.trans (HBn.out.mono HB.out.size)
      clear CC HBn c0 c1 c2 u0 u1 u2
      obtain ⟨HBW5, u0, u1, u2, -⟩ := HED.out w12 HB.out
      obtain ⟨K6, ⟨c0, c1, c2⟩, ⟨a0, a1, a2⟩, b0, b1, b2⟩ := HALL.out w12 HBW5
      clear a0 a1 a2 b0 b1 b2 HBW5
      have CC : Calls Tryz.prog 23 #[.agg #[.int .i64 k1, .string n1, .slice ad1 len1 cap1], .int .i64 (p : Int), .int .i64 (q : Int)] w12 fun r w' => r = .returned (.tuple #[.int .i64 (jx : Int), .int .i64 0]) ∧ Hid (Below w12.heap.size w12 w') := by
        have s := K6.joinU p q HPQ.out.1 HPQ.out.2
        rw [← G4.out] at s
        exact s
      clear K6
      go_upto_region 14 with (first | (go_at_call 23; (with_reducible refine Calls.mono CC ?_); rintro e' w13 ⟨rfl, HBn⟩))
      replace HO : Hid (OwnN ENat 3 w5.heap.size (fun _ => False) w13 (.slice adr y capr) (rf.take y)) := HO.out.on (fun _ h => h.elim) HB.out.size HBn.out
      replace HB : Hid (Below w5.heap.size w5 w13) := HB.out.trans (HBn.out.mono HB.out.size)
      clear CC HBn c0 c1 c2 u0 u1 u2
      obtain ⟨HBW5, u0, u1, u2, -⟩ := HED.out w13 HB.out
      obtain ⟨K6, ⟨c0, c1, c2⟩, ⟨a0, a1, a2⟩, b0, b1, b2⟩ := HALL.out w13 HBW5
      clear a0 a1 a2 b0 b1 b2 HBW5
      have CC : Calls Tryz.prog 21 #[.agg #[.int .i64 k1, .string n1, .slice ad1 len1 cap1], .int .i64 (p : Int), .int .i64 (q : Int)] w13 fun r w' => r = .returned (.tuple #[.bool bpq, .int .i64 0]) ∧ Hid (Below w13.heap.size w13 w') := by
        have s := K6.belowU p q HPQ.out.1 HPQ.out.2
        rw [← G5.out] at s
        exact s
      clear K6
      go_upto_region 15 with (first | (go_at_call 21; (with_reducible refine Calls.mono CC ?_); rintro e' w14 ⟨rfl, HBn⟩))
      replace HO : Hid (OwnN ENat 3 w5.heap.size (fun _ => False) w14 (.slice adr y capr) (rf.take y)) := HO.out.on (fun _ h => h.elim) HB.out.size HBn.out
      replace HB : Hid (Below w5.heap.size w5 w14) := HB.out.trans (HBn.out.mono HB.out.size)
      clear CC HBn c0 c1 c2 u0 u1 u2
      obtain ⟨HBW5, u0, u1, u2, -⟩ := HED.out w14 HB.out
      obtain ⟨K6, ⟨c0, c1, c2⟩, ⟨a0, a1, a2⟩, b0, b1, b2⟩ := HALL.out w14 HBW5
      clear a0 a1 a2 b0 b1 b2 HBW5
      have CC : Calls Tryz.prog 21 #[.agg #[.int .i64 k1, .string n1, .slice ad1 len1 cap1], .int .i64 (v : Int), .int .i64 (p : Int)] w14 fun r w' => r = .returned (.tuple #[.bool bre, .int .i64 0]) ∧ Hid (Below w14.heap.size w14 w') := by
        have s := K6.belowU v p HNUM.out.2.2.1 HPQ.out.1
        rw [← G6.out] at s
        exact s
      clear K6
      go_upto_region 16 with (first | (go_at_call 21; (with_reducible refine Calls.mono CC ?_); rintro e' w15 ⟨rfl, HBn⟩))
      replace HO : Hid (OwnN ENat 3 w5.heap.size (fun _ => False) w15 (.slice adr y capr) (rf.take y)) := HO.out.on (fun _ h => h.elim) HB.out.size HBn.out
      replace HB : Hid (Below w5.heap.size w5 w15) := HB.out.trans (HBn.out.mono HB.out.size)
      clear CC HBn c0 c1 c2 u0 u1 u2
      obtain ⟨HBW5, u0, u1, u2, -⟩ := HED.out w15 HB.out
      obtain ⟨K6, ⟨c0, c1, c2⟩, ⟨a0, a1, a2⟩, b0, b1, b2⟩ := HALL.out w15 HBW5
      clear a0 a1 a2 b0 b1 b2 HBW5
      have g1 : ((jx : Int) != (jx : Int)) = false := by simp
      go_upto_if 139 with fail
      clear g1 K6
      go_cut [18] from 138 to 139 (fun s wx => s = .bool (ub && bpq) ∧ wx = w15)
      case first =>
        cases bpq with
        | true =>
          go_wp2_with fail
          go_meet
          exact ⟨by rw [Bool.and_true], rfl⟩
        | false =>
          go_wp2_with fail
          go_meet
          exact ⟨by rw [Bool.and_false], rfl⟩
      case rest =>
        obtain ⟨rfl, hwc⟩ := hcut
        obtain rfl := hwc.symm
        clear hwc
        clear c0 c1 c2 u0 u1 u2
        have HU2 : Hid ((ub && bpq) = true ↔ ∀ z, z < y + 1 → (tb.getD (rf.getD z 0) 0).testBit (rg.getD z 0) = true) := by
          show _ ↔ _
          rw [Bool.and_eq_true, HU.out, G5.out, G1.out, G2.out]
          constructor
          · rintro ⟨h1, h2⟩ z hz
            rcases Nat.lt_or_ge z y with e | e
            · exact h1 z e
            · rw [show z = y by omega]; exact h2
          · exact fun h1 => ⟨fun z hz => h1 z (by omega), h1 y (by omega)⟩
        generalize (ub && bpq) = ub2 at *
        go_upto_region 22 with fail
        go_loopw [33, 34] (fun mv iv wi => ∃ (i : Nat) (mb : Bool), i ≤ el.length ∧ iv = .int .i64 i ∧ mv = .bool mb ∧ Hid (mb = (el.take i).any (fun z => (fa.getD z 0).testBit y)) ∧ Hid (Below w15.heap.size w15 wi)) (fun _ iv _ => el.length - (intOf iv).toNat)
        case atStart => exact ⟨0, false, by omega, by go_num, rfl, by rw [List.take_zero]; rfl, Below.refl _ _⟩
        case round =>
          obtain ⟨i, mb, hi, rfl, rfl, HM, HBi⟩ := hrel
          have HBr : Hid (Below w5.heap.size w5 wr.drew) := HB.out.trans (HBi.out.drew.mono HB.out.size)
          have HELl := HEL.out.1
          by_cases hil : i < el.length
          · obtain ⟨HBW6, u0, u1, u2, hed⟩ := HED.out wr.drew HBr.out
            obtain ⟨ge, oe, rfl, hce, hgl, q1⟩ := hed i hil
            obtain ⟨K6, ⟨c0, c1, c2⟩, ⟨a0, a1, a2⟩, b0, b1, b2⟩ := HALL.out wr.drew HBW6
            have i3 : (0 : Int) ≤ (i : Int) := by omega
            have i4 : (i : Int) < (el.length : Int) := by omega
            have HZL : Hid (el[i] < fa.length) := HEL.out.2 _ (List.getElem_mem hil)
            have HMn : Hid ((mb || (fa.getD el[i] 0).testBit y) = (el.take (i + 1)).any (fun z => (fa.getD z 0).testBit y)) := by
              show _ = _
              rw [List.take_succ_eq_append_getElem hil, List.any_append, ← HM.out]
              simp
            have CB := K6.belowA el[i] y HZL.out hyl
            obtain ⟨z, hz⟩ : ∃ z, z = el[i] := ⟨_, rfl⟩
            rw [← hz] at q1 CB HMn
            obtain ⟨le, hle⟩ : ∃ le, le = (fa.getD z 0).testBit y := ⟨_, rfl⟩
            rw [← hle] at CB HMn
            have hS0 : (fun w' : World => w'.cell? ⟨X, 2, none⟩ = some (.slice (some ⟨g, o, none⟩) 2 cap) ∧ w'.cell? ⟨g, o, none⟩ = some (.int .i64 k0) ∧ w'.cell? ⟨g, o + 1, none⟩ = some (.string n0) ∧ w'.cell? ⟨g, o + 2, none⟩ = some (.slice ad0 len0 cap0) ∧ w'.cell? ⟨ge, oe + i, none⟩ = some (.int .i64 (z : Int))) wr.drew := ⟨c2, a0, a1, a2, q1⟩
            have HKS : Hid (∀ w2 : World, Below wr.drew.heap.size wr.drew w2 → (fun w' : World => w'.cell? ⟨X, 2, none⟩ = some (.slice (some ⟨g, o, none⟩) 2 cap) ∧ w'.cell? ⟨g, o, none⟩ = some (.int .i64 k0) ∧ w'.cell? ⟨g, o + 1, none⟩ = some (.string n0) ∧ w'.cell? ⟨g, o + 2, none⟩ = some (.slice ad0 len0 cap0) ∧ w'.cell? ⟨ge, oe + i, none⟩ = some (.int .i64 (z : Int))) w2) := fun w2 h2 => by
              have hb2 := HBr.out.trans (h2.mono HBr.out.size)
              obtain ⟨-, ⟨-, -, e2⟩, ⟨e3, e4, e5⟩, -⟩ := HALL.out w2 (HED.out w2 hb2).1
              exact ⟨e2, e3, e4, e5, (h2.cell (p := ⟨ge, oe + i, none⟩) (Nat.lt_of_lt_of_le hgl HBr.out.size)).trans q1⟩
            clear c0 c1 c2 a0 a1 a2 b0 b1 b2 u0 u1 u2 hed q1 K6 HBW6 hz hle HM
            go_upto_region 24 with fail
            refine wp_region_M (S := (fun w' : World => w'.cell? ⟨X, 2, none⟩ = some (.slice (some ⟨g, o, none⟩) 2 cap) ∧ w'.cell? ⟨g, o, none⟩ = some (.int .i64 k0) ∧ w'.cell? ⟨g, o + 1, none⟩ = some (.string n0) ∧ w'.cell? ⟨g, o + 2, none⟩ = some (.slice ad0 len0 cap0) ∧ w'.cell? ⟨ge, oe + i, none⟩ = some (.int .i64 (z : Int)))) (L := 15) (n := 15) (by kernel_rfl) rfl (by kernel_rfl) ?_
            refine wpAnyK_go (i := 0) (m' := 1) (some 147) (v := .pointer (some ⟨X, 2, none⟩)) rfl rfl (by kernel_rfl) (by kernel_rfl) (by kernel_rfl) (by kernel_rfl) (by kernel_rfl) (fun _ _ _ h => h) (Or.inl ⟨by rfl, ?_⟩) hS0 ?_
            · intro w' hSw
              go_simp
            simp only [Act.put, List.setIfInBounds_toArray, List.set_cons_zero, List.set_cons_succ]
            refine wpAnyK_go (i := 1) (m' := 3) (some 148) (v := .slice (some ⟨g, o, none⟩) 2 cap) rfl rfl (by kernel_rfl) (by kernel_rfl) (by kernel_rfl) (by kernel_rfl) (by kernel_rfl) (fun _ _ _ h => h) (Or.inl ⟨by rfl, ?_⟩) hS0 ?_
            · intro w' hSw
              obtain ⟨s1, s2, s3, s4, s5⟩ := hSw
              go_simp
            simp only [Act.put, List.setIfInBounds_toArray, List.set_cons_zero, List.set_cons_succ]
            refine wpAnyK_go (i := 2) (m' := 7) (some 149) (v := .pointer (some ⟨g, o, none⟩)) rfl rfl (by kernel_rfl) (by kernel_rfl) (by kernel_rfl) (by kernel_rfl) (by kernel_rfl) (fun _ _ _ h => h) (Or.inl ⟨by rfl, ?_⟩) hS0 ?_
            · intro w' hSw
              go_simp
            simp only [Act.put, List.setIfInBounds_toArray, List.set_cons_zero, List.set_cons_succ]
            refine wpAnyK_go (i := 3) (m' := 15) (some 150) (v := .agg #[.int .i64 k0, .string n0, .slice ad0 len0 cap0]) rfl rfl (by kernel_rfl) (by kernel_rfl) (by kernel_rfl) (by kernel_rfl) (by kernel_rfl) (fun _ _ _ h => h) (Or.inl ⟨by rfl, ?_⟩) hS0 ?_
            · intro w' hSw
              obtain ⟨s1, s2, s3, s4, s5⟩ := hSw
              go_simp
            simp only [Act.put, List.setIfInBounds_toArray, List.set_cons_zero, List.set_cons_succ]
            refine wpAnyK_go (i := 4) (m' := 31) (some 151) (v := .slice (some ⟨ge, oe, none⟩) el.length cape) rfl rfl (by kernel_rfl) (by kernel_rfl) (by kernel_rfl) (by kernel_rfl) (by kernel_rfl) (fun _ _ _ h => h) (Or.inl ⟨by rfl, ?_⟩) hS0 ?_
            · intro w' hSw
              go_simp
            simp only [Act.put, List.setIfInBounds_toArray, List.set_cons_zero, List.set_cons_succ]
            refine wpAnyK_go (i := 5) (m' := 63) (some 152) (v := .int .i64 (i : Int)) rfl rfl (by kernel_rfl) (by kernel_rfl) (by kernel_rfl) (by kernel_rfl) (by kernel_rfl) (fun _ _ _ h => h) (Or.inl ⟨by rfl, ?_⟩) hS0 ?_
            · intro w' hSw
              go_simp
            simp only [Act.put, List.setIfInBounds_toArray, List.set_cons_zero, List.set_cons_succ]
            refine wpAnyK_go (i := 6) (m' := 127) (some 153) (v := .pointer (some ⟨ge, oe + i, none⟩)) rfl rfl (by kernel_rfl) (by kernel_rfl) (by kernel_rfl) (by kernel_rfl) (by kernel_rfl) (fun _ _ _ h => h) (Or.inl ⟨by rfl, ?_⟩) hS0 ?_
            · intro w' hSw
              go_simp
            simp only [Act.put, List.setIfInBounds_toArray, List.set_cons_zero, List.set_cons_succ]
            refine wpAnyK_go (i := 7) (m' := 255) (some 154) (v := .int .i64 (z : Int)) rfl rfl (by kernel_rfl) (by kernel_rfl) (by kernel_rfl) (by kernel_rfl) (by kernel_rfl) (fun _ _ _ h => h) (Or.inl ⟨by rfl, ?_⟩) hS0 ?_
            · intro w' hSw
              obtain ⟨s1, s2, s3, s4, s5⟩ := hSw
              go_simp
            simp only [Act.put, List.setIfInBounds_toArray, List.set_cons_zero, List.set_cons_succ]
            refine wpAnyK_go (i := 8) (m' := 511) (some 155) (v := .int .i64 (y : Int)) rfl rfl (by kernel_rfl) (by kernel_rfl) (by kernel_rfl) (by kernel_rfl) (by kernel_rfl) (fun _ _ _ h => h) (Or.inl ⟨by rfl, ?_⟩) hS0 ?_
            · intro w' hSw
              go_simp
            simp only [Act.put, List.setIfInBounds_toArray, List.set_cons_zero, List.set_cons_succ]
            refine wpAnyK_only (i := 9) (m' := 1023) (by kernel_rfl) rfl (by kernel_rfl) fun K hK => ?_
            go_simp
            (with_reducible refine Calls.mono CB ?_)
            rintro e' w8 ⟨rfl, HB8⟩
            have hS8 := HKS.out w8 HB8.out
            go_simp
            refine hK.out _ _ (fun _ => hS8) ?_
            clear hK K CB hS0 HKS
            refine wpAnyK_go (i := 10) (m' := 2047) (some 146) (v := .tuple #[.bool le, .int .i64 0]) rfl rfl (by kernel_rfl) (by kernel_rfl) (by kernel_rfl) (by kernel_rfl) (by kernel_rfl) (fun _ _ _ h => h) (Or.inl ⟨by rfl, ?_⟩) hS8 ?_
            · intro w' hSw
              go_simp
            simp only [Act.put, List.setIfInBounds_toArray, List.set_cons_zero, List.set_cons_succ]
            refine wpAnyK_go (i := 11) (m' := 4095) (some 157) (v := .bool le) rfl rfl (by kernel_rfl) (by kernel_rfl) (by kernel_rfl) (by kernel_rfl) (by kernel_rfl) (fun _ _ _ h => h) (Or.inl ⟨by rfl, ?_⟩) hS8 ?_
            · intro w' hSw
              go_simp
            simp only [Act.put, List.setIfInBounds_toArray, List.set_cons_zero, List.set_cons_succ]
            refine wpAnyK_go (i := 12) (m' := 8191) (some 158) (v := .int .i64 0) rfl rfl (by kernel_rfl) (by kernel_rfl) (by kernel_rfl) (by kernel_rfl) (by kernel_rfl) (fun _ _ _ h => h) (Or.inl ⟨by rfl, ?_⟩) hS8 ?_
            · intro w' hSw
              go_simp
            simp only [Act.put, List.setIfInBounds_toArray, List.set_cons_zero, List.set_cons_succ]
            refine wpAnyK_go (i := 13) (m' := 16383) (some 35) (v := .bool le) rfl rfl (by kernel_rfl) (by kernel_rfl) (by kernel_rfl) (by kernel_rfl) (by kernel_rfl) (fun _ _ _ h => h) (Or.inl ⟨by rfl, ?_⟩) hS8 ?_
            · intro w' hSw
              go_simp
            simp only [Act.put, List.setIfInBounds_toArray, List.set_cons_zero, List.set_cons_succ]
            refine wpAnyK_go (i := 14) (m' := 32767) (some 36) (v := .int .i64 0) rfl rfl (by kernel_rfl) (by kernel_rfl) (by kernel_rfl) (by kernel_rfl) (by kernel_rfl) (fun _ _ _ h => h) (Or.inl ⟨by rfl, ?_⟩) hS8 ?_
            · intro w' hSw
              go_simp
            simp only [Act.put, List.setIfInBounds_toArray, List.set_cons_zero, List.set_cons_succ]
            refine wpAnyK_done (by kernel_rfl) ?_ _
            clear hS8
            have HBi8 : Hid (Below w15.heap.size w15 w8) := HBi.out.drew.trans (HB8.out.mono HBi.out.size)
            cases le with
            | true =>
              rw [Bool.or_true] at HMn
              go_wp2
              go_roundw
              case rel => exact ⟨i + 1, true, hil, by go_num, rfl, HMn.out, HBi8.out⟩
              case measure => simp [intOf]; omega
            | false =>
              rw [Bool.or_false] at HMn
              go_wp2
              go_roundw
              case rel => exact ⟨i + 1, mb, hil, by go_num, rfl, HMn.out, HBi8.out⟩
              case measure => simp [intOf]; omega
          · obtain rfl : i = el.length := by omega
            have hmb : mb = bre := by
              rw [HM.out, List.take_length, G7.out]
            subst hmb
            have g2 : (mb != mb) = false := by simp
            have HBr2 : Hid (Below w5.heap.size w5 wr) := HB.out.trans (HBi.out.mono HB.out.size)
            have HO2 : Hid (OwnN ENat 3 w5.heap.size (fun _ => False) wr (.slice adr y capr) (rf.take y)) := HO.out.on (fun _ h => h.elim) HB.out.size HBi.out
            have HLN : Hid ((rf.take y).length + 1 ≤ 10000000) := by
              show _ ≤ _
              rw [List.length_take]
              omega
            have HS5 : Hid (w5.heap.size ≤ wr.heap.size) := HBr2.out.size
            go_upto_region 29 with fail
            clear g2
            go_wp2_with (at_builtin; refine wpList_append_N1 (E := ENat) (cs := [.int .i64 (p : Int)]) (p := p) Tryz.ty28 rfl _ _ rfl rfl HO2.out (fun _ h => h.elim) HS5.out (Below.refl _ _) rfl rfl (Nat.le_refl _) HLN.out ?_; intro v9 w9 O9 B9 N9; rw [GT.out] at O9; obtain ⟨a9, c9, rfl⟩ := O9.len; have HLT : (rf.take (y + 1)).length = y + 1 := (by have := GL.out; rw [List.length_take]; omega); rw [HLT] at O9 ⊢; have HO9 : Hid (OwnN ENat 3 w5.heap.size (fun _ => False) w9 (.slice a9 (y + 1) c9) (rf.take (y + 1))) := O9; clear HLT; have HB9 : Hid (Below w5.heap.size w5 w9) := HBr2.out.trans B9; clear O9 B9 N9)
            refine ⟨⟨y + 1, ub2, hyl, by go_num, rfl, HU2.out, HB9.out, a9, c9, rfl, HO9.out⟩, by simp [intOf]; omega⟩
    · obtain rfl : y = fa.length := by omega
      rw [List.take_of_length_le (by rw [HFL.out]; exact Nat.le_refl _)] at HO
      have hub : ub = fg := by
        rw [Bool.eq_iff_iff, HU.out, HUND.out]
      subst hub
      obtain ⟨HBW5, u0, u1, u2, -⟩ := HED.out wr HB.out
      obtain ⟨K6, ⟨c0, c1, c2⟩, ⟨a0, a1, a2⟩, b0, b1, b2⟩ := HALL.out wr HBW5
      have HO3 := HO.out
      rw [show fa.length = rf.length from HFL.out.symm] at HO3
      have CO := K6.of f (.slice adr rf.length capr) HNUM.out.1 (by
        rw [← HE4.out]
        exact nts_zts (RowE.toNts (OwnN.rowE HO3)) (fun y hy => hy.2))
      rw [show rf.length = fa.length from HFL.out] at CO
      clear HO3
      have HBE : Hid (Below w.heap.size w wr) := HBW.out wr HBW5
      clear a0 a1 a2 b0 b1 b2 u0 u1 u2 K6 HBW5
      have g3 : (ub == ub) = true := by simp
      have g4 : ((f : Int) == (f : Int)) = true := by simp
      go_wp2_with (first | (go_at_call 9; (with_reducible refine Calls.mono CO ?_); rintro e' w9 ⟨rfl, HBn⟩))
      refine bodyPost_ret (v := .bool true) (by simp [results, Tryz.results16, go_sem]) rfl ?_
      exact ⟨rfl, HBE.out.trans (HBn.out.mono HBE.out.size)⟩
end Go.Proofs.YtgdflaapgfpdeaaGreatDoor
