/- Sets of elements, a bit each: has, first. An order in memory: what is above each element; size, has, below. next: what may come behind some results. Plain: the orders of elements. -/
import Derived.Test.YtgdflaapgfpdeaaGreatDoorProg
import Derived.Below
import Derived.Deep.RegionHeld3
import Derived.Laws.Shifts
import Derived.Laws.Bits64b
import Derived.Deep.Cut
import Derived.IntWalk
namespace Go.Proofs.YtgdflaapgfpdeaaGreatDoor
open Go.RowKit

theorem shr_one (s a : Nat) (hs : s < 18446744073709551616) (ha : a < 64) : (bits BinOp.and IntKind.u64 ((s : Int) / 2 ^ min a 64) 1 == 1) = s.testBit a := by
  rw [Nat.min_eq_left (by omega)]
  have e : ((s : Int) / 2 ^ a) = ((s / 2 ^ a : Nat) : Int) := by simp
  have h1 : s / 2 ^ a < 18446744073709551616 := Nat.lt_of_le_of_lt (Nat.div_le_self _ _) hs
  rw [e, show (1 : Int) = ((1 : Nat) : Int) from rfl, bits_and_u64_nat _ _ h1 (by omega), Nat.testBit, Nat.shiftRight_eq_div_pow, Nat.and_comm 1]
  have h2 : (s / 2 ^ a) &&& 1 = 0 ∨ (s / 2 ^ a) &&& 1 = 1 := by
    rw [Nat.and_one_is_mod]
    omega
  rcases h2 with h2 | h2 <;> rw [h2] <;> rfl
set_option maxRecDepth 10000 in
theorem has_any {w : World} (s a : Nat) (hs : s < 18446744073709551616) (ha : a < 64) : Calls Tryz.prog 47 #[.int .u64 s, .int .i64 a] w fun r w' => r = .returned (.bool (s.testBit a)) ∧ w' = w := by
  have i1 : (0 : Int) ≤ (a : Int) := by omega
  have hr := shr_one s a hs ha
  go_enter Tryz.func47, Tryz.ntmps47
  go_wp2
  go_ret
  exact ⟨rfl, rfl⟩
theorem two_pow_lt {a : Nat} (ha : a < 64) : 2 ^ a ≤ 9223372036854775808 := Nat.pow_le_pow_right (by omega) (show a ≤ 63 by omega)
theorem shl_one (a : Nat) (ha : a < 64) : IntKind.u64.wrap (IntKind.u64.wrap (2 ^ min a 64) - 1) = ((2 ^ a - 1 : Nat) : Int) := by
  have h1 := two_pow_lt ha
  have h2 : 0 < 2 ^ a := Nat.pow_pos (by omega)
  have e : ((2 : Int) ^ min a 64) = ((2 ^ a : Nat) : Int) := by
    rw [Nat.min_eq_left (by omega)]
    simp
  rw [e, IntKind.wrap_u64, IntKind.wrap_u64]
  generalize 2 ^ a = q at *
  omega
set_option maxRecDepth 10000 in
theorem first_any {w : World} (a : Nat) (ha : a < 64) : Calls Tryz.prog 77 #[.int .i64 a] w fun r w' => r = .returned (.int .u64 ((2 ^ a - 1 : Nat) : Int)) ∧ w' = w := by
  have i1 : (0 : Int) ≤ (a : Int) := by omega
  have hr := shl_one a ha
  go_enter Tryz.func77, Tryz.ntmps77
  go_wp2
  go_ret
  exact ⟨rfl, rfl⟩
end Go.Proofs.YtgdflaapgfpdeaaGreatDoor

namespace Go.Proofs.YtgdflaapgfpdeaaGreatDoor
open Go.RowKit

/-- A row of sets. -/
def Sets (w : World) (S : Nat → Prop) (v : Value) (l : List Nat) : Prop :=
  (l = [] ∧ ∃ ad cap, v = .slice ad 0 cap) ∨ ∃ g o cap, v = .slice (some ⟨g, o, none⟩) l.length cap ∧ l ≠ [] ∧ l.length ≤ cap ∧ S g ∧ ∀ j (h : j < l.length), w.cell? ⟨g, o + j, none⟩ = some (.int .u64 (l[j] : Int))
/-- The block p holds an order with these sets. -/
def AbAt (w : World) (S : Nat → Prop) (p : Nat) (ab : List Nat) : Prop := S p ∧ ∃ ad cap, w.cell? ⟨p, 0, none⟩ = some (.slice ad ab.length cap) ∧ Sets w S (.slice ad ab.length cap) ab
theorem Sets.at {w : World} {S : Nat → Prop} {ad : Option Addr} {n cap : Nat} {l : List Nat} (h : Sets w S (.slice ad n cap) l) {j : Nat} (hj : j < l.length) : ∃ g o, ad = some ⟨g, o, none⟩ ∧ l.length ≤ cap ∧ S g ∧ w.cell? ⟨g, o + j, none⟩ = some (.int .u64 (l[j] : Int)) := by
  rcases h with ⟨h, _⟩ | ⟨g, o, cap', h1, _, h3, h4, h5⟩
  · rw [h] at hj; simp at hj
  · obtain ⟨e1, _, e2⟩ := Value.slice.inj h1
    exact ⟨g, o, e1, by rw [e2]; exact h3, h4, h5 j hj⟩
set_option maxRecDepth 10000 in
theorem size_any {w : World} {S : Nat → Prop} {p : Nat} {ab : List Nat} (h : AbAt w S p ab) : Calls Tryz.prog 33 #[.pointer (some ⟨p, 0, none⟩)] w fun r w' => r = .returned (.int .i64 ab.length) ∧ w' = w := by
  obtain ⟨_, ad, cap, h1, _⟩ := h
  go_enter Tryz.func33, Tryz.ntmps33
  go_wp2
  go_ret
  exact ⟨rfl, rfl⟩
set_option maxRecDepth 10000 in
theorem hasO_any {w : World} {S : Nat → Prop} {p : Nat} {ab : List Nat} (h : AbAt w S p ab) (x : Int) : Calls Tryz.prog 35 #[.pointer (some ⟨p, 0, none⟩), .int .i64 x] w fun r w' => r = .returned (.bool (decide (0 ≤ x ∧ x < (ab.length : Int)))) ∧ w' = w := by
  have CS := size_any h
  clear h
  by_cases h0 : 0 ≤ x
  · by_cases h1 : x < (ab.length : Int)
    · have e : decide (0 ≤ x ∧ x < (ab.length : Int)) = true := by simp [h0, h1]
      rw [e]
      go_enter Tryz.func35, Tryz.ntmps35
      go_wp2_with (first | (go_at_call 33; (with_reducible refine Calls.mono CS ?_); rintro e' w2 ⟨rfl, rfl⟩))
      go_ret
      exact ⟨rfl, rfl⟩
    · have e : decide (0 ≤ x ∧ x < (ab.length : Int)) = false := by simp [h1]
      have d1 : decide (x < (ab.length : Int)) = false := decide_eq_false h1
      rw [e]
      go_enter Tryz.func35, Tryz.ntmps35
      go_wp2_with (first | (go_at_call 33; (with_reducible refine Calls.mono CS ?_); rintro e' w2 ⟨rfl, rfl⟩))
      go_ret
      exact ⟨rfl, rfl⟩
  · have e : decide (0 ≤ x ∧ x < (ab.length : Int)) = false := by simp [h0]
    rw [e]
    go_enter Tryz.func35, Tryz.ntmps35
    go_wp2_with (first | (go_at_call 33; (with_reducible refine Calls.mono CS ?_); rintro e' w2 ⟨rfl, rfl⟩))
    go_ret
    exact ⟨rfl, rfl⟩
set_option maxRecDepth 10000 in
theorem belowO_any {w : World} {S : Nat → Prop} {p : Nat} {ab : List Nat} (h : AbAt w S p ab) (a b : Nat) (ha : a < ab.length) (hs : ab[a] < 18446744073709551616) (hb : b < 64) : Calls Tryz.prog 37 #[.pointer (some ⟨p, 0, none⟩), .int .i64 a, .int .i64 b] w fun r w' => r = .returned (.bool (ab[a].testBit b)) ∧ w' = w := by
  obtain ⟨_, ad, cap, h1, h2⟩ := h
  obtain ⟨g, o, rfl, h3, _, h4⟩ := h2.at ha
  have CH := has_any (w := w) ab[a] b hs hb
  have i1 : (0 : Int) ≤ (a : Int) := by omega
  have i2 : (a : Int) < (ab.length : Int) := by omega
  clear h2
  generalize ab[a] = s at *
  go_enter Tryz.func37, Tryz.ntmps37
  go_wp2_with (first | (go_at_call 47; (with_reducible refine Calls.mono CH ?_); rintro e' w2 ⟨rfl, rfl⟩))
  go_ret
  exact ⟨rfl, rfl⟩
end Go.Proofs.YtgdflaapgfpdeaaGreatDoor

namespace Go.Proofs.YtgdflaapgfpdeaaGreatDoor
open Go.RowKit

/-- A row of numbers. -/
def Nts (w : World) (S : Nat → Prop) (v : Value) (l : List Nat) : Prop :=
  (l = [] ∧ ∃ ad cap, v = .slice ad 0 cap) ∨ ∃ g o cap, v = .slice (some ⟨g, o, none⟩) l.length cap ∧ l ≠ [] ∧ l.length ≤ cap ∧ S g ∧ ∀ j (h : j < l.length), w.cell? ⟨g, o + j, none⟩ = some (.int .i64 (l[j] : Int))
theorem Nts.at {w : World} {S : Nat → Prop} {ad : Option Addr} {n cap : Nat} {l : List Nat} (h : Nts w S (.slice ad n cap) l) {j : Nat} (hj : j < l.length) : ∃ g o, ad = some ⟨g, o, none⟩ ∧ l.length ≤ cap ∧ S g ∧ w.cell? ⟨g, o + j, none⟩ = some (.int .i64 (l[j] : Int)) := by
  rcases h with ⟨h, _⟩ | ⟨g, o, cap', h1, _, h3, h4, h5⟩
  · rw [h] at hj; simp at hj
  · obtain ⟨e1, _, e2⟩ := Value.slice.inj h1
    exact ⟨g, o, e1, by rw [e2]; exact h3, h4, h5 j hj⟩
/-- What may come next, the first i results looked at. -/
def nextQ (fa ta bg : List Nat) : Nat → Nat
  | 0 => 2 ^ ta.length - 1
  | i + 1 => if (fa.getD i 0).testBit bg.length then nextQ fa ta bg i &&& ta.getD (bg.getD i 0) 0 else nextQ fa ta bg i
def nextP (fa ta bg : List Nat) : Nat := nextQ fa ta bg bg.length
theorem nextQ_lt (fa ta bg : List Nat) (h : ta.length < 64) : ∀ i, nextQ fa ta bg i < 18446744073709551616
  | 0 => by
    have := two_pow_lt h
    show 2 ^ ta.length - 1 < _
    omega
  | i + 1 => by
    have ih := nextQ_lt fa ta bg h i
    unfold nextQ
    split
    · exact Nat.lt_of_le_of_lt Nat.and_le_left ih
    · exact ih
/-- A function order's two sides. -/
structure FnAt (w : World) (S : Nat → Prop) (p pf pt : Nat) (fa ta : List Nat) : Prop where
  sp : S p
  c1 : w.cell? ⟨p, 1, none⟩ = some (.pointer (some ⟨pf, 0, none⟩))
  c2 : w.cell? ⟨p, 2, none⟩ = some (.pointer (some ⟨pt, 0, none⟩))
  fr : AbAt w S pf fa
  to : AbAt w S pt ta
  fl : fa.length < 64
  tl : ta.length < 64
  fs : ∀ x ∈ fa, x < 18446744073709551616
  ts : ∀ x ∈ ta, x < 18446744073709551616
set_option maxHeartbeats 4000000 in
set_option maxRecDepth 10000 in
theorem next_any {w : World} {S : Nat → Prop} {p pf pt : Nat} {fa ta bg : List Nat} {ad : Option Addr} {cap : Nat} (h : FnAt w S p pf pt fa ta) (hb : Nts w S (.slice ad bg.length cap) bg) (hl : bg.length < fa.length) (hv : ∀ v ∈ bg, v < ta.length) :
    Calls Tryz.prog 86 #[.pointer (some ⟨p, 0, none⟩), .slice ad bg.length cap] w fun r w' => r = .returned (.int .u64 (nextP fa ta bg : Int)) ∧ w' = w := by
  have hfl := h.fl
  have htl := h.tl
  have c1 := h.c1
  have c2 := h.c2
  have CS := size_any h.to
  have CF := first_any (w := w) ta.length h.tl
  have HCB : Hid (∀ i (hi : i < bg.length), Calls Tryz.prog 37 #[.pointer (some ⟨pf, 0, none⟩), .int .i64 i, .int .i64 bg.length] w fun r w' => r = .returned (.bool ((fa.getD i 0).testBit bg.length)) ∧ w' = w) := fun i hi => by
    have hi' : i < fa.length := by omega
    have := belowO_any h.fr i bg.length hi' (h.fs _ (List.getElem_mem hi')) (by omega)
    rwa [show fa.getD i 0 = fa[i] by simp [hi']]
  have HT : Hid (∀ i (hi : i < bg.length), ∃ g o tg to tc at', ad = some ⟨g, o, none⟩ ∧ bg.length ≤ cap ∧ w.cell? ⟨g, o + i, none⟩ = some (.int .i64 (bg[i] : Int)) ∧ at' = some ⟨tg, to, none⟩ ∧ w.cell? ⟨pt, 0, none⟩ = some (.slice at' ta.length tc) ∧ ta.length ≤ tc ∧ bg[i] < ta.length ∧ w.cell? ⟨tg, to + bg[i], none⟩ = some (.int .u64 ((ta.getD (bg.getD i 0) 0 : Nat) : Int))) := fun i hi => by
    obtain ⟨g, o, e1, e2, _, e3⟩ := hb.at hi
    obtain ⟨_, ad', tc, q1, q2⟩ := h.to
    have hvi := hv _ (List.getElem_mem hi)
    obtain ⟨tg, to, e4, e5, _, e6⟩ := q2.at hvi
    refine ⟨g, o, tg, to, tc, ad', e1, e2, e3, e4, q1, e5, hvi, ?_⟩
    rw [show ta.getD (bg.getD i 0) 0 = ta[bg[i]] by simp [hi, hvi]]
    exact e6
  have HLT : Hid (∀ i, nextQ fa ta bg i < 18446744073709551616) := nextQ_lt fa ta bg h.tl
  have HTS : Hid (∀ i (hi : i < bg.length), ta.getD (bg.getD i 0) 0 < 18446744073709551616) := fun i hi => by
    have hvi := hv _ (List.getElem_mem hi)
    rw [show ta.getD (bg.getD i 0) 0 = ta[bg[i]] by simp [hi, hvi]]
    exact h.ts _ (List.getElem_mem hvi)
  have hbl : bg.length ≤ 64 := by omega
  clear h hb hv
  go_enter Tryz.func86, Tryz.ntmps86
  go_upto_region 3 with (first
    | (go_at_call 33; (with_reducible refine Calls.mono CS ?_); rintro e' w2 ⟨rfl, rfl⟩)
    | (go_at_call 77; (with_reducible refine Calls.mono CF ?_); rintro e' w2 ⟨rfl, rfl⟩))
  clear CS CF
  go_loopw [5, 16] (fun mv iv wr => ∃ i : Nat, i ≤ bg.length ∧ iv = .int .i64 i ∧ mv = .int .u64 (nextQ fa ta bg i : Int) ∧ wr = w2) (fun _ iv _ => bg.length - (intOf iv).toNat)
  case atStart => exact ⟨0, by omega, by go_num, rfl, rfl⟩
  case round =>
    obtain ⟨i, hi, rfl, rfl, hwr⟩ := hrel
    subst hwr
    by_cases hil : i < bg.length
    · obtain ⟨g, o, tg, to, tc, at', rfl, hbc, q1, rfl, q2, htc, hvi, q3⟩ := HT.out i hil
      have CB := HCB.out i hil
      have i1 : (0 : Int) ≤ (i : Int) := by omega
      have i2 : (i : Int) < (bg.length : Int) := by omega
      have i3 : (0 : Int) ≤ (bg[i] : Int) := by omega
      have i4 : (bg[i] : Int) < (ta.length : Int) := by omega
      have hand := bits_and_u64_nat (nextQ fa ta bg i) (ta.getD (bg.getD i 0) 0) (HLT.out i) (HTS.out i hil)
      have HN : Hid (nextQ fa ta bg (i + 1) = if (fa.getD i 0).testBit bg.length then nextQ fa ta bg i &&& ta.getD (bg.getD i 0) 0 else nextQ fa ta bg i) := rfl
      generalize nextQ fa ta bg i = m at *
      generalize ta.getD (bg.getD i 0) 0 = tv at *
      generalize bg[i] = bv at *
      cases hb : (fa.getD i 0).testBit bg.length with
      | true =>
        rw [hb] at CB
        have HN2 : Hid (nextQ fa ta bg (i + 1) = m &&& tv) := by
          show _ = _
          rw [HN.out, hb]
          rfl
        clear HN hb
        go_wp2_with (first | (go_at_call 37; (with_reducible refine Calls.mono CB ?_); rintro e' w3 ⟨rfl, rfl⟩))
        go_roundw
        case rel => exact ⟨i + 1, hil, by go_num, by rw [HN2.out], trivial⟩
        case measure => simp [intOf]; omega
      | false =>
        rw [hb] at CB
        have HN2 : Hid (nextQ fa ta bg (i + 1) = m) := by
          show _ = _
          rw [HN.out, hb]
          rfl
        clear HN hb
        go_wp2_with (first | (go_at_call 37; (with_reducible refine Calls.mono CB ?_); rintro e' w3 ⟨rfl, rfl⟩))
        go_roundw
        case rel => exact ⟨i + 1, hil, by go_num, by rw [HN2.out], trivial⟩
        case measure => simp [intOf]; omega
    · obtain rfl : i = bg.length := by omega
      go_wp2
      go_ret
      exact ⟨rfl, rfl⟩
end Go.Proofs.YtgdflaapgfpdeaaGreatDoor

namespace Go.Proofs.YtgdflaapgfpdeaaGreatDoor
/-- A chain's sets. -/
def chainP (n : Nat) : List Nat := (List.range n).map fun a => 2 ^ n - 2 ^ a
/-- All results that begin so and have r more. -/
def allP (fa ta : List Nat) : Nat → List Nat → List (List Nat)
  | 0, bg => [bg]
  | r + 1, bg => (List.range ta.length).flatMap fun v => if (nextP fa ta bg).testBit v then allP fa ta r (bg ++ [v]) else []
/-- Is a list of results below another one, place by place? -/
def underP (ta : List Nat) : List Nat → List Nat → Bool
  | x :: f, y :: g => (ta.getD x 0).testBit y && underP ta f g
  | [], [] => true
  | _, _ => false
/-- A function and all above it, of the first k ones. -/
def greatQ (ta : List Nat) (rs : List (List Nat)) (f : Nat) : Nat → Nat
  | 0 => 0
  | k + 1 => if f ≤ k && underP ta (rs.getD f []) (rs.getD k []) then greatQ ta rs f k ||| 2 ^ k else greatQ ta rs f k
def resP (fa ta : List Nat) : List (List Nat) := allP fa ta fa.length []
/-- The functions' sets; none, if they are too many. -/
def fnsP (ta : List Nat) (rs : List (List Nat)) : List Nat := (List.range rs.length).map fun f => greatQ ta rs f rs.length
def fnP (fa ta : List Nat) : Option (List Nat) := if (resP fa ta).length ≤ 40 then some (fnsP ta (resP fa ta)) else none
/-- One is below another one, or the same. -/
def Le (ab : List Nat) (a b : Nat) : Prop := (ab.getD a 0).testBit b = true
structure Lat (ab : List Nat) : Prop where
  pos : 0 < ab.length
  few : ab.length ≤ 40
  small : ∀ a b, Le ab a b → b < ab.length
  refl : ∀ a, a < ab.length → Le ab a a
  rise : ∀ a b, Le ab a b → a ≤ b
  trans : ∀ a b c, Le ab a b → Le ab b c → Le ab a c
  bot : ∀ a, a < ab.length → Le ab 0 a
  top : ∀ a, a < ab.length → Le ab a (ab.length - 1)
  join : ∀ a b, a < ab.length → b < ab.length → ∃ j, Le ab a j ∧ Le ab b j ∧ ∀ c, Le ab a c → Le ab b c → Le ab j c
theorem Le.lt {ab : List Nat} {a b : Nat} (h : Le ab a b) : a < ab.length := by
  apply Classical.byContradiction
  intro hn
  have e : ab.getD a 0 = 0 := by simp [List.getD_eq_getElem?_getD, List.getElem?_eq_none (by omega : ab.length ≤ a)]
  unfold Le at h
  rw [e] at h
  simp at h
theorem chain_bit {n a : Nat} (b : Nat) (ha : a ≤ n) : (2 ^ n - 2 ^ a).testBit b = (decide (a ≤ b) && decide (b < n)) := by
  have e : 2 ^ n - 2 ^ a = (2 ^ (n - a) - 1) * 2 ^ a := by
    rw [Nat.sub_mul, ← Nat.pow_add, Nat.sub_add_cancel ha, Nat.one_mul]
  rw [e, Nat.testBit_mul_two_pow, Nat.testBit_two_pow_sub_one]
  by_cases h : a ≤ b
  · have : (b - a < n - a) ↔ b < n := by omega
    simp [h, this]
  · simp [h]
theorem chain_len (n : Nat) : (chainP n).length = n := by simp [chainP]
theorem chain_get {n a : Nat} (h : a < n) : (chainP n).getD a 0 = 2 ^ n - 2 ^ a := by simp [chainP, h]
theorem chain_le {n a b : Nat} : Le (chainP n) a b ↔ a ≤ b ∧ b < n := by
  constructor
  · intro h
    have h1 := h.lt
    rw [chain_len] at h1
    unfold Le at h
    rw [chain_get h1, chain_bit _ (by omega)] at h
    simpa using h
  · intro h
    unfold Le
    rw [chain_get (by omega), chain_bit _ (by omega)]
    simpa using h
theorem chain_lat {n : Nat} (h0 : 0 < n) (h1 : n ≤ 40) : Lat (chainP n) where
  pos := by rw [chain_len]; exact h0
  few := by rw [chain_len]; exact h1
  small a b h := by rw [chain_len]; exact (chain_le.1 h).2
  refl a h := by rw [chain_len] at h; exact chain_le.2 ⟨Nat.le_refl _, h⟩
  rise a b h := (chain_le.1 h).1
  trans a b c h k := chain_le.2 ⟨Nat.le_trans (chain_le.1 h).1 (chain_le.1 k).1, (chain_le.1 k).2⟩
  bot a h := by rw [chain_len] at h; exact chain_le.2 ⟨Nat.zero_le _, h⟩
  top a h := by rw [chain_len] at h ⊢; exact chain_le.2 ⟨by omega, by omega⟩
  join a b ha hb := by
    rw [chain_len] at ha hb
    rcases Nat.le_total a b with h | h
    · exact ⟨b, chain_le.2 ⟨h, hb⟩, chain_le.2 ⟨Nat.le_refl _, hb⟩, fun c _ k => k⟩
    · exact ⟨a, chain_le.2 ⟨Nat.le_refl _, ha⟩, chain_le.2 ⟨h, ha⟩, fun c k _ => k⟩
theorem nextQ_bit (fa ta bg : List Nat) (v : Nat) : ∀ i, (nextQ fa ta bg i).testBit v = true ↔ v < ta.length ∧ ∀ x, x < i → Le fa x bg.length → Le ta (bg.getD x 0) v
  | 0 => by
    unfold nextQ
    rw [Nat.testBit_two_pow_sub_one]
    simp
  | i + 1 => by
    have ih := nextQ_bit fa ta bg v i
    unfold nextQ
    by_cases h : (fa.getD i 0).testBit bg.length = true
    · rw [if_pos h, Nat.testBit_and, Bool.and_eq_true, ih]
      constructor
      · rintro ⟨⟨h1, h2⟩, h3⟩
        refine ⟨h1, fun x hx hl => ?_⟩
        by_cases e : x = i
        · subst e; exact h3
        · exact h2 x (by omega) hl
      · rintro ⟨h1, h2⟩
        exact ⟨⟨h1, fun x hx hl => h2 x (by omega) hl⟩, h2 i (by omega) h⟩
    · rw [if_neg h, ih]
      constructor
      · rintro ⟨h1, h2⟩
        refine ⟨h1, fun x hx hl => ?_⟩
        by_cases e : x = i
        · subst e; exact absurd hl h
        · exact h2 x (by omega) hl
      · rintro ⟨h1, h2⟩
        exact ⟨h1, fun x hx hl => h2 x (by omega) hl⟩
/-- From the place p on, the results may be, behind those ahead. -/
def Ok (fa ta r : List Nat) (p : Nat) : Prop := ∀ y, p ≤ y → y < r.length → r.getD y 0 < ta.length ∧ ∀ x, x < y → Le fa x y → Le ta (r.getD x 0) (r.getD y 0)
theorem getD_app {l s : List Nat} {x : Nat} (h : x < l.length) : (l ++ s).getD x 0 = l.getD x 0 := by
  simp [List.getD_eq_getElem?_getD, List.getElem?_append_left h]
theorem getD_last (l s : List Nat) (v : Nat) : (l ++ v :: s).getD l.length 0 = v := by
  simp [List.getD_eq_getElem?_getD]
theorem all_mem (fa ta : List Nat) : ∀ (k : Nat) (bg r : List Nat), r ∈ allP fa ta k bg ↔ ∃ s, r = bg ++ s ∧ s.length = k ∧ Ok fa ta r bg.length
  | 0, bg, r => by
    unfold allP
    rw [List.mem_singleton]
    constructor
    · rintro rfl
      exact ⟨[], by simp, rfl, fun y h1 h2 => by omega⟩
    · rintro ⟨s, h1, h2, _⟩
      rw [List.length_eq_zero_iff.1 h2, List.append_nil] at h1
      exact h1
  | k + 1, bg, r => by
    unfold allP
    rw [List.mem_flatMap]
    constructor
    · rintro ⟨v, hv, h⟩
      by_cases hb : (nextP fa ta bg).testBit v = true
      · rw [if_pos hb] at h
        obtain ⟨s, rfl, h2, h3⟩ := (all_mem fa ta k (bg ++ [v]) r).1 h
        obtain ⟨b1, b2⟩ := (nextQ_bit fa ta bg v _).1 hb
        refine ⟨v :: s, by simp, by simp [h2], fun y hy hl => ?_⟩
        by_cases e : y = bg.length
        · subst e
          have e1 : (bg ++ [v] ++ s).getD bg.length 0 = v := by rw [List.append_assoc]; exact getD_last _ _ _
          rw [e1]
          refine ⟨b1, fun x hx hle => ?_⟩
          rw [show (bg ++ [v] ++ s).getD x 0 = bg.getD x 0 by rw [List.append_assoc]; exact getD_app hx]
          exact b2 x hx hle
        · exact h3 y (by simp; omega) hl
      · rw [if_neg hb] at h
        simp at h
    · rintro ⟨s, rfl, h2, h3⟩
      cases s with
      | nil => simp at h2
      | cons v s =>
        have hv := h3 bg.length (Nat.le_refl _) (by simp)
        rw [getD_last] at hv
        refine ⟨v, List.mem_range.2 hv.1, ?_⟩
        have hb : (nextP fa ta bg).testBit v = true := (nextQ_bit fa ta bg v _).2 ⟨hv.1, fun x hx hl => by
          have := hv.2 x hx hl
          rwa [getD_app hx] at this⟩
        rw [if_pos hb]
        refine (all_mem fa ta k _ _).2 ⟨s, by simp, by simpa using h2, fun y hy hl => h3 y ?_ hl⟩
        simp at hy
        omega
theorem all_sorted (fa ta : List Nat) : ∀ (k : Nat) (bg : List Nat), (allP fa ta k bg).Pairwise fun r s => ∃ p, p < r.length ∧ p < s.length ∧ r.getD p 0 < s.getD p 0 ∧ ∀ x, x < p → r.getD x 0 = s.getD x 0
  | 0, bg => by
    unfold allP
    exact List.pairwise_singleton _ _
  | k + 1, bg => by
    unfold allP
    rw [List.pairwise_flatMap]
    constructor
    · intro v _
      by_cases hb : (nextP fa ta bg).testBit v = true
      · rw [if_pos hb]; exact all_sorted fa ta k _
      · rw [if_neg hb]; exact List.Pairwise.nil
    · refine List.pairwise_lt_range.imp ?_
      intro v u hvu x hx y hy
      by_cases hb : (nextP fa ta bg).testBit v = true
      · by_cases hc : (nextP fa ta bg).testBit u = true
        · rw [if_pos hb] at hx
          rw [if_pos hc] at hy
          obtain ⟨s, rfl, _, _⟩ := (all_mem fa ta k _ _).1 hx
          obtain ⟨t, rfl, _, _⟩ := (all_mem fa ta k _ _).1 hy
          rw [List.append_assoc, List.append_assoc]
          refine ⟨bg.length, by simp, by simp, ?_, fun x hx => by rw [getD_app hx, getD_app hx]⟩
          show (bg ++ v :: s).getD _ 0 < (bg ++ u :: t).getD _ 0
          rw [getD_last, getD_last]
          exact hvu
        · rw [if_neg hc] at hy
          simp at hy
      · rw [if_neg hb] at hx
        simp at hx
theorem under_iff (ta : List Nat) : ∀ (f g : List Nat), underP ta f g = true ↔ f.length = g.length ∧ ∀ x, x < f.length → Le ta (f.getD x 0) (g.getD x 0)
  | [], [] => by simp [underP]
  | [], _ :: _ => by simp [underP]
  | _ :: _, [] => by simp [underP]
  | a :: f, b :: g => by
    have ih := under_iff ta f g
    unfold underP
    rw [Bool.and_eq_true, ih]
    constructor
    · rintro ⟨h1, h2, h3⟩
      refine ⟨by simp [h2], fun x hx => ?_⟩
      cases x with
      | zero => exact h1
      | succ x => exact h3 x (by simpa using hx)
    · rintro ⟨h1, h2⟩
      exact ⟨h2 0 (by simp), by simpa using h1, fun x hx => h2 (x + 1) (by simpa using hx)⟩
theorem great_bit (ta : List Nat) (rs : List (List Nat)) (f g : Nat) : ∀ k, (greatQ ta rs f k).testBit g = true ↔ g < k ∧ f ≤ g ∧ underP ta (rs.getD f []) (rs.getD g []) = true
  | 0 => by simp [greatQ]
  | k + 1 => by
    have ih := great_bit ta rs f g k
    unfold greatQ
    by_cases h : (decide (f ≤ k) && underP ta (rs.getD f []) (rs.getD k [])) = true
    · rw [if_pos h, Nat.testBit_or, Bool.or_eq_true, ih, Nat.testBit_two_pow]
      simp only [Bool.and_eq_true, decide_eq_true_eq] at h ⊢
      constructor
      · rintro (h1 | rfl)
        · exact ⟨by omega, h1.2⟩
        · exact ⟨by omega, h⟩
      · rintro ⟨h1, h2⟩
        by_cases e : k = g
        · exact .inr e
        · exact .inl ⟨by omega, h2⟩
    · rw [if_neg h, ih]
      simp only [Bool.and_eq_true, decide_eq_true_eq] at h
      constructor
      · rintro ⟨h1, h2⟩
        exact ⟨by omega, h2⟩
      · rintro ⟨h1, h2⟩
        by_cases e : k = g
        · subst e; exact absurd h2 h
        · exact ⟨by omega, h2⟩
theorem great_lt (ta : List Nat) (rs : List (List Nat)) (f : Nat) : ∀ k, greatQ ta rs f k < 2 ^ k
  | 0 => by simp [greatQ]
  | k + 1 => by
    have ih := great_lt ta rs f k
    have h2 : 2 ^ k < 2 ^ (k + 1) := Nat.pow_lt_pow_right (by omega) (by omega)
    unfold greatQ
    split
    · exact Nat.or_lt_two_pow (Nat.lt_trans ih h2) h2
    · exact Nat.lt_trans ih h2
theorem fns_len (ta : List Nat) (rs : List (List Nat)) : (fnsP ta rs).length = rs.length := by simp [fnsP]
theorem fns_get (ta : List Nat) (rs : List (List Nat)) {f : Nat} (h : f < rs.length) : (fnsP ta rs).getD f 0 = greatQ ta rs f rs.length := by simp [fnsP, h]
theorem res_mem (fa ta r : List Nat) : r ∈ resP fa ta ↔ r.length = fa.length ∧ (∀ x, x < fa.length → r.getD x 0 < ta.length) ∧ ∀ x y, x < y → y < fa.length → Le fa x y → Le ta (r.getD x 0) (r.getD y 0) := by
  unfold resP
  rw [all_mem]
  constructor
  · rintro ⟨s, rfl, h2, h3⟩
    refine ⟨by simpa using h2, fun x hx => (h3 x (Nat.zero_le _) (by omega)).1, fun x y hx hy hl => (h3 y (Nat.zero_le _) (by omega)).2 x hx hl⟩
  · rintro ⟨h1, h2, h3⟩
    exact ⟨r, rfl, h1, fun y _ hy => ⟨h2 y (by omega), fun x hx hl => h3 x y hx (by omega) hl⟩⟩
theorem fns_le {fa ta : List Nat} (ht : Lat ta) {f g : Nat} : Le (fnsP ta (resP fa ta)) f g ↔ f < (resP fa ta).length ∧ g < (resP fa ta).length ∧ ∀ x, x < fa.length → Le ta (((resP fa ta).getD f []).getD x 0) (((resP fa ta).getD g []).getD x 0) := by
  have hlen : ∀ f, f < (resP fa ta).length → ((resP fa ta).getD f []).length = fa.length := fun f h => by
    have : (resP fa ta).getD f [] ∈ resP fa ta := by rw [List.getD_eq_getElem?_getD, List.getElem?_eq_getElem h]; exact List.getElem_mem h
    exact ((res_mem _ _ _).1 this).1
  constructor
  · intro h
    have h1 := h.lt
    rw [fns_len] at h1
    unfold Le at h
    rw [fns_get _ _ h1] at h
    obtain ⟨h2, h3, h4⟩ := (great_bit _ _ _ _ _).1 h
    obtain ⟨_, h5⟩ := (under_iff _ _ _).1 h4
    rw [hlen f h1] at h5
    exact ⟨h1, h2, h5⟩
  · rintro ⟨h1, h2, h3⟩
    unfold Le
    rw [fns_get _ _ h1]
    refine (great_bit _ _ _ _ _).2 ⟨h2, ?_, (under_iff _ _ _).2 ⟨by rw [hlen f h1, hlen g h2], by rw [hlen f h1]; exact h3⟩⟩
    apply Classical.byContradiction
    intro hn
    have hs := List.pairwise_iff_getElem.1 (all_sorted fa ta fa.length []) g f h2 h1 (by omega)
    obtain ⟨p, q1, q2, q3, _⟩ := hs
    have e1 : (allP fa ta fa.length [])[g] = (resP fa ta).getD g [] := by rw [List.getD_eq_getElem?_getD, List.getElem?_eq_getElem h2]; rfl
    have e2 : (allP fa ta fa.length [])[f] = (resP fa ta).getD f [] := by rw [List.getD_eq_getElem?_getD, List.getElem?_eq_getElem h1]; rfl
    rw [e1] at q1 q3
    rw [e2] at q3
    rw [hlen g h2] at q1
    have := ht.rise _ _ (h3 p q1)
    omega
theorem res_idx {fa ta r : List Nat} (h : r ∈ resP fa ta) : ∃ f, f < (resP fa ta).length ∧ (resP fa ta).getD f [] = r := by
  obtain ⟨i, hi, e⟩ := List.getElem_of_mem h
  exact ⟨i, hi, by rw [List.getD_eq_getElem?_getD, List.getElem?_eq_getElem hi]; exact e⟩
theorem res_in {fa ta : List Nat} {f : Nat} (h : f < (resP fa ta).length) : (resP fa ta).getD f [] ∈ resP fa ta := by
  rw [List.getD_eq_getElem?_getD, List.getElem?_eq_getElem h]
  exact List.getElem_mem h
theorem rep_get {n v x : Nat} (h : x < n) : (List.replicate n v).getD x 0 = v := by simp [h]
theorem fns_lat {fa ta : List Nat} (ht : Lat ta) (hl : (resP fa ta).length ≤ 40) : Lat (fnsP ta (resP fa ta)) := by
  have hle := @fns_le fa ta ht
  have hrep : ∀ v, v < ta.length → List.replicate fa.length v ∈ resP fa ta := fun v hv => (res_mem _ _ _).2 ⟨by simp, fun x hx => by rw [rep_get hx]; exact hv, fun x y hx hy _ => by rw [rep_get (by omega), rep_get hy]; exact ht.refl v hv⟩
  have hval : ∀ f, f < (resP fa ta).length → ∀ x, x < fa.length → ((resP fa ta).getD f []).getD x 0 < ta.length := fun f h x hx => ((res_mem _ _ _).1 (res_in h)).2.1 x hx
  have hrise : ∀ a b, Le (fnsP ta (resP fa ta)) a b → a ≤ b := fun a b h => by
    have h1 := h.lt
    rw [fns_len] at h1
    unfold Le at h
    rw [fns_get _ _ h1] at h
    exact ((great_bit _ _ _ _ _).1 h).2.1
  obtain ⟨z, hz1, hz2⟩ := res_idx (hrep 0 ht.pos)
  obtain ⟨o, ho1, ho2⟩ := res_idx (hrep (ta.length - 1) (by have := ht.pos; omega))
  have hzl : ∀ a, a < (resP fa ta).length → Le (fnsP ta (resP fa ta)) z a := fun a ha => hle.2 ⟨hz1, ha, fun x hx => by rw [hz2, rep_get hx]; exact ht.bot _ (hval a ha x hx)⟩
  have hol : ∀ a, a < (resP fa ta).length → Le (fnsP ta (resP fa ta)) a o := fun a ha => hle.2 ⟨ha, ho1, fun x hx => by rw [ho2, rep_get hx]; exact ht.top _ (hval a ha x hx)⟩
  have hz0 : z = 0 := by have := hrise _ _ (hzl 0 (by omega)); omega
  have hot : o = (resP fa ta).length - 1 := by have := hrise _ _ (hol ((resP fa ta).length - 1) (by omega)); omega
  refine ⟨?_, ?_, ?_, ?_, hrise, ?_, ?_, ?_, ?_⟩
  · rw [fns_len]; omega
  · rw [fns_len]; exact hl
  · intro a b h; rw [fns_len]; exact (hle.1 h).2.1
  · intro a h; rw [fns_len] at h; exact hle.2 ⟨h, h, fun x hx => ht.refl _ (hval a h x hx)⟩
  · intro a b c h k
    obtain ⟨h1, h2, h3⟩ := hle.1 h
    obtain ⟨_, k2, k3⟩ := hle.1 k
    exact hle.2 ⟨h1, k2, fun x hx => ht.trans _ _ _ (h3 x hx) (k3 x hx)⟩
  · intro a h; rw [fns_len] at h; have := hzl a h; rwa [hz0] at this
  · intro a h; rw [fns_len] at h ⊢; have := hol a h; rwa [hot] at this
  · intro a b ha hb
    rw [fns_len] at ha hb
    have hex : ∀ x : Fin fa.length, ∃ j, Le ta (((resP fa ta).getD a []).getD x.1 0) j ∧ Le ta (((resP fa ta).getD b []).getD x.1 0) j ∧ ∀ c, Le ta (((resP fa ta).getD a []).getD x.1 0) c → Le ta (((resP fa ta).getD b []).getD x.1 0) c → Le ta j c := fun x => ht.join _ _ (hval a ha x.1 x.2) (hval b hb x.1 x.2)
    obtain ⟨J, hJ⟩ := Classical.axiomOfChoice hex
    have hg : ∀ x (h : x < fa.length), (List.ofFn J).getD x 0 = J ⟨x, h⟩ := fun x h => by simp [List.getD_eq_getElem?_getD, h]
    have ma := (res_mem _ _ _).1 (res_in ha)
    have mb := (res_mem _ _ _).1 (res_in hb)
    have hmem : List.ofFn J ∈ resP fa ta := (res_mem _ _ _).2 ⟨by simp, fun x hx => by rw [hg x hx]; exact ht.small _ _ (hJ ⟨x, hx⟩).1, fun x y hx hy hl => by
      rw [hg x (by omega), hg y hy]
      exact (hJ ⟨x, by omega⟩).2.2 _ (ht.trans _ _ _ (ma.2.2 x y hx hy hl) (hJ ⟨y, hy⟩).1) (ht.trans _ _ _ (mb.2.2 x y hx hy hl) (hJ ⟨y, hy⟩).2.1)⟩
    obtain ⟨j, hj1, hj2⟩ := res_idx hmem
    refine ⟨j, hle.2 ⟨ha, hj1, fun x hx => ?_⟩, hle.2 ⟨hb, hj1, fun x hx => ?_⟩, fun c h k => hle.2 ⟨hj1, (hle.1 h).2.1, fun x hx => ?_⟩⟩
    · rw [hj2, hg x hx]; exact (hJ ⟨x, hx⟩).1
    · rw [hj2, hg x hx]; exact (hJ ⟨x, hx⟩).2.1
    · rw [hj2, hg x hx]; exact (hJ ⟨x, hx⟩).2.2 _ ((hle.1 h).2.2 x hx) ((hle.1 k).2.2 x hx)
end Go.Proofs.YtgdflaapgfpdeaaGreatDoor
