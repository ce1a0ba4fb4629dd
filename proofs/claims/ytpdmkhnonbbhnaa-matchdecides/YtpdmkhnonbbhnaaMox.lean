/- isLong: slices.ContainsFunc over rows. isDeep, isAbove: patterns that go too deep. -/
import Derived.Test.YtpdmkhnonbbhnaaMlx
namespace Go.Proofs.Ytpdmkhnonbbhnaa
open Go.RowKit Go.Maps

theorem any_idx {α : Type} (p : α → Bool) (l : List α) : l.any p = decide (0 ≤ idx (l.findIdx? p)) := by
  cases h : l.findIdx? p with
  | none =>
    rw [List.findIdx?_eq_none_iff] at h
    have : l.any p = false := by rw [List.any_eq_false]; intro x hx; simp [h x hx]
    rw [this]
    rfl
  | some i =>
    obtain ⟨hi, hp, _⟩ := List.findIdx?_eq_some_iff_getElem.1 h
    have : l.any p = true := List.any_eq_true.2 ⟨_, List.getElem_mem hi, hp⟩
    rw [this]
    simp [idx]
set_option maxHeartbeats 4000000 in
set_option maxRecDepth 10000 in
theorem idxR_30 {w : World} {S : Nat → Prop} (p : List Pt → Bool) (rv : Value) (rows : List (List Pt)) (hR : RowsAt w S rv rows) (hS : ∀ b, S b → b < w.heap.size) (hl : rows.length ≤ 200) (hC : ∀ wr, Below w.heap.size w wr → ∀ i (h : i < rows.length) ad cap, Pats wr S (.slice ad rows[i].length cap) rows[i] → Calls Try.prog 30 #[.slice ad rows[i].length cap] wr fun r w' => r = .returned (.bool (p rows[i])) ∧ Below wr.heap.size wr w') :
    Calls Try.prog 41 #[rv, .func (.func 30) #[] #[]] w fun e w' => e = .returned (.int .i64 (idx (rows.findIdx? p))) ∧ Below w.heap.size w w' := by
  obtain ⟨ad, cc, rfl, hrow⟩ := RowP.open hR
  have HR : Hid (rows ≠ [] → ∃ g o, ad = some ⟨g, o, none⟩ ∧ rows.length ≤ cc ∧ ∀ j (h : j < rows.length), S g ∧ ∃ ad cap, w.cell? ⟨g, o + j * 1, none⟩ = some (.slice ad rows[j].length cap) ∧ Pats w S (.slice ad rows[j].length cap) rows[j]) := hrow
  have HS : Hid (∀ b, S b → b < w.heap.size) := hS
  have HC : Hid (∀ wr, Below w.heap.size w wr → ∀ i (h : i < rows.length) ad cap, Pats wr S (.slice ad rows[i].length cap) rows[i] → Calls Try.prog 30 #[.slice ad rows[i].length cap] wr fun r w' => r = .returned (.bool (p rows[i])) ∧ Below wr.heap.size wr w') := hC
  have HF : Hid (∀ i (h : i < rows.length), (∀ j, j < i → ∀ (hj : j < rows.length), p rows[j] = false) → p rows[i] = true → rows.findIdx? p = some i) := fun i h h1 h2 => by
    rw [List.findIdx?_eq_some_iff_getElem]
    exact ⟨h, h2, fun j hj => by simpa using h1 j hj (by omega)⟩
  have HN : Hid ((∀ j (hj : j < rows.length), p rows[j] = false) → rows.findIdx? p = none) := fun h => by
    rw [List.findIdx?_eq_none_iff]
    intro x hx
    obtain ⟨j, hj, rfl⟩ := List.getElem_of_mem hx
    exact h j hj
  clear hR hrow hS hC
  go_enter Try.func41, Try.ntmps41
  go_wp2
  go_loopw [8] (fun iv wr => ∃ i : Nat, i ≤ rows.length ∧ iv = .int .i64 i ∧ Hid (Below w.heap.size w wr) ∧ Hid (∀ j, j < i → ∀ (hj : j < rows.length), p rows[j] = false)) (fun iv _ => rows.length - (intOf iv).toNat)
  case atStart => exact ⟨0, by omega, by go_num, Below.refl _ _, fun j h => by omega⟩
  case round =>
    obtain ⟨i, hi, rfl, HB, HJ⟩ := hrel
    by_cases hil : i < rows.length
    · obtain ⟨gg, oo, rfl, hcc, hj⟩ := HR.out (fun e => by rw [e] at hil; simp at hil)
      obtain ⟨s0, pd, pc, q0, hp⟩ := hj i hil
      rw [Nat.mul_one] at q0
      have hk := Keeps.of HB.out HS.out
      have q0 := (hk.cell (p := ⟨gg, oo + i, none⟩) s0).trans q0
      have CH := HC.out wr HB.out i hil pd pc (hp.on hk)
      have i1 : (0 : Int) ≤ (i : Int) := by omega
      have i2 : (i : Int) < (rows.length : Int) := by omega
      have HT : Hid (p rows[i] = true → rows.findIdx? p = some i) := HF.out i hil HJ.out
      have HE : Hid (p rows[i] = false → ∀ j, j < i + 1 → ∀ (hj : j < rows.length), p rows[j] = false) := fun h j hj hjl => by
        by_cases e : j = i
        · subst e; exact h
        · exact HJ.out j (by omega) hjl
      clear hj hp hk
      generalize p rows[i] = R at *
      generalize rows[i].length = rl at *
      cases R with
      | true =>
        have HT2 : Hid (rows.findIdx? p = some i) := HT.out rfl
        go_wp2_with (go_at_call 30; (with_reducible refine Calls.mono CH ?_); rintro e' w1 ⟨rfl, hb1⟩)
        go_ret
        exact ⟨by rw [HT2.out]; rfl, HB.out.trans (hb1.mono HB.out.size)⟩
      | false =>
        have HE2 : Hid (∀ j, j < i + 1 → ∀ (hj : j < rows.length), p rows[j] = false) := HE.out rfl
        go_wp2_with (go_at_call 30; (with_reducible refine Calls.mono CH ?_); rintro e' w1 ⟨rfl, hb1⟩)
        go_roundw
        case rel => exact ⟨i + 1, hil, by go_num, HB.out.trans (hb1.mono HB.out.size), HE2.out⟩
        case measure => simp [intOf]; omega
    · have HT2 : Hid (rows.findIdx? p = none) := HN.out (fun j hj => HJ.out j (by omega) hj)
      go_wp2
      go_ret
      exact ⟨by rw [HT2.out]; rfl, HB.out⟩
set_option maxHeartbeats 4000000 in
set_option maxRecDepth 10000 in
theorem hasR_30 {w : World} {S : Nat → Prop} (p : List Pt → Bool) (rv : Value) (rows : List (List Pt)) (hR : RowsAt w S rv rows) (hS : ∀ b, S b → b < w.heap.size) (hl : rows.length ≤ 200) (hC : ∀ wr, Below w.heap.size w wr → ∀ i (h : i < rows.length) ad cap, Pats wr S (.slice ad rows[i].length cap) rows[i] → Calls Try.prog 30 #[.slice ad rows[i].length cap] wr fun r w' => r = .returned (.bool (p rows[i])) ∧ Below wr.heap.size wr w') :
    Calls Try.prog 29 #[rv, .func (.func 30) #[] #[]] w fun e w' => e = .returned (.bool (rows.any p)) ∧ Below w.heap.size w w' := by
  have CI := idxR_30 p rv rows hR hS hl hC
  have HE : Hid (rows.any p = decide (0 ≤ idx (rows.findIdx? p))) := any_idx p rows
  clear hR hS hC
  generalize idx (rows.findIdx? p) = ix at *
  go_enter Try.func29, Try.ntmps29
  go_wp2_with (go_at_call 41; (with_reducible refine Calls.mono CI ?_); rintro e' w1 ⟨rfl, hb1⟩)
  go_ret
  refine ⟨?_, hb1⟩
  rw [HE.out]
  rfl
set_option maxHeartbeats 4000000 in
set_option maxRecDepth 10000 in
theorem idxR_36 {w : World} {S : Nat → Prop} (p : List Pt → Bool) (rv : Value) (rows : List (List Pt)) (hR : RowsAt w S rv rows) (hS : ∀ b, S b → b < w.heap.size) (hl : rows.length ≤ 200) (hC : ∀ wr, Below w.heap.size w wr → ∀ i (h : i < rows.length) ad cap, Pats wr S (.slice ad rows[i].length cap) rows[i] → Calls Try.prog 36 #[.slice ad rows[i].length cap] wr fun r w' => r = .returned (.bool (p rows[i])) ∧ Below wr.heap.size wr w') :
    Calls Try.prog 41 #[rv, .func (.func 36) #[] #[]] w fun e w' => e = .returned (.int .i64 (idx (rows.findIdx? p))) ∧ Below w.heap.size w w' := by
  obtain ⟨ad, cc, rfl, hrow⟩ := RowP.open hR
  have HR : Hid (rows ≠ [] → ∃ g o, ad = some ⟨g, o, none⟩ ∧ rows.length ≤ cc ∧ ∀ j (h : j < rows.length), S g ∧ ∃ ad cap, w.cell? ⟨g, o + j * 1, none⟩ = some (.slice ad rows[j].length cap) ∧ Pats w S (.slice ad rows[j].length cap) rows[j]) := hrow
  have HS : Hid (∀ b, S b → b < w.heap.size) := hS
  have HC : Hid (∀ wr, Below w.heap.size w wr → ∀ i (h : i < rows.length) ad cap, Pats wr S (.slice ad rows[i].length cap) rows[i] → Calls Try.prog 36 #[.slice ad rows[i].length cap] wr fun r w' => r = .returned (.bool (p rows[i])) ∧ Below wr.heap.size wr w') := hC
  have HF : Hid (∀ i (h : i < rows.length), (∀ j, j < i → ∀ (hj : j < rows.length), p rows[j] = false) → p rows[i] = true → rows.findIdx? p = some i) := fun i h h1 h2 => by
    rw [List.findIdx?_eq_some_iff_getElem]
    exact ⟨h, h2, fun j hj => by simpa using h1 j hj (by omega)⟩
  have HN : Hid ((∀ j (hj : j < rows.length), p rows[j] = false) → rows.findIdx? p = none) := fun h => by
    rw [List.findIdx?_eq_none_iff]
    intro x hx
    obtain ⟨j, hj, rfl⟩ := List.getElem_of_mem hx
    exact h j hj
  clear hR hrow hS hC
  go_enter Try.func41, Try.ntmps41
  go_wp2
  go_loopw [8] (fun iv wr => ∃ i : Nat, i ≤ rows.length ∧ iv = .int .i64 i ∧ Hid (Below w.heap.size w wr) ∧ Hid (∀ j, j < i → ∀ (hj : j < rows.length), p rows[j] = false)) (fun iv _ => rows.length - (intOf iv).toNat)
  case atStart => exact ⟨0, by omega, by go_num, Below.refl _ _, fun j h => by omega⟩
  case round =>
    obtain ⟨i, hi, rfl, HB, HJ⟩ := hrel
    by_cases hil : i < rows.length
    · obtain ⟨gg, oo, rfl, hcc, hj⟩ := HR.out (fun e => by rw [e] at hil; simp at hil)
      obtain ⟨s0, pd, pc, q0, hp⟩ := hj i hil
      rw [Nat.mul_one] at q0
      have hk := Keeps.of HB.out HS.out
      have q0 := (hk.cell (p := ⟨gg, oo + i, none⟩) s0).trans q0
      have CH := HC.out wr HB.out i hil pd pc (hp.on hk)
      have i1 : (0 : Int) ≤ (i : Int) := by omega
      have i2 : (i : Int) < (rows.length : Int) := by omega
      have HT : Hid (p rows[i] = true → rows.findIdx? p = some i) := HF.out i hil HJ.out
      have HE : Hid (p rows[i] = false → ∀ j, j < i + 1 → ∀ (hj : j < rows.length), p rows[j] = false) := fun h j hj hjl => by
        by_cases e : j = i
        · subst e; exact h
        · exact HJ.out j (by omega) hjl
      clear hj hp hk
      generalize p rows[i] = R at *
      generalize rows[i].length = rl at *
      cases R with
      | true =>
        have HT2 : Hid (rows.findIdx? p = some i) := HT.out rfl
        go_wp2_with (go_at_call 36; (with_reducible refine Calls.mono CH ?_); rintro e' w1 ⟨rfl, hb1⟩)
        go_ret
        exact ⟨by rw [HT2.out]; rfl, HB.out.trans (hb1.mono HB.out.size)⟩
      | false =>
        have HE2 : Hid (∀ j, j < i + 1 → ∀ (hj : j < rows.length), p rows[j] = false) := HE.out rfl
        go_wp2_with (go_at_call 36; (with_reducible refine Calls.mono CH ?_); rintro e' w1 ⟨rfl, hb1⟩)
        go_roundw
        case rel => exact ⟨i + 1, hil, by go_num, HB.out.trans (hb1.mono HB.out.size), HE2.out⟩
        case measure => simp [intOf]; omega
    · have HT2 : Hid (rows.findIdx? p = none) := HN.out (fun j hj => HJ.out j (by omega) hj)
      go_wp2
      go_ret
      exact ⟨by rw [HT2.out]; rfl, HB.out⟩
set_option maxHeartbeats 4000000 in
set_option maxRecDepth 10000 in
theorem hasR_36 {w : World} {S : Nat → Prop} (p : List Pt → Bool) (rv : Value) (rows : List (List Pt)) (hR : RowsAt w S rv rows) (hS : ∀ b, S b → b < w.heap.size) (hl : rows.length ≤ 200) (hC : ∀ wr, Below w.heap.size w wr → ∀ i (h : i < rows.length) ad cap, Pats wr S (.slice ad rows[i].length cap) rows[i] → Calls Try.prog 36 #[.slice ad rows[i].length cap] wr fun r w' => r = .returned (.bool (p rows[i])) ∧ Below wr.heap.size wr w') :
    Calls Try.prog 29 #[rv, .func (.func 36) #[] #[]] w fun e w' => e = .returned (.bool (rows.any p)) ∧ Below w.heap.size w w' := by
  have CI := idxR_36 p rv rows hR hS hl hC
  have HE : Hid (rows.any p = decide (0 ≤ idx (rows.findIdx? p))) := any_idx p rows
  clear hR hS hC
  generalize idx (rows.findIdx? p) = ix at *
  go_enter Try.func29, Try.ntmps29
  go_wp2_with (go_at_call 41; (with_reducible refine Calls.mono CI ?_); rintro e' w1 ⟨rfl, hb1⟩)
  go_ret
  refine ⟨?_, hb1⟩
  rw [HE.out]
  rfl
set_option maxHeartbeats 4000000 in
set_option maxRecDepth 10000 in
theorem wide_any (w : World) (ad : Option Addr) (n cap : Nat) : Calls Try.prog 30 #[.slice ad n cap] w fun r w' => r = .returned (.bool (decide (16 < n))) ∧ Below w.heap.size w w' := by
  by_cases h : 16 < n
  · have h1 : (16 : Int) < (n : Int) := by omega
    go_enter Try.func30, Try.ntmps30
    go_wp2
    go_ret
    exact ⟨by simp [h], Below.refl _ _⟩
  · have h1 : ¬ (16 : Int) < (n : Int) := by omega
    go_enter Try.func30, Try.ntmps30
    go_wp2
    go_ret
    exact ⟨by simp, Below.refl _ _⟩
def longP (rows : List (List Pt)) : Bool := decide (200 < rows.length) || rows.any fun r => decide (16 < r.length)
set_option maxHeartbeats 4000000 in
set_option maxRecDepth 10000 in
theorem long_any {w : World} {S : Nat → Prop} (rv : Value) (rows : List (List Pt)) (hR : RowsAt w S rv rows) (hS : ∀ b, S b → b < w.heap.size) : Calls Try.prog 17 #[rv] w fun e w' => e = .returned (.bool (longP rows)) ∧ Below w.heap.size w w' := by
  unfold longP
  obtain ⟨ad, cap, hv⟩ := hR.len
  by_cases h : 200 < rows.length
  · subst hv
    have h1 : (200 : Int) < (rows.length : Int) := by omega
    have HE : Hid ((decide (200 < rows.length) || rows.any fun r => decide (16 < r.length)) = true) := by simp [Hid, h]
    clear hR h
    go_enter Try.func17, Try.ntmps17
    go_wp2
    go_ret
    exact ⟨by rw [HE.out]; rfl, Below.refl _ _⟩
  · have CH := hasR_30 (w := w) (fun r => decide (16 < r.length)) rv rows hR hS (by omega) (fun wr _ i h ad cap _ => wide_any wr ad _ cap)
    subst hv
    have h1 : ¬ (200 : Int) < (rows.length : Int) := by omega
    have HE : Hid ((decide (200 < rows.length) || rows.any fun r => decide (16 < r.length)) = rows.any fun r => decide (16 < r.length)) := by
      show _ = _
      rw [decide_eq_false h, Bool.false_or]
    clear hR h
    generalize (rows.any fun r => decide (16 < r.length)) = R at *
    go_enter Try.func17, Try.ntmps17
    go_wp2_with (go_at_call 29; (with_reducible refine Calls.mono CH ?_); rintro e' w1 ⟨rfl, hb1⟩)
    go_ret
    exact ⟨by rw [HE.out]; rfl, hb1⟩
end Go.Proofs.Ytpdmkhnonbbhnaa

namespace Go.Proofs.Ytpdmkhnonbbhnaa
open Go.RowKit Go.Maps

set_option maxHeartbeats 4000000 in
set_option maxRecDepth 10000 in
theorem idxP {w : World} {S : Nat → Prop} (p : Pt → Bool) (Lb : Nat) (rv : Value) (rows : List Pt) (hR : Pats w S rv rows) (hS : ∀ b, S b → b < w.heap.size) (hl : rows.length < 140737488355328) (hC : ∀ wr, Below w.heap.size w wr → ∀ i (h : i < rows.length) ad cap, Pats wr S (.slice ad rows[i].kids.length cap) rows[i].kids → rows[i].kids.length < 140737488355328 → Calls Try.prog 54 #[.agg #[.int .i64 rows[i].kind, .string ⟨rows[i].name.toArray⟩, .int .i64 rows[i].num, .slice ad rows[i].kids.length cap], .pointer (some ⟨Lb, 0, none⟩)] wr fun r w' => r = .returned (.bool (p rows[i])) ∧ Below wr.heap.size wr w') :
    Calls Try.prog 71 #[rv, .func (.func 54) #[] #[.pointer (some ⟨Lb, 0, none⟩)]] w fun e w' => e = .returned (.int .i64 (idx (rows.findIdx? p))) ∧ Below w.heap.size w w' := by
  obtain ⟨ad, cc, rfl, hrow⟩ := RowP.open hR
  have HR : Hid (rows ≠ [] → ∃ g o, ad = some ⟨g, o, none⟩ ∧ rows.length ≤ cc ∧ ∀ j (h : j < rows.length), PtP w S g (o + j * 4) rows[j]) := hrow
  have HS : Hid (∀ b, S b → b < w.heap.size) := hS
  have HC : Hid (∀ wr, Below w.heap.size w wr → ∀ i (h : i < rows.length) ad cap, Pats wr S (.slice ad rows[i].kids.length cap) rows[i].kids → rows[i].kids.length < 140737488355328 → Calls Try.prog 54 #[.agg #[.int .i64 rows[i].kind, .string ⟨rows[i].name.toArray⟩, .int .i64 rows[i].num, .slice ad rows[i].kids.length cap], .pointer (some ⟨Lb, 0, none⟩)] wr fun r w' => r = .returned (.bool (p rows[i])) ∧ Below wr.heap.size wr w') := hC
  have HF : Hid (∀ i (h : i < rows.length), (∀ j, j < i → ∀ (hj : j < rows.length), p rows[j] = false) → p rows[i] = true → rows.findIdx? p = some i) := fun i h h1 h2 => by
    rw [List.findIdx?_eq_some_iff_getElem]
    exact ⟨h, h2, fun j hj => by simpa using h1 j hj (by omega)⟩
  have HN : Hid ((∀ j (hj : j < rows.length), p rows[j] = false) → rows.findIdx? p = none) := fun h => by
    rw [List.findIdx?_eq_none_iff]
    intro x hx
    obtain ⟨j, hj, rfl⟩ := List.getElem_of_mem hx
    exact h j hj
  clear hR hrow hS hC
  go_enter Try.func71, Try.ntmps71
  go_wp2
  go_loopw [8] (fun iv wr => ∃ i : Nat, i ≤ rows.length ∧ iv = .int .i64 i ∧ Hid (Below w.heap.size w wr) ∧ Hid (∀ j, j < i → ∀ (hj : j < rows.length), p rows[j] = false)) (fun iv _ => rows.length - (intOf iv).toNat)
  case atStart => exact ⟨0, by omega, by go_num, Below.refl _ _, fun j h => by omega⟩
  case round =>
    obtain ⟨i, hi, rfl, HB, HJ⟩ := hrel
    by_cases hil : i < rows.length
    · obtain ⟨gg, oo, rfl, hcc, hj⟩ := HR.out (fun e => by rw [e] at hil; simp at hil)
      have hk := Keeps.of HB.out HS.out
      obtain ⟨s0, q0, q1, q2, _, hkl, pd, pc, q3, hp⟩ := ((hj i hil).on hk).open
      have CH := HC.out wr HB.out i hil pd pc hp hkl
      have i1 : (0 : Int) ≤ (i : Int) := by omega
      have i2 : (i : Int) < (rows.length : Int) := by omega
      have HT : Hid (p rows[i] = true → rows.findIdx? p = some i) := HF.out i hil HJ.out
      have HE : Hid (p rows[i] = false → ∀ j, j < i + 1 → ∀ (hj : j < rows.length), p rows[j] = false) := fun h j hj hjl => by
        by_cases e : j = i
        · subst e; exact h
        · exact HJ.out j (by omega) hjl
      clear hj hp hk hkl
      generalize p rows[i] = R at *
      generalize rows[i].kids.length = rl at *
      generalize rows[i].kind = k0 at *
      generalize rows[i].name = k1 at *
      generalize rows[i].num = k2 at *
      cases R with
      | true =>
        have HT2 : Hid (rows.findIdx? p = some i) := HT.out rfl
        go_wp2_with (go_at_call 54; (with_reducible refine Calls.mono CH ?_); rintro e' w1 ⟨rfl, hb1⟩)
        go_ret
        exact ⟨by rw [HT2.out]; rfl, HB.out.trans (hb1.mono HB.out.size)⟩
      | false =>
        have HE2 : Hid (∀ j, j < i + 1 → ∀ (hj : j < rows.length), p rows[j] = false) := HE.out rfl
        go_wp2_with (go_at_call 54; (with_reducible refine Calls.mono CH ?_); rintro e' w1 ⟨rfl, hb1⟩)
        go_roundw
        case rel => exact ⟨i + 1, hil, by go_num, HB.out.trans (hb1.mono HB.out.size), HE2.out⟩
        case measure => simp [intOf]; omega
    · have HT2 : Hid (rows.findIdx? p = none) := HN.out (fun j hj => HJ.out j (by omega) hj)
      go_wp2
      go_ret
      exact ⟨by rw [HT2.out]; rfl, HB.out⟩
def AboveC (l : Nat) : Prop := ∀ (w : World) (S : Nat → Prop) (v : Value) (pats : List Pt), Pats w S v pats → (∀ b, S b → b < w.heap.size) → pats.length < 140737488355328 → Calls Try.prog 37 #[v, .int .i64 l] w fun r w' => r = .returned (.bool (pats.any (above l))) ∧ Below w.heap.size w w'
set_option maxHeartbeats 4000000 in
set_option maxRecDepth 10000 in
theorem above_at {l : Nat} (hl : l ≤ 1000) (hA : ∀ l', l = l' + 1 → AboveC l') {w : World} {S : Nat → Prop} (hS : ∀ b, S b → b < w.heap.size) (Lb : Nat) (p : Pt) (ad : Option Addr) (cap : Nat) (hLb : Lb < w.heap.size) (hc : w.cell? ⟨Lb, 0, none⟩ = some (.int .i64 l)) (hp : Pats w S (.slice ad p.kids.length cap) p.kids) (hk : p.kids.length < 140737488355328) :
    Calls Try.prog 54 #[.agg #[.int .i64 p.kind, .string ⟨p.name.toArray⟩, .int .i64 p.num, .slice ad p.kids.length cap], .pointer (some ⟨Lb, 0, none⟩)] w fun r w' => r = .returned (.bool (above l p)) ∧ Below w.heap.size w w' := by
  have hW : ∃ W, W = w.alloc (Obj.cells #[.int .i64 p.kind, .string ⟨p.name.toArray⟩, .int .i64 p.num, .slice ad p.kids.length cap] 39) ∧ Below w.heap.size w W ∧ W.heap.size = w.heap.size + 1 ∧ W.cell? ⟨w.heap.size, 0, none⟩ = some (.int .i64 p.kind) ∧ W.cell? ⟨w.heap.size, 3, none⟩ = some (.slice ad p.kids.length cap) := ⟨_, rfl, (Below.refl _ _).alloc (Nat.le_refl _) _, by simp, heap_cell' (new_block' w _) rfl, heap_cell' (new_block' w _) rfl⟩
  obtain ⟨W, hW, hbW, hsW, d0, d3⟩ := hW
  have hc := (hbW.cell (p := ⟨Lb, 0, none⟩) hLb).trans hc
  have HB : Hid (Below w.heap.size w W) := hbW
  cases l with
  | zero =>
    clear hbW hsW hp
    have HE : Hid (above 0 p = true) := rfl
    generalize above 0 p = R at *
    generalize p.kids.length = kl at *
    generalize p.kind = k0 at *
    generalize p.name = k1 at *
    generalize p.num = k2 at *
    go_enter Try.func54, Try.ntmps54
    go_upto_region 1 with fail
    rw [← hW]
    clear hW
    go_wp2
    go_ret
    exact ⟨by rw [HE.out]; rfl, HB.out⟩
  | succ l =>
    have CA := hA l rfl W S _ _ (hp.on (Keeps.of hbW hS)) (fun b hb => by have := hS b hb; omega) hk
    have HE : Hid (above (l + 1) p = (p.kind == 4 && p.kids.any (above l))) := rfl
    generalize above (l + 1) p = R at *
    have e0 : (((l : Int) + 1) == 0) = false := by
      rw [beq_eq_false_iff_ne]
      omega
    have hc : W.cell? ⟨Lb, 0, none⟩ = some (.int .i64 ((l : Int) + 1)) := hc
    have hl1 : (((l : Int) + 1) - 1) = (l : Int) := by omega
    clear hbW hsW hp
    generalize p.kids.any (above l) = R2 at *
    generalize p.kids.length = kl at *
    generalize p.name = k1 at *
    generalize p.num = k2 at *
    by_cases h4 : p.kind = 4
    · have HE2 : Hid (R = R2) := by
        show _ = _
        have := HE.out
        rw [h4] at this
        simpa using this
      clear HE
      generalize p.kind = k0 at *
      subst h4
      go_enter Try.func54, Try.ntmps54
      go_upto_region 1 with fail
      rw [← hW]
      clear hW
      go_wp2_with (go_at_call 37; (with_reducible refine Calls.mono CA ?_); rintro e' w1 ⟨rfl, hb1⟩)
      go_ret
      exact ⟨by rw [HE2.out]; rfl, HB.out.trans (hb1.mono HB.out.size)⟩
    · have HE2 : Hid (R = false) := by
        show _ = _
        have := HE.out
        rw [show (p.kind == 4) = false by simpa using h4] at this
        simpa using this
      clear HE
      have e4 : (p.kind == 4) = false := by simpa using h4
      generalize p.kind = k0 at *
      go_enter Try.func54, Try.ntmps54
      go_upto_region 1 with fail
      rw [← hW]
      clear hW
      go_wp2
      go_ret
      exact ⟨by rw [HE2.out]; simp, HB.out⟩
set_option maxHeartbeats 4000000 in
set_option maxRecDepth 10000 in
theorem hasP {w : World} (Lb : Nat) (rv : Value) (R : Bool) (ix : Int) (hE : R = decide (0 ≤ ix)) (CI : Calls Try.prog 71 #[rv, .func (.func 54) #[] #[.pointer (some ⟨Lb, 0, none⟩)]] w fun e w' => e = .returned (.int .i64 ix) ∧ Below w.heap.size w w') : Calls Try.prog 53 #[rv, .func (.func 54) #[] #[.pointer (some ⟨Lb, 0, none⟩)]] w fun e w' => e = .returned (.bool R) ∧ Below w.heap.size w w' := by
  have HE : Hid (R = decide (0 ≤ ix)) := hE
  clear hE
  go_enter Try.func53, Try.ntmps53
  go_wp2_with (go_at_call 71; (with_reducible refine Calls.mono CI ?_); rintro e' w1 ⟨rfl, hb1⟩)
  go_ret
  refine ⟨?_, hb1⟩
  rw [HE.out]
  rfl
set_option maxHeartbeats 4000000 in
set_option maxRecDepth 10000 in
theorem above_step {l : Nat} (hl : l ≤ 1000) (hA : ∀ l', l = l' + 1 → AboveC l') : AboveC l := by
  intro w S v pats hp hS hlen
  obtain ⟨ad, cap, hv⟩ := hp.len
  have hW : ∃ W, W = w.alloc (Obj.cells #[.int .i64 l] 3) ∧ Below w.heap.size w W ∧ W.heap.size = w.heap.size + 1 ∧ W.cell? ⟨w.heap.size, 0, none⟩ = some (.int .i64 l) := ⟨_, rfl, (Below.refl _ _).alloc (Nat.le_refl _) _, by simp, heap_cell' (new_block' w _) rfl⟩
  obtain ⟨W, hW, hbW, hsW, d0⟩ := hW
  have hSW : ∀ b, S b → b < W.heap.size := fun b hb => by have := hS b hb; omega
  have CI := hasP w.heap.size v (pats.any (above l)) _ (any_idx _ _) (idxP (w := W) (above l) w.heap.size v pats (hp.on (Keeps.of hbW hS)) hSW hlen (fun wr hbr i h ad cap hpp hk => above_at hl hA (fun b hb => Nat.lt_of_lt_of_le (hSW b hb) hbr.size) w.heap.size _ ad cap (by have := hbr.size; omega) ((hbr.cell (p := ⟨w.heap.size, 0, none⟩) (by show w.heap.size < _; omega)).trans d0) hpp hk))
  have HB : Hid (Below w.heap.size w W) := hbW
  subst hv
  clear hp hbW hsW hSW d0
  generalize pats.any (above l) = R at *
  generalize pats.length = n at *
  go_enter Try.func37, Try.ntmps37
  go_upto_region 1 with fail
  rw [← hW]
  clear hW
  go_wp2_with (go_at_call 53; (with_reducible refine Calls.mono CI ?_); rintro e' w1 ⟨rfl, hb1⟩)
  go_ret
  exact ⟨rfl, HB.out.trans (hb1.mono HB.out.size)⟩
theorem above_any : ∀ l, l ≤ 1000 → AboveC l
  | 0, h => above_step h fun _ e => by omega
  | l + 1, h => above_step h fun l' e => by
    obtain rfl : l' = l := by omega
    exact above_any l' (by omega)
set_option maxHeartbeats 4000000 in
set_option maxRecDepth 10000 in
theorem deep_any {w : World} {S : Nat → Prop} (rv : Value) (rows : List (List Pt)) (hR : RowsAt w S rv rows) (hS : ∀ b, S b → b < w.heap.size) (hl : rows.length ≤ 200) (hl2 : ∀ r ∈ rows, r.length ≤ 16) : Calls Try.prog 23 #[rv] w fun e w' => e = .returned (.bool (deepP rows)) ∧ Below w.heap.size w w' := by
  have CH := hasR_36 (w := w) (fun r => r.any (above 1000)) rv rows hR hS hl (fun wr hb i h ad cap hp => by
    have CA := above_any 1000 (by omega) wr S _ _ hp (fun b hb2 => Nat.lt_of_lt_of_le (hS b hb2) hb.size) (by have := hl2 _ (List.getElem_mem h); omega)
    generalize rows[i].any (above 1000) = R at *
    generalize rows[i].length = n at *
    go_enter Try.func36, Try.ntmps36
    go_wp2_with (go_at_call 37; (with_reducible refine Calls.mono CA ?_); rintro e' w1 ⟨rfl, hb1⟩)
    go_ret
    exact ⟨rfl, hb1⟩)
  unfold deepP
  obtain ⟨ad, cap, hv⟩ := hR.len
  subst hv
  clear hR
  generalize (rows.any fun r => r.any (above 1000)) = R at *
  generalize rows.length = n at *
  go_enter Try.func23, Try.ntmps23
  go_wp2_with (go_at_call 29; (with_reducible refine Calls.mono CH ?_); rintro e' w1 ⟨rfl, hb1⟩)
  go_ret
  exact ⟨rfl, hb1⟩
end Go.Proofs.Ytpdmkhnonbbhnaa
