/- Rows of one cell each; slices.Grow of nothing; slices.Concat. slices.Grow and slices.Concat of columns. -/
import Derived.Test.YtpdmkhnonbbhnaaMex
import Derived.Lib.AppendZeros
import Derived.Laws.AppendOwnNone
namespace Go.Proofs.Ytpdmkhnonbbhnaa
open Go.RowKit Go.Maps

/-- The slice v holds these values. -/
def Vals (w : World) (S : Nat → Prop) (v : Value) (l : List Value) : Prop := RowP 1 (fun g o x => S g ∧ w.cell? ⟨g, o, none⟩ = some x) v l
theorem Vals.on {w w' : World} {S : Nat → Prop} {v : Value} {l : List Value} (h : Vals w S v l) (hb : Keeps S w w') : Vals w' S v l := h.mono fun g o _ _ ⟨h0, h1⟩ => ⟨h0, (hb.cell (p := ⟨g, o, none⟩) h0).trans h1⟩
theorem Try.info3 : (Try.prog.info? 3).map (fun i => (i.zero, i.size, i.bytes)) = some (some (.int .i64 0), 1, 8) := by kernel_rfl
set_option maxHeartbeats 4000000 in
set_option maxRecDepth 10000 in
theorem growI (n : Nat) (hn : n ≤ 1000000) (w : World) : Calls Try.prog 78 #[.slice none 0 0, .int .i64 n] w fun r w' => ∃ v, r = .returned v ∧ w'.ownsRow w.heap.size 3 1 v 0 [] ∧ Below w.heap.size w w' := by
  by_cases h0 : n = 0
  · subst h0
    go_enter Try.func78, Try.ntmps78
    go_wp2
    go_ret
    exact ⟨_, rfl, World.ownsRow_nil _ _ _ _, Below.refl _ _⟩
  · obtain ⟨i0, hi, hz0, hz1, hz2⟩ := info_parts Try.info3
    have hr := Lib.run_append_nil_zeros (P := Try.prog) w 28 3 28 3 i0 _ .i64 .i64 Try.underlying28 Try.underlying3 hi hz0 n (by omega) (by rw [hz1]; omega) (by omega) (by rw [hz2]; omega)
    have hcap : n ≤ grownCap w n 0 3 := grownCap_ge w n 0 3
    have hcm : grownCap w n 0 3 ≤ maxLen := grownCap_le_maxLen w n 0 3 (by unfold maxLen; omega)
    generalize grownCap w n 0 3 = cap at *
    have hp : (0 : Int) < (n : Int) := by omega
    have HE : Hid ((w.drew.alloc (.cells (Builtin.zeroCells (Value.int .i64 0).cells n ++ Builtin.zeroCells (Value.int .i64 0).cells (cap - n)) 3)).ownsRow w.heap.size 3 1 (.slice (some ⟨w.heap.size, 0, none⟩) 0 cap) 0 []) := by
      refine ⟨by simp, .inr ⟨w.heap.size, cap, _, rfl, Nat.le_refl _, new_block w.drew _, by omega, hcm, ?_, by simp⟩⟩
      simp [Builtin.zeroCells, Value.cells]
      omega
    have HB : Hid (Below w.heap.size w (w.drew.alloc (.cells (Builtin.zeroCells (Value.int .i64 0).cells n ++ Builtin.zeroCells (Value.int .i64 0).cells (cap - n)) 3))) := (Below.refl _ _).drew.alloc (Nat.le_refl _) _
    generalize w.drew.alloc (.cells (Builtin.zeroCells (Value.int .i64 0).cells n ++ Builtin.zeroCells (Value.int .i64 0).cells (cap - n)) 3) = W2 at *
    have hw1 : IntKind.i64.wrap (n : Int) = n := by rw [IntKind.wrap_i64]; omega
    have hc0 : (0 : Int) ≤ (cap : Int) := by omega
    clear hcap hcm hz0 hz1 hz2
    go_enter Try.func78, Try.ntmps78
    go_wp2_with (at_builtin; refine Lib.wpList_append_run _ rfl _ _ 28 3 rfl _ _ rfl rfl _ _ hr ?_)
    go_ret
    exact ⟨_, rfl, HE.out, HB.out⟩
theorem append_empty {w : World} {base t ty e n size : Nat} {i : TypeInfo} (ht : Try.prog.underlying t = some (.slice e)) (hi : Try.prog.info? e = some i) {v : Value} {xs : List Value} (hown : w.ownsRow base e size v n xs) (ad : Option Addr) (c : Nat) :
    (Builtin.append_ #[t, t] ty #[v, .slice ad 0 c]).run Try.prog w = .ok v w := by
  have hld : ∀ a, (loadCells a 0).run Try.prog w = .ok #[] w := fun a => by simp [loadCells, loadCellsFrom]
  rcases hown.2 with ⟨rfl, rfl⟩ | ⟨g, cap, cur, rfl, _, _, hnc, _⟩
  · cases ad <;> simp [hld, Builtin.append_, run_underlying ht, sizeOf, typeInfo, hi, Builtin.lenOf, Builtin.firstCells]
  · cases ad <;> simp [hld, Builtin.append_, run_underlying ht, sizeOf, typeInfo, hi, Builtin.lenOf, Builtin.firstCells, hnc, storeCells]
def total (xs : List (Value × List Value)) : Nat := (xs.map fun x => x.2.length).sum
theorem total_take (xs : List (Value × List Value)) (i : Nat) (h : i < xs.length) : total (xs.take (i + 1)) = total (xs.take i) + xs[i].2.length := by
  unfold total
  rw [List.take_add_one, List.getElem?_eq_getElem h, List.map_append]
  simp
theorem total_le (xs : List (Value × List Value)) (i : Nat) : total (xs.take i) ≤ total xs := by
  unfold total
  conv => rhs; rw [← List.take_append_drop i xs, List.map_append, List.sum_append]
  omega
theorem total_flat (xs : List (Value × List Value)) : (xs.flatMap (·.2)).length = total xs := by
  simp [total, List.length_flatMap]
set_option maxHeartbeats 4000000 in
set_option maxRecDepth 10000 in
theorem concatI (xs : List (Value × List Value)) (A : Nat) (S : Nat → Prop) (w : World) (hS : ∀ b, S b → b < w.heap.size) (hA : A < w.heap.size) (hc : ∀ i (h : i < xs.length), w.cell? ⟨A, i, none⟩ = some xs[i].1) (hV : ∀ x ∈ xs, Vals w S x.1 x.2 ∧ ∀ u ∈ x.2, u.oneCell' = true) (hx : xs.length ≤ 10) (ht : total xs ≤ 100000) :
    Calls Try.prog 67 #[.slice (some ⟨A, 0, none⟩) xs.length xs.length] w fun r w' => ∃ v, r = .returned v ∧ w'.ownsRow w.heap.size 3 1 v (total xs) (xs.flatMap (·.2)) ∧ Below w.heap.size w w' := by
  have HS : Hid (∀ b, S b → b < w.heap.size) := hS
  have HV : Hid (∀ x ∈ xs, Vals w S x.1 x.2 ∧ ∀ u ∈ x.2, u.oneCell' = true) := hV
  have HCC : Hid (∀ i (h : i < xs.length), w.cell? ⟨A, i, none⟩ = some xs[i].1) := hc
  clear hS hV hc
  go_enter Try.func67, Try.ntmps67
  go_wp2
  go_loopw [3, 11] (fun sv iv wr => ∃ i : Nat, i ≤ xs.length ∧ iv = .int .i64 i ∧ sv = .int .i64 (total (xs.take i) : Nat) ∧ wr = w) (fun _ iv _ => xs.length - (intOf iv).toNat)
  case atStart => exact ⟨0, by omega, by go_num, rfl, rfl⟩
  case round =>
    obtain ⟨i, hi, rfl, rfl, rfl⟩ := hrel
    by_cases hil : i < xs.length
    · have q := HCC.out i hil
      obtain ⟨ad, cap, hv⟩ := (HV.out xs[i] (List.getElem_mem hil)).1.len
      rw [hv] at q
      have i1 : (0 : Int) ≤ (i : Int) := by omega
      have i2 : (i : Int) < (xs.length : Int) := by omega
      have ht1 := total_take xs i hil
      have ht2 := total_le xs (i + 1)
      have HT : Hid (((total (xs.take (i + 1)) : Nat) : Int) = (total (xs.take i) : Int) + (xs[i].2.length : Int)) := by show _ = _; omega
      have hw : IntKind.i64.wrap ((total (xs.take i) : Int) + (xs[i].2.length : Int)) = (total (xs.take i) : Int) + (xs[i].2.length : Int) := by rw [IntKind.wrap_i64]; omega
      have hp : ¬ ((total (xs.take i) : Int) + (xs[i].2.length : Int) < 0) := by omega
      generalize total (xs.take i) = T at *
      generalize xs[i].2.length = nl at *
      clear hv ht1
      go_wp2
      go_roundw
      case rel => exact ⟨i + 1, hil, by go_num, by rw [HT.out], by first | rfl | trivial⟩
      case measure => simp [intOf]; omega
    · obtain rfl : i = xs.length := by omega
      rw [List.take_length]
      rename World => w0
      have CG := growI (total xs) (by omega) w0
      have HTL : Hid (total xs ≤ 100000) := ht
      go_upto_region 10 with (first | (go_at_call 78; (with_reducible refine Calls.mono CG ?_); rintro e' w1 ⟨v1, rfl, hown1, hb1⟩))
      have HO1 : Hid (w1.ownsRow w0.heap.size 3 1 v1 0 [] ∧ Below w0.heap.size w0 w1) := ⟨hown1, hb1⟩
      clear hown1 hb1 CG
      obtain ⟨i0, hi0, hz0, hz1, hz2⟩ := info_parts Try.info3
      go_wp2
      go_loopw [6, 27] (fun nv iv wr => ∃ i : Nat, i ≤ xs.length ∧ iv = .int .i64 i ∧ Hid (wr.ownsRow w0.heap.size 3 1 nv (total (xs.take i)) ((xs.take i).flatMap (·.2)) ∧ Below w0.heap.size w0 wr)) (fun _ iv _ => xs.length - (intOf iv).toNat)
      case atStart => exact ⟨0, by omega, by go_num, HO1.out⟩
      case round =>
        obtain ⟨i, hi, rfl, HO⟩ := hrel
        by_cases hil : i < xs.length
        · have hsz : w0.heap.size ≤ wr.heap.size := HO.out.2.size
          have q := (HO.out.2.cell (p := ⟨A, i, none⟩) hA).trans (HCC.out i hil)
          obtain ⟨hvx, hone⟩ := HV.out xs[i] (List.getElem_mem hil)
          have hvx := hvx.on (Keeps.of HO.out.2 HS.out)
          have i1 : (0 : Int) ≤ (i : Int) := by omega
          have i2 : (i : Int) < (xs.length : Int) := by omega
          have ht1 := total_take xs i hil
          have ht2 := total_le xs (i + 1)
          have hfl : (xs.take (i + 1)).flatMap (·.2) = (xs.take i).flatMap (·.2) ++ xs[i].2 := by
            rw [List.take_add_one, List.getElem?_eq_getElem hil, List.flatMap_append]
            simp
          have HF : Hid (∀ (v' : Value) (w' : World), w'.ownsRow w0.heap.size 3 1 v' (total (xs.take i) + xs[i].2.length) ((xs.take i).flatMap (·.2) ++ xs[i].2) → w'.ownsRow w0.heap.size 3 1 v' (total (xs.take (i + 1))) ((xs.take (i + 1)).flatMap (·.2))) := fun v' w' h => by rw [ht1, hfl]; exact h
          have hown := HO.out.1
          rcases hvx with ⟨h0, ad, cap, hv⟩ | ⟨g, o, cap, hv, h0, hcap, hcell⟩
          · rw [hv] at q
            have hr := append_empty (t := 28) (ty := 28) Try.underlying28 hi0 hown ad cap
            have HE := HF.out u6 wr (by rw [h0]; simpa using hown)
            have HE : Hid (wr.ownsRow w0.heap.size 3 1 u6 (total (xs.take (i + 1))) ((xs.take (i + 1)).flatMap (·.2))) := HE
            clear hv ht1 ht2 hfl hown h0 hone
            go_wp2_with (at_builtin; refine Lib.wpList_append_run _ rfl _ _ 28 28 rfl _ _ rfl rfl _ _ hr ?_)
            go_roundw
            case rel => exact ⟨i + 1, hil, by go_num, HE.out, HO.out.2⟩
            case measure => simp [intOf]; omega
          · rw [hv] at q
            have hnews : ∀ j u, xs[i].2[j]? = some u → wr.cell? ((⟨g, o, none⟩ : Addr).add j) = some u := fun j u hu => by
              have hj : j < xs[i].2.length := (List.getElem?_eq_some_iff.1 hu).1
              have := (hcell j hj).2
              rw [List.getElem?_eq_getElem hj] at hu
              rw [← hu, ← this]
              congr 1
              unfold Addr.add
              split
              · rename_i e
                rw [e]
                rfl
              · show (⟨g, o + j, none⟩ : Addr) = ⟨g, o + j * 1, none⟩
                rw [Nat.mul_one]
            have hbig : total (xs.take i) + xs[i].2.length ≤ 100000 := by have := HTL.out; omega
            have HONE : Hid (∀ u ∈ xs[i].2, u.oneCell' = true) := hone
            clear hv ht1 ht2 hfl hone hcell
            go_wp2_with (at_builtin; refine wpList_append_own _ rfl _ _ 28 rfl w0.heap.size 3 i0 _ 1 8 Try.underlying28 hi0 hz0 hz1 hz2 rfl (by decide) _ _ _ rfl hown ⟨g, o, none⟩ xs[i].2.length cap xs[i].2 rfl (by rw [Nat.mul_one]) hnews HONE.out (by unfold maxLen; omega) (by omega) hsz ?_; intro v3 w3 hown3 hgr3 _)
            have HE : Hid (w3.ownsRow w0.heap.size 3 1 v3 (total (xs.take (i + 1))) ((xs.take (i + 1)).flatMap (·.2)) ∧ Below w0.heap.size w0 w3) := ⟨HF.out v3 w3 hown3, HO.out.2.grown hgr3 hsz (fun k e => (HO.out.1.lt k e).1)⟩
            clear hown3 hgr3 hown hnews
            go_wp2
            go_roundw
            case rel => exact ⟨i + 1, hil, by go_num, HE.out⟩
            case measure => simp [intOf]; omega
        · obtain rfl : i = xs.length := by omega
          have HE : Hid (wr.ownsRow w0.heap.size 3 1 u6 (total xs) (xs.flatMap (·.2)) ∧ Below w0.heap.size w0 wr) := by
            have := HO.out
            rwa [List.take_length] at this
          go_wp2
          go_ret
          exact ⟨_, rfl, HE.out⟩
end Go.Proofs.Ytpdmkhnonbbhnaa

namespace Go.Proofs.Ytpdmkhnonbbhnaa
open Go.RowKit Go.Maps

set_option maxHeartbeats 4000000 in
set_option maxRecDepth 10000 in
theorem growC (n : Nat) (hn : n ≤ 1000000) (w : World) : Calls Try.prog 79 #[.slice none 0 0, .int .i64 n] w fun r w' => ∃ v, r = .returned v ∧ w'.ownsRow w.heap.size 88 1 v 0 [] ∧ Below w.heap.size w w' := by
  by_cases h0 : n = 0
  · subst h0
    go_enter Try.func79, Try.ntmps79
    go_wp2
    go_ret
    exact ⟨_, rfl, World.ownsRow_nil _ _ _ _, Below.refl _ _⟩
  · obtain ⟨i0, hi, hz0, hz1, hz2⟩ := info_parts Try.info88
    have hr := Lib.run_append_nil_zeros (P := Try.prog) w 61 3 61 88 i0 _ .i64 .i64 Try.underlying61 Try.underlying3 hi hz0 n (by omega) (by rw [hz1]; omega) (by omega) (by rw [hz2]; omega)
    have hcap : n ≤ grownCap w n 0 88 := grownCap_ge w n 0 88
    have hcm : grownCap w n 0 88 ≤ maxLen := grownCap_le_maxLen w n 0 88 (by unfold maxLen; omega)
    generalize grownCap w n 0 88 = cap at *
    have hp : (0 : Int) < (n : Int) := by omega
    have HE : Hid ((w.drew.alloc (.cells (Builtin.zeroCells (Value.pointer none).cells n ++ Builtin.zeroCells (Value.pointer none).cells (cap - n)) 88)).ownsRow w.heap.size 88 1 (.slice (some ⟨w.heap.size, 0, none⟩) 0 cap) 0 []) := by
      refine ⟨by simp, .inr ⟨w.heap.size, cap, _, rfl, Nat.le_refl _, new_block w.drew _, by omega, hcm, ?_, by simp⟩⟩
      simp [Builtin.zeroCells, Value.cells]
      omega
    have HB : Hid (Below w.heap.size w (w.drew.alloc (.cells (Builtin.zeroCells (Value.pointer none).cells n ++ Builtin.zeroCells (Value.pointer none).cells (cap - n)) 88))) := (Below.refl _ _).drew.alloc (Nat.le_refl _) _
    generalize w.drew.alloc (.cells (Builtin.zeroCells (Value.pointer none).cells n ++ Builtin.zeroCells (Value.pointer none).cells (cap - n)) 88) = W2 at *
    have hw1 : IntKind.i64.wrap (n : Int) = n := by rw [IntKind.wrap_i64]; omega
    have hc0 : (0 : Int) ≤ (cap : Int) := by omega
    clear hcap hcm hz0 hz1 hz2
    go_enter Try.func79, Try.ntmps79
    go_wp2_with (at_builtin; refine Lib.wpList_append_run _ rfl _ _ 61 3 rfl _ _ rfl rfl _ _ hr ?_)
    go_ret
    exact ⟨_, rfl, HE.out, HB.out⟩
set_option maxHeartbeats 4000000 in
set_option maxRecDepth 10000 in
theorem concatC (xs : List (Value × List Value)) (A : Nat) (S : Nat → Prop) (w : World) (hS : ∀ b, S b → b < w.heap.size) (hA : A < w.heap.size) (hc : ∀ i (h : i < xs.length), w.cell? ⟨A, i, none⟩ = some xs[i].1) (hV : ∀ x ∈ xs, Vals w S x.1 x.2 ∧ ∀ u ∈ x.2, u.oneCell' = true) (hx : xs.length ≤ 10) (ht : total xs ≤ 100000) :
    Calls Try.prog 68 #[.slice (some ⟨A, 0, none⟩) xs.length xs.length] w fun r w' => ∃ v, r = .returned v ∧ w'.ownsRow w.heap.size 88 1 v (total xs) (xs.flatMap (·.2)) ∧ Below w.heap.size w w' := by
  have HS : Hid (∀ b, S b → b < w.heap.size) := hS
  have HV : Hid (∀ x ∈ xs, Vals w S x.1 x.2 ∧ ∀ u ∈ x.2, u.oneCell' = true) := hV
  have HCC : Hid (∀ i (h : i < xs.length), w.cell? ⟨A, i, none⟩ = some xs[i].1) := hc
  clear hS hV hc
  go_enter Try.func68, Try.ntmps68
  go_wp2
  go_loopw [3, 11] (fun sv iv wr => ∃ i : Nat, i ≤ xs.length ∧ iv = .int .i64 i ∧ sv = .int .i64 (total (xs.take i) : Nat) ∧ wr = w) (fun _ iv _ => xs.length - (intOf iv).toNat)
  case atStart => exact ⟨0, by omega, by go_num, rfl, rfl⟩
  case round =>
    obtain ⟨i, hi, rfl, rfl, rfl⟩ := hrel
    by_cases hil : i < xs.length
    · have q := HCC.out i hil
      obtain ⟨ad, cap, hv⟩ := (HV.out xs[i] (List.getElem_mem hil)).1.len
      rw [hv] at q
      have i1 : (0 : Int) ≤ (i : Int) := by omega
      have i2 : (i : Int) < (xs.length : Int) := by omega
      have ht1 := total_take xs i hil
      have ht2 := total_le xs (i + 1)
      have HT : Hid (((total (xs.take (i + 1)) : Nat) : Int) = (total (xs.take i) : Int) + (xs[i].2.length : Int)) := by show _ = _; omega
      have hw : IntKind.i64.wrap ((total (xs.take i) : Int) + (xs[i].2.length : Int)) = (total (xs.take i) : Int) + (xs[i].2.length : Int) := by rw [IntKind.wrap_i64]; omega
      have hp : ¬ ((total (xs.take i) : Int) + (xs[i].2.length : Int) < 0) := by omega
      generalize total (xs.take i) = T at *
      generalize xs[i].2.length = nl at *
      clear hv ht1
      go_wp2
      go_roundw
      case rel => exact ⟨i + 1, hil, by go_num, by rw [HT.out], by first | rfl | trivial⟩
      case measure => simp [intOf]; omega
    · obtain rfl : i = xs.length := by omega
      rw [List.take_length]
      rename World => w0
      have CG := growC (total xs) (by omega) w0
      have HTL : Hid (total xs ≤ 100000) := ht
      go_upto_region 10 with (first | (go_at_call 79; (with_reducible refine Calls.mono CG ?_); rintro e' w1 ⟨v1, rfl, hown1, hb1⟩))
      have HO1 : Hid (w1.ownsRow w0.heap.size 88 1 v1 0 [] ∧ Below w0.heap.size w0 w1) := ⟨hown1, hb1⟩
      clear hown1 hb1 CG
      obtain ⟨i0, hi0, hz0, hz1, hz2⟩ := info_parts Try.info88
      go_wp2
      go_loopw [6, 27] (fun nv iv wr => ∃ i : Nat, i ≤ xs.length ∧ iv = .int .i64 i ∧ Hid (wr.ownsRow w0.heap.size 88 1 nv (total (xs.take i)) ((xs.take i).flatMap (·.2)) ∧ Below w0.heap.size w0 wr)) (fun _ iv _ => xs.length - (intOf iv).toNat)
      case atStart => exact ⟨0, by omega, by go_num, HO1.out⟩
      case round =>
        obtain ⟨i, hi, rfl, HO⟩ := hrel
        by_cases hil : i < xs.length
        · have hsz : w0.heap.size ≤ wr.heap.size := HO.out.2.size
          have q := (HO.out.2.cell (p := ⟨A, i, none⟩) hA).trans (HCC.out i hil)
          obtain ⟨hvx, hone⟩ := HV.out xs[i] (List.getElem_mem hil)
          have hvx := hvx.on (Keeps.of HO.out.2 HS.out)
          have i1 : (0 : Int) ≤ (i : Int) := by omega
          have i2 : (i : Int) < (xs.length : Int) := by omega
          have ht1 := total_take xs i hil
          have ht2 := total_le xs (i + 1)
          have hfl : (xs.take (i + 1)).flatMap (·.2) = (xs.take i).flatMap (·.2) ++ xs[i].2 := by
            rw [List.take_add_one, List.getElem?_eq_getElem hil, List.flatMap_append]
            simp
          have HF : Hid (∀ (v' : Value) (w' : World), w'.ownsRow w0.heap.size 88 1 v' (total (xs.take i) + xs[i].2.length) ((xs.take i).flatMap (·.2) ++ xs[i].2) → w'.ownsRow w0.heap.size 88 1 v' (total (xs.take (i + 1))) ((xs.take (i + 1)).flatMap (·.2))) := fun v' w' h => by rw [ht1, hfl]; exact h
          have hown := HO.out.1
          rcases hvx with ⟨h0, ad, cap, hv⟩ | ⟨g, o, cap, hv, h0, hcap, hcell⟩
          · rw [hv] at q
            have hr := append_empty (t := 61) (ty := 61) Try.underlying61 hi0 hown ad cap
            have HE := HF.out u6 wr (by rw [h0]; simpa using hown)
            have HE : Hid (wr.ownsRow w0.heap.size 88 1 u6 (total (xs.take (i + 1))) ((xs.take (i + 1)).flatMap (·.2))) := HE
            clear hv ht1 ht2 hfl hown h0 hone
            go_wp2_with (at_builtin; refine Lib.wpList_append_run _ rfl _ _ 61 61 rfl _ _ rfl rfl _ _ hr ?_)
            go_roundw
            case rel => exact ⟨i + 1, hil, by go_num, HE.out, HO.out.2⟩
            case measure => simp [intOf]; omega
          · rw [hv] at q
            have hnews : ∀ j u, xs[i].2[j]? = some u → wr.cell? ((⟨g, o, none⟩ : Addr).add j) = some u := fun j u hu => by
              have hj : j < xs[i].2.length := (List.getElem?_eq_some_iff.1 hu).1
              have := (hcell j hj).2
              rw [List.getElem?_eq_getElem hj] at hu
              rw [← hu, ← this]
              congr 1
              unfold Addr.add
              split
              · rename_i e
                rw [e]
                rfl
              · show (⟨g, o + j, none⟩ : Addr) = ⟨g, o + j * 1, none⟩
                rw [Nat.mul_one]
            have hbig : total (xs.take i) + xs[i].2.length ≤ 100000 := by have := HTL.out; omega
            have HONE : Hid (∀ u ∈ xs[i].2, u.oneCell' = true) := hone
            clear hv ht1 ht2 hfl hone hcell
            go_wp2_with (at_builtin; refine wpList_append_own _ rfl _ _ 61 rfl w0.heap.size 88 i0 _ 1 8 Try.underlying61 hi0 hz0 hz1 hz2 rfl (by decide) _ _ _ rfl hown ⟨g, o, none⟩ xs[i].2.length cap xs[i].2 rfl (by rw [Nat.mul_one]) hnews HONE.out (by unfold maxLen; omega) (by omega) hsz ?_; intro v3 w3 hown3 hgr3 _)
            have HE : Hid (w3.ownsRow w0.heap.size 88 1 v3 (total (xs.take (i + 1))) ((xs.take (i + 1)).flatMap (·.2)) ∧ Below w0.heap.size w0 w3) := ⟨HF.out v3 w3 hown3, HO.out.2.grown hgr3 hsz (fun k e => (HO.out.1.lt k e).1)⟩
            clear hown3 hgr3 hown hnews
            go_wp2
            go_roundw
            case rel => exact ⟨i + 1, hil, by go_num, HE.out⟩
            case measure => simp [intOf]; omega
        · obtain rfl : i = xs.length := by omega
          have HE : Hid (wr.ownsRow w0.heap.size 88 1 u6 (total xs) (xs.flatMap (·.2)) ∧ Below w0.heap.size w0 wr) := by
            have := HO.out
            rwa [List.take_length] at this
          go_wp2
          go_ret
          exact ⟨_, rfl, HE.out⟩
end Go.Proofs.Ytpdmkhnonbbhnaa
