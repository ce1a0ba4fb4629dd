/- greater: a function and all that it is below of. functions: the order of the monotone functions from one order to another one. -/
import Derived.Test.YtgdflaapgfpdeaaGreatDoorMix
namespace Go.Proofs.YtgdflaapgfpdeaaGreatDoor
open Go.RowKit

/-- A row of results, one of them. -/
theorem ers_at {w : World} {Z S : Nat → Prop} {v : Value} {rs : List (List Nat)} (h : RowE ERs w Z S v rs) (h0 : rs ≠ []) : ∃ g o cap, v = .slice (some ⟨g, o, none⟩) rs.length cap ∧ rs.length ≤ cap ∧ ∀ j (hj : j < rs.length), Z g ∧ ∃ ad c, w.cell? ⟨g, o + j, none⟩ = some (.slice ad rs[j].length c) ∧ Nts w S (.slice ad rs[j].length c) rs[j] := by
  rcases h with ⟨h, _⟩ | ⟨g, o, cap, rfl, _, hc, h⟩
  · exact absurd h h0
  · refine ⟨g, o, cap, rfl, hc, fun j hj => ?_⟩
    obtain ⟨hz, cs, ⟨ad, c, rfl, h2⟩, h3⟩ := h j hj
    have := h3 0 (by decide)
    refine ⟨hz, ad, c, ?_, h2⟩
    simpa [ERs] using this
theorem shl_bit (i : Nat) (hi : i < 64) : IntKind.u64.wrap (2 ^ min i 64) = ((2 ^ i : Nat) : Int) := by
  have h1 := two_pow_lt hi
  have e : ((2 : Int) ^ min i 64) = ((2 ^ i : Nat) : Int) := by
    rw [Nat.min_eq_left (by omega)]
    simp
  rw [e, IntKind.wrap_u64]
  generalize 2 ^ i = q at *
  omega
set_option maxHeartbeats 8000000 in
set_option maxRecDepth 10000 in
theorem greater_any {w : World} {P pf pt : Nat} {a v : Value} {ta : List Nat} {rs : List (List Nat)} {n f : Nat} (hblk : w.heap[P]? = some (.cells #[a, .pointer (some ⟨pf, 0, none⟩), .pointer (some ⟨pt, 0, none⟩), v] 57 (0, 0))) (hrow : RowE ERs w (fun y => y < w.heap.size) (fun y => y < w.heap.size) v rs) (ht : AbAt w (fun y => y < w.heap.size) pt ta) (hl : Lat ta) (hn : n ≤ 1000) (hrs : ∀ r ∈ rs, r.length = n ∧ ∀ x ∈ r, x < ta.length) (h40 : rs.length ≤ 40) (hf : f < rs.length) :
    Calls Tryz.prog 79 #[.pointer (some ⟨P, 0, none⟩), .int .i64 f] w fun r w' => r = .returned (.int .u64 ((greatQ ta rs f rs.length : Nat) : Int)) ∧ Hid (Below w.heap.size w w') := by
  obtain ⟨g, o, cap, rfl, hcap, hel⟩ := ers_at hrow (fun e => by rw [e] at hf; simp at hf)
  have hPl := lt_heap hblk
  have HSA : Hid (∀ wr : World, Below w.heap.size w wr → wr.cell? ⟨P, 3, none⟩ = some (.slice (some ⟨g, o, none⟩) rs.length cap) ∧ wr.cell? ⟨P, 2, none⟩ = some (.pointer (some ⟨pt, 0, none⟩)) ∧ ∀ i (hi : i < rs.length), ∃ af lf cf ag lg cg, wr.cell? ⟨g, o + f, none⟩ = some (.slice af lf cf) ∧ wr.cell? ⟨g, o + i, none⟩ = some (.slice ag lg cg) ∧ Calls Tryz.prog 87 #[.slice af lf cf, .slice ag lg cg, .func (.func 37) #[.pointer (some ⟨pt, 0, none⟩)] #[]] wr fun r w' => r = .returned (.bool (underP ta (rs.getD f []) (rs.getD i []))) ∧ w' = wr) := fun wr hb => by
    have hk : Keeps (fun y => y < w.heap.size) w wr := Keeps.of hb fun _ h => h
    refine ⟨(hb.cell (p := ⟨P, 3, none⟩) hPl).trans (heap_cl hblk rfl), (hb.cell (p := ⟨P, 2, none⟩) hPl).trans (heap_cl hblk rfl), fun i hi => ?_⟩
    obtain ⟨z1, af, cf, a1, a2⟩ := hel f hf
    obtain ⟨_, ag, cg, b1, b2⟩ := hel i hi
    refine ⟨af, _, cf, ag, _, cg, (hb.cell (p := ⟨g, o + f, none⟩) z1).trans a1, (hb.cell (p := ⟨g, o + i, none⟩) z1).trans b1, ?_⟩
    have r1 := hrs _ (List.getElem_mem hf)
    have r2 := hrs _ (List.getElem_mem hi)
    have hfew := hl.few
    have := equal_any (ht.on hk fun _ h => h) (a2.on hk fun _ h => h) (b2.on hk fun _ h => h) (by rw [r1.1, r2.1]) (by rw [r1.1]; exact hn) r1.2 (fun x hx => by have := r2.2 x hx; omega) (lat_lt hl)
    rwa [show rs.getD f [] = rs[f] by simp [hf], show rs.getD i [] = rs[i] by simp [hi]]
  have HQ : Hid (∀ k, greatQ ta rs f (k + 1) = if f ≤ k && underP ta (rs.getD f []) (rs.getD k []) then greatQ ta rs f k ||| 2 ^ k else greatQ ta rs f k) := fun k => rfl
  have HQL : Hid (∀ k, k ≤ 40 → greatQ ta rs f k < 18446744073709551616) := fun k hk => Nat.lt_of_lt_of_le (great_lt ta rs f k) (Nat.le_trans (Nat.pow_le_pow_right (by decide) hk) (by decide))
  have HQ0 : Hid (greatQ ta rs f 0 = 0) := rfl
  have c3 := (HSA.out w (Below.refl _ _)).1
  have j0 : (0 : Int) ≤ (f : Int) := by omega
  have j1 : (f : Int) < (rs.length : Int) := by omega
  clear hblk hrow ht hl hrs hel hn
  generalize greatQ ta rs f = G at *
  go_enter Tryz.func79, Tryz.ntmps79
  go_upto_region 3 with fail
  clear c3
  go_loopw [5, 12] (fun mv iv wr => ∃ i : Nat, i ≤ rs.length ∧ iv = .int .i64 i ∧ mv = .int .u64 ((G i : Nat) : Int) ∧ Hid (Below w.heap.size w wr)) (fun _ iv _ => rs.length - (intOf iv).toNat)
  case atStart => exact ⟨0, by omega, by go_num, by rw [HQ0.out]; rfl, Below.refl _ _⟩
  case round =>
    obtain ⟨i, hi, rfl, rfl, HB⟩ := hrel
    by_cases hil : i < rs.length
    · have i1 : (0 : Int) ≤ (i : Int) := by omega
      have i2 : (i : Int) < (rs.length : Int) := by omega
      replace HB : Hid (Below w.heap.size w wr.drew) := HB.out.drew
      obtain ⟨t1, t2, t3⟩ := HSA.out wr.drew HB.out
      obtain ⟨af, lf, cf, ag, lg, cg, t4, t5, CE⟩ := t3 i hil
      have hS0 : (fun w' : World => w'.cell? ⟨P, 3, none⟩ = some (.slice (some ⟨g, o, none⟩) rs.length cap) ∧ w'.cell? ⟨g, o + f, none⟩ = some (.slice af lf cf) ∧ w'.cell? ⟨g, o + i, none⟩ = some (.slice ag lg cg) ∧ w'.cell? ⟨P, 2, none⟩ = some (.pointer (some ⟨pt, 0, none⟩))) wr.drew := ⟨t1, t4, t5, t2⟩
      have HQi := HQ.out i
      have HGi : Hid (G i < 18446744073709551616) := HQL.out i (by omega)
      have hi64 : i < 64 := by omega
      clear t1 t2 t3 t4 t5
      go_upto_region 5 with fail
      by_cases hfi : f ≤ i
      · have k1 : (f : Int) ≤ (i : Int) := by omega
        rw [decide_eq_true hfi, Bool.true_and] at HQi
        generalize underP ta (rs.getD f []) (rs.getD i []) = ub at *
        refine wp_region_M (S := (fun w' : World => w'.cell? ⟨P, 3, none⟩ = some (.slice (some ⟨g, o, none⟩) rs.length cap) ∧ w'.cell? ⟨g, o + f, none⟩ = some (.slice af lf cf) ∧ w'.cell? ⟨g, o + i, none⟩ = some (.slice ag lg cg) ∧ w'.cell? ⟨P, 2, none⟩ = some (.pointer (some ⟨pt, 0, none⟩)))) (L := 25) (n := 25) (by kernel_rfl) rfl (by kernel_rfl) ?_
        refine wpAnyK_go (i := 0) (m' := 1) (some 15) (v := .int .i64 f) rfl rfl (by kernel_rfl) (by kernel_rfl) (by kernel_rfl) (by kernel_rfl) (by kernel_rfl) (fun _ _ _ h => h) (Or.inl ⟨by rfl, ?_⟩) hS0 ?_
        · intro w' hSw
          go_simp
        simp only [Act.put, List.setIfInBounds_toArray, List.set_cons_zero, List.set_cons_succ]
        refine wpAnyK_go (i := 1) (m' := 3) (some 16) (v := .int .i64 i) rfl rfl (by kernel_rfl) (by kernel_rfl) (by kernel_rfl) (by kernel_rfl) (by kernel_rfl) (fun _ _ _ h => h) (Or.inl ⟨by rfl, ?_⟩) hS0 ?_
        · intro w' hSw
          go_simp
        simp only [Act.put, List.setIfInBounds_toArray, List.set_cons_zero, List.set_cons_succ]
        refine wpAnyK_go (i := 2) (m' := 7) (some 17) (v := .bool true) rfl rfl (by kernel_rfl) (by kernel_rfl) (by kernel_rfl) (by kernel_rfl) (by kernel_rfl) (fun _ _ _ h => h) (Or.inl ⟨by rfl, ?_⟩) hS0 ?_
        · intro w' hSw
          go_simp
        simp only [Act.put, List.setIfInBounds_toArray, List.set_cons_zero, List.set_cons_succ]
        refine wpAnyK_go (i := 3) (m' := 15) (some 18) (v := .bool true) rfl rfl (by kernel_rfl) (by kernel_rfl) (by kernel_rfl) (by kernel_rfl) (by kernel_rfl) (fun _ _ _ h => h) (Or.inl ⟨by rfl, ?_⟩) hS0 ?_
        · intro w' hSw
          go_simp
        simp only [Act.put, List.setIfInBounds_toArray, List.set_cons_zero, List.set_cons_succ]
        refine wpAnyK_go (i := 4) (m' := 31) (some 19) (v := .pointer (some ⟨P, 0, none⟩)) rfl rfl (by kernel_rfl) (by kernel_rfl) (by kernel_rfl) (by kernel_rfl) (by kernel_rfl) (fun _ _ _ h => h) (Or.inl ⟨by rfl, ?_⟩) hS0 ?_
        · intro w' hSw
          go_simp
        simp only [Act.put, List.setIfInBounds_toArray, List.set_cons_zero, List.set_cons_succ]
        refine wpAnyK_go (i := 5) (m' := 63) (some 20) (v := .pointer (some ⟨P, 0, none⟩)) rfl rfl (by kernel_rfl) (by kernel_rfl) (by kernel_rfl) (by kernel_rfl) (by kernel_rfl) (fun _ _ _ h => h) (Or.inl ⟨by rfl, ?_⟩) hS0 ?_
        · intro w' hSw
          go_simp
        simp only [Act.put, List.setIfInBounds_toArray, List.set_cons_zero, List.set_cons_succ]
        refine wpAnyK_go (i := 6) (m' := 127) (some 21) (v := .pointer (some ⟨P, 3, none⟩)) rfl rfl (by kernel_rfl) (by kernel_rfl) (by kernel_rfl) (by kernel_rfl) (by kernel_rfl) (fun _ _ _ h => h) (Or.inl ⟨by rfl, ?_⟩) hS0 ?_
        · intro w' hSw
          go_simp
        simp only [Act.put, List.setIfInBounds_toArray, List.set_cons_zero, List.set_cons_succ]
        refine wpAnyK_go (i := 7) (m' := 255) (some 22) (v := .slice (some ⟨g, o, none⟩) rs.length cap) rfl rfl (by kernel_rfl) (by kernel_rfl) (by kernel_rfl) (by kernel_rfl) (by kernel_rfl) (fun _ _ _ h => h) (Or.inl ⟨by rfl, ?_⟩) hS0 ?_
        · intro w' hSw
          obtain ⟨s1, s2, s3, s4⟩ := hSw
          go_simp
        simp only [Act.put, List.setIfInBounds_toArray, List.set_cons_zero, List.set_cons_succ]
        refine wpAnyK_go (i := 8) (m' := 511) (some 23) (v := .int .i64 f) rfl rfl (by kernel_rfl) (by kernel_rfl) (by kernel_rfl) (by kernel_rfl) (by kernel_rfl) (fun _ _ _ h => h) (Or.inl ⟨by rfl, ?_⟩) hS0 ?_
        · intro w' hSw
          go_simp
        simp only [Act.put, List.setIfInBounds_toArray, List.set_cons_zero, List.set_cons_succ]
        refine wpAnyK_go (i := 9) (m' := 1023) (some 24) (v := .pointer (some ⟨g, o + f, none⟩)) rfl rfl (by kernel_rfl) (by kernel_rfl) (by kernel_rfl) (by kernel_rfl) (by kernel_rfl) (fun _ _ _ h => h) (Or.inl ⟨by rfl, ?_⟩) hS0 ?_
        · intro w' hSw
          go_simp
        simp only [Act.put, List.setIfInBounds_toArray, List.set_cons_zero, List.set_cons_succ]
        refine wpAnyK_go (i := 10) (m' := 2047) (some 25) (v := .slice af lf cf) rfl rfl (by kernel_rfl) (by kernel_rfl) (by kernel_rfl) (by kernel_rfl) (by kernel_rfl) (fun _ _ _ h => h) (Or.inl ⟨by rfl, ?_⟩) hS0 ?_
        · intro w' hSw
          obtain ⟨s1, s2, s3, s4⟩ := hSw
          go_simp
        simp only [Act.put, List.setIfInBounds_toArray, List.set_cons_zero, List.set_cons_succ]
        refine wpAnyK_go (i := 11) (m' := 4095) (some 26) (v := .pointer (some ⟨P, 0, none⟩)) rfl rfl (by kernel_rfl) (by kernel_rfl) (by kernel_rfl) (by kernel_rfl) (by kernel_rfl) (fun _ _ _ h => h) (Or.inl ⟨by rfl, ?_⟩) hS0 ?_
        · intro w' hSw
          go_simp
        simp only [Act.put, List.setIfInBounds_toArray, List.set_cons_zero, List.set_cons_succ]
        refine wpAnyK_go (i := 12) (m' := 8191) (some 27) (v := .pointer (some ⟨P, 0, none⟩)) rfl rfl (by kernel_rfl) (by kernel_rfl) (by kernel_rfl) (by kernel_rfl) (by kernel_rfl) (fun _ _ _ h => h) (Or.inl ⟨by rfl, ?_⟩) hS0 ?_
        · intro w' hSw
          go_simp
        simp only [Act.put, List.setIfInBounds_toArray, List.set_cons_zero, List.set_cons_succ]
        refine wpAnyK_go (i := 13) (m' := 16383) (some 28) (v := .pointer (some ⟨P, 3, none⟩)) rfl rfl (by kernel_rfl) (by kernel_rfl) (by kernel_rfl) (by kernel_rfl) (by kernel_rfl) (fun _ _ _ h => h) (Or.inl ⟨by rfl, ?_⟩) hS0 ?_
        · intro w' hSw
          go_simp
        simp only [Act.put, List.setIfInBounds_toArray, List.set_cons_zero, List.set_cons_succ]
        refine wpAnyK_go (i := 14) (m' := 32767) (some 29) (v := .slice (some ⟨g, o, none⟩) rs.length cap) rfl rfl (by kernel_rfl) (by kernel_rfl) (by kernel_rfl) (by kernel_rfl) (by kernel_rfl) (fun _ _ _ h => h) (Or.inl ⟨by rfl, ?_⟩) hS0 ?_
        · intro w' hSw
          obtain ⟨s1, s2, s3, s4⟩ := hSw
          go_simp
        simp only [Act.put, List.setIfInBounds_toArray, List.set_cons_zero, List.set_cons_succ]
        refine wpAnyK_go (i := 15) (m' := 65535) (some 30) (v := .int .i64 i) rfl rfl (by kernel_rfl) (by kernel_rfl) (by kernel_rfl) (by kernel_rfl) (by kernel_rfl) (fun _ _ _ h => h) (Or.inl ⟨by rfl, ?_⟩) hS0 ?_
        · intro w' hSw
          go_simp
        simp only [Act.put, List.setIfInBounds_toArray, List.set_cons_zero, List.set_cons_succ]
        refine wpAnyK_go (i := 16) (m' := 131071) (some 31) (v := .pointer (some ⟨g, o + i, none⟩)) rfl rfl (by kernel_rfl) (by kernel_rfl) (by kernel_rfl) (by kernel_rfl) (by kernel_rfl) (fun _ _ _ h => h) (Or.inl ⟨by rfl, ?_⟩) hS0 ?_
        · intro w' hSw
          go_simp
        simp only [Act.put, List.setIfInBounds_toArray, List.set_cons_zero, List.set_cons_succ]
        refine wpAnyK_go (i := 17) (m' := 262143) (some 32) (v := .slice ag lg cg) rfl rfl (by kernel_rfl) (by kernel_rfl) (by kernel_rfl) (by kernel_rfl) (by kernel_rfl) (fun _ _ _ h => h) (Or.inl ⟨by rfl, ?_⟩) hS0 ?_
        · intro w' hSw
          obtain ⟨s1, s2, s3, s4⟩ := hSw
          go_simp
        simp only [Act.put, List.setIfInBounds_toArray, List.set_cons_zero, List.set_cons_succ]
        refine wpAnyK_go (i := 18) (m' := 524287) (some 33) (v := .pointer (some ⟨P, 0, none⟩)) rfl rfl (by kernel_rfl) (by kernel_rfl) (by kernel_rfl) (by kernel_rfl) (by kernel_rfl) (fun _ _ _ h => h) (Or.inl ⟨by rfl, ?_⟩) hS0 ?_
        · intro w' hSw
          go_simp
        simp only [Act.put, List.setIfInBounds_toArray, List.set_cons_zero, List.set_cons_succ]
        refine wpAnyK_go (i := 19) (m' := 1048575) (some 34) (v := .pointer (some ⟨P, 0, none⟩)) rfl rfl (by kernel_rfl) (by kernel_rfl) (by kernel_rfl) (by kernel_rfl) (by kernel_rfl) (fun _ _ _ h => h) (Or.inl ⟨by rfl, ?_⟩) hS0 ?_
        · intro w' hSw
          go_simp
        simp only [Act.put, List.setIfInBounds_toArray, List.set_cons_zero, List.set_cons_succ]
        refine wpAnyK_go (i := 20) (m' := 2097151) (some 35) (v := .pointer (some ⟨P, 2, none⟩)) rfl rfl (by kernel_rfl) (by kernel_rfl) (by kernel_rfl) (by kernel_rfl) (by kernel_rfl) (fun _ _ _ h => h) (Or.inl ⟨by rfl, ?_⟩) hS0 ?_
        · intro w' hSw
          go_simp
        simp only [Act.put, List.setIfInBounds_toArray, List.set_cons_zero, List.set_cons_succ]
        refine wpAnyK_go (i := 21) (m' := 4194303) (some 36) (v := .pointer (some ⟨pt, 0, none⟩)) rfl rfl (by kernel_rfl) (by kernel_rfl) (by kernel_rfl) (by kernel_rfl) (by kernel_rfl) (fun _ _ _ h => h) (Or.inl ⟨by rfl, ?_⟩) hS0 ?_
        · intro w' hSw
          obtain ⟨s1, s2, s3, s4⟩ := hSw
          go_simp
        simp only [Act.put, List.setIfInBounds_toArray, List.set_cons_zero, List.set_cons_succ]
        refine wpAnyK_go (i := 22) (m' := 8388607) (some 37) (v := .func (.func 37) #[.pointer (some ⟨pt, 0, none⟩)] #[]) rfl rfl (by kernel_rfl) (by kernel_rfl) (by kernel_rfl) (by kernel_rfl) (by kernel_rfl) (fun _ _ _ h => h) (Or.inl ⟨by rfl, ?_⟩) hS0 ?_
        · intro w' hSw
          go_simp
        simp only [Act.put, List.setIfInBounds_toArray, List.set_cons_zero, List.set_cons_succ]
        refine wpAnyK_only (i := 23) (m' := 16777215) (by kernel_rfl) rfl (by kernel_rfl) fun K hK => ?_
        go_simp
        (with_reducible refine Calls.mono CE ?_)
        rintro e' w2 ⟨rfl, hw2⟩
        subst hw2
        go_simp
        refine hK.out _ _ (fun _ => hS0) ?_
        clear hK K CE
        refine wpAnyK_only (i := 24) (m' := 33554431) (by kernel_rfl) rfl (by kernel_rfl) fun K hK => ?_
        go_simp
        refine hK.out _ _ (fun _ => hS0) ?_
        clear hK K
        refine wpAnyK_done (by kernel_rfl) ?_ _
        clear hS0
        cases ub with
        | true =>
          rw [if_pos rfl] at HQi
          replace HQi : Hid _ := HQi
          have hsh : Hid (IntKind.u64.wrap ((2 : Int) ^ i) = ((2 ^ i : Nat) : Int)) := by
            have h := shl_bit i hi64
            rw [Nat.min_eq_left (by omega)] at h
            exact h
          have hor : Hid _ := bits_or_u64_nat (G i) (2 ^ i) HGi.out (by have := two_pow_lt hi64; omega)
          clear hfi
          go_wp2
          go_roundw
          case rel => exact ⟨i + 1, hil, by go_num, by rw [HQi.out, hsh.out, hor.out], HB.out⟩
          case measure => simp [intOf]; omega
        | false =>
          rw [if_neg (by decide)] at HQi
          replace HQi : Hid _ := HQi
          clear hfi
          go_wp2
          go_roundw
          case rel => exact ⟨i + 1, hil, by go_num, by rw [HQi.out], HB.out⟩
          case measure => simp [intOf]; omega
      · have k1 : ¬ (f : Int) ≤ (i : Int) := by omega
        rw [decide_eq_false hfi, Bool.false_and, if_neg (by decide)] at HQi
        replace HQi : Hid _ := HQi
        clear CE hfi
        refine wp_region_M (S := (fun w' : World => w'.cell? ⟨P, 3, none⟩ = some (.slice (some ⟨g, o, none⟩) rs.length cap) ∧ w'.cell? ⟨g, o + f, none⟩ = some (.slice af lf cf) ∧ w'.cell? ⟨g, o + i, none⟩ = some (.slice ag lg cg) ∧ w'.cell? ⟨P, 2, none⟩ = some (.pointer (some ⟨pt, 0, none⟩)))) (L := 25) (n := 25) (by kernel_rfl) rfl (by kernel_rfl) ?_
        refine wpAnyK_go (i := 0) (m' := 1) (some 15) (v := .int .i64 f) rfl rfl (by kernel_rfl) (by kernel_rfl) (by kernel_rfl) (by kernel_rfl) (by kernel_rfl) (fun _ _ _ h => h) (Or.inl ⟨by rfl, ?_⟩) hS0 ?_
        · intro w' hSw
          go_simp
        simp only [Act.put, List.setIfInBounds_toArray, List.set_cons_zero, List.set_cons_succ]
        refine wpAnyK_go (i := 1) (m' := 3) (some 16) (v := .int .i64 i) rfl rfl (by kernel_rfl) (by kernel_rfl) (by kernel_rfl) (by kernel_rfl) (by kernel_rfl) (fun _ _ _ h => h) (Or.inl ⟨by rfl, ?_⟩) hS0 ?_
        · intro w' hSw
          go_simp
        simp only [Act.put, List.setIfInBounds_toArray, List.set_cons_zero, List.set_cons_succ]
        refine wpAnyK_go (i := 2) (m' := 7) (some 17) (v := .bool false) rfl rfl (by kernel_rfl) (by kernel_rfl) (by kernel_rfl) (by kernel_rfl) (by kernel_rfl) (fun _ _ _ h => h) (Or.inl ⟨by rfl, ?_⟩) hS0 ?_
        · intro w' hSw
          go_simp
        simp only [Act.put, List.setIfInBounds_toArray, List.set_cons_zero, List.set_cons_succ]
        refine wpAnyK_go (i := 3) (m' := 15) (some 18) (v := .bool false) rfl rfl (by kernel_rfl) (by kernel_rfl) (by kernel_rfl) (by kernel_rfl) (by kernel_rfl) (fun _ _ _ h => h) (Or.inl ⟨by rfl, ?_⟩) hS0 ?_
        · intro w' hSw
          go_simp
        simp only [Act.put, List.setIfInBounds_toArray, List.set_cons_zero, List.set_cons_succ]
        refine wpAnyK_go (i := 4) (m' := 31) (some 19) (v := undef) rfl rfl (by kernel_rfl) (by kernel_rfl) (by kernel_rfl) (by kernel_rfl) (by kernel_rfl) (fun _ _ _ h => h) (Or.inr ⟨by rfl, rfl⟩) hS0 ?_
        simp only [Act.put, List.setIfInBounds_toArray, List.set_cons_zero, List.set_cons_succ]
        refine wpAnyK_go (i := 5) (m' := 63) (some 20) (v := undef) rfl rfl (by kernel_rfl) (by kernel_rfl) (by kernel_rfl) (by kernel_rfl) (by kernel_rfl) (fun _ _ _ h => h) (Or.inr ⟨by rfl, rfl⟩) hS0 ?_
        simp only [Act.put, List.setIfInBounds_toArray, List.set_cons_zero, List.set_cons_succ]
        refine wpAnyK_go (i := 6) (m' := 127) (some 21) (v := undef) rfl rfl (by kernel_rfl) (by kernel_rfl) (by kernel_rfl) (by kernel_rfl) (by kernel_rfl) (fun _ _ _ h => h) (Or.inr ⟨by rfl, rfl⟩) hS0 ?_
        simp only [Act.put, List.setIfInBounds_toArray, List.set_cons_zero, List.set_cons_succ]
        refine wpAnyK_go (i := 7) (m' := 255) (some 22) (v := undef) rfl rfl (by kernel_rfl) (by kernel_rfl) (by kernel_rfl) (by kernel_rfl) (by kernel_rfl) (fun _ _ _ h => h) (Or.inr ⟨by rfl, rfl⟩) hS0 ?_
        simp only [Act.put, List.setIfInBounds_toArray, List.set_cons_zero, List.set_cons_succ]
        refine wpAnyK_go (i := 8) (m' := 511) (some 23) (v := undef) rfl rfl (by kernel_rfl) (by kernel_rfl) (by kernel_rfl) (by kernel_rfl) (by kernel_rfl) (fun _ _ _ h => h) (Or.inr ⟨by rfl, rfl⟩) hS0 ?_
        simp only [Act.put, List.setIfInBounds_toArray, List.set_cons_zero, List.set_cons_succ]
        refine wpAnyK_go (i := 9) (m' := 1023) (some 24) (v := undef) rfl rfl (by kernel_rfl) (by kernel_rfl) (by kernel_rfl) (by kernel_rfl) (by kernel_rfl) (fun _ _ _ h => h) (Or.inr ⟨by rfl, rfl⟩) hS0 ?_
        simp only [Act.put, List.setIfInBounds_toArray, List.set_cons_zero, List.set_cons_succ]
        refine wpAnyK_go (i := 10) (m' := 2047) (some 25) (v := undef) rfl rfl (by kernel_rfl) (by kernel_rfl) (by kernel_rfl) (by kernel_rfl) (by kernel_rfl) (fun _ _ _ h => h) (Or.inr ⟨by rfl, rfl⟩) hS0 ?_
        simp only [Act.put, List.setIfInBounds_toArray, List.set_cons_zero, List.set_cons_succ]
        refine wpAnyK_go (i := 11) (m' := 4095) (some 26) (v := undef) rfl rfl (by kernel_rfl) (by kernel_rfl) (by kernel_rfl) (by kernel_rfl) (by kernel_rfl) (fun _ _ _ h => h) (Or.inr ⟨by rfl, rfl⟩) hS0 ?_
        simp only [Act.put, List.setIfInBounds_toArray, List.set_cons_zero, List.set_cons_succ]
        refine wpAnyK_go (i := 12) (m' := 8191) (some 27) (v := undef) rfl rfl (by kernel_rfl) (by kernel_rfl) (by kernel_rfl) (by kernel_rfl) (by kernel_rfl) (fun _ _ _ h => h) (Or.inr ⟨by rfl, rfl⟩) hS0 ?_
        simp only [Act.put, List.setIfInBounds_toArray, List.set_cons_zero, List.set_cons_succ]
        refine wpAnyK_go (i := 13) (m' := 16383) (some 28) (v := undef) rfl rfl (by kernel_rfl) (by kernel_rfl) (by kernel_rfl) (by kernel_rfl) (by kernel_rfl) (fun _ _ _ h => h) (Or.inr ⟨by rfl, rfl⟩) hS0 ?_
        simp only [Act.put, List.setIfInBounds_toArray, List.set_cons_zero, List.set_cons_succ]
        refine wpAnyK_go (i := 14) (m' := 32767) (some 29) (v := undef) rfl rfl (by kernel_rfl) (by kernel_rfl) (by kernel_rfl) (by kernel_rfl) (by kernel_rfl) (fun _ _ _ h => h) (Or.inr ⟨by rfl, rfl⟩) hS0 ?_
        simp only [Act.put, List.setIfInBounds_toArray, List.set_cons_zero, List.set_cons_succ]
        refine wpAnyK_go (i := 15) (m' := 65535) (some 30) (v := undef) rfl rfl (by kernel_rfl) (by kernel_rfl) (by kernel_rfl) (by kernel_rfl) (by kernel_rfl) (fun _ _ _ h => h) (Or.inr ⟨by rfl, rfl⟩) hS0 ?_
        simp only [Act.put, List.setIfInBounds_toArray, List.set_cons_zero, List.set_cons_succ]
        refine wpAnyK_go (i := 16) (m' := 131071) (some 31) (v := undef) rfl rfl (by kernel_rfl) (by kernel_rfl) (by kernel_rfl) (by kernel_rfl) (by kernel_rfl) (fun _ _ _ h => h) (Or.inr ⟨by rfl, rfl⟩) hS0 ?_
        simp only [Act.put, List.setIfInBounds_toArray, List.set_cons_zero, List.set_cons_succ]
        refine wpAnyK_go (i := 17) (m' := 262143) (some 32) (v := undef) rfl rfl (by kernel_rfl) (by kernel_rfl) (by kernel_rfl) (by kernel_rfl) (by kernel_rfl) (fun _ _ _ h => h) (Or.inr ⟨by rfl, rfl⟩) hS0 ?_
        simp only [Act.put, List.setIfInBounds_toArray, List.set_cons_zero, List.set_cons_succ]
        refine wpAnyK_go (i := 18) (m' := 524287) (some 33) (v := undef) rfl rfl (by kernel_rfl) (by kernel_rfl) (by kernel_rfl) (by kernel_rfl) (by kernel_rfl) (fun _ _ _ h => h) (Or.inr ⟨by rfl, rfl⟩) hS0 ?_
        simp only [Act.put, List.setIfInBounds_toArray, List.set_cons_zero, List.set_cons_succ]
        refine wpAnyK_go (i := 19) (m' := 1048575) (some 34) (v := undef) rfl rfl (by kernel_rfl) (by kernel_rfl) (by kernel_rfl) (by kernel_rfl) (by kernel_rfl) (fun _ _ _ h => h) (Or.inr ⟨by rfl, rfl⟩) hS0 ?_
        simp only [Act.put, List.setIfInBounds_toArray, List.set_cons_zero, List.set_cons_succ]
        refine wpAnyK_go (i := 20) (m' := 2097151) (some 35) (v := undef) rfl rfl (by kernel_rfl) (by kernel_rfl) (by kernel_rfl) (by kernel_rfl) (by kernel_rfl) (fun _ _ _ h => h) (Or.inr ⟨by rfl, rfl⟩) hS0 ?_
        simp only [Act.put, List.setIfInBounds_toArray, List.set_cons_zero, List.set_cons_succ]
        refine wpAnyK_go (i := 21) (m' := 4194303) (some 36) (v := undef) rfl rfl (by kernel_rfl) (by kernel_rfl) (by kernel_rfl) (by kernel_rfl) (by kernel_rfl) (fun _ _ _ h => h) (Or.inr ⟨by rfl, rfl⟩) hS0 ?_
        simp only [Act.put, List.setIfInBounds_toArray, List.set_cons_zero, List.set_cons_succ]
        refine wpAnyK_go (i := 22) (m' := 8388607) (some 37) (v := undef) rfl rfl (by kernel_rfl) (by kernel_rfl) (by kernel_rfl) (by kernel_rfl) (by kernel_rfl) (fun _ _ _ h => h) (Or.inr ⟨by rfl, rfl⟩) hS0 ?_
        simp only [Act.put, List.setIfInBounds_toArray, List.set_cons_zero, List.set_cons_succ]
        refine wpAnyK_go (i := 23) (m' := 16777215) (some 38) (v := undef) rfl rfl (by kernel_rfl) (by kernel_rfl) (by kernel_rfl) (by kernel_rfl) (by kernel_rfl) (fun _ _ _ h => h) (Or.inr ⟨by rfl, rfl⟩) hS0 ?_
        simp only [Act.put, List.setIfInBounds_toArray, List.set_cons_zero, List.set_cons_succ]
        refine wpAnyK_only (i := 24) (m' := 33554431) (by kernel_rfl) rfl (by kernel_rfl) fun K hK => ?_
        go_simp
        refine hK.out _ _ (fun _ => hS0) ?_
        clear hK K
        refine wpAnyK_done (by kernel_rfl) ?_ _
        clear hS0
        go_wp2
        go_roundw
        case rel => exact ⟨i + 1, hil, by go_num, by rw [HQi.out], HB.out⟩
        case measure => simp [intOf]; omega
    · obtain rfl : i = rs.length := by omega
      go_wp2
      go_ret
      exact ⟨rfl, HB.out⟩
end Go.Proofs.YtgdflaapgfpdeaaGreatDoor

namespace Go.Proofs.YtgdflaapgfpdeaaGreatDoor
open Go.RowKit

/-- What functions answers. -/
def FnRes (w : World) (pf pt : Nat) (fa ta : List Nat) (r : Ending) (w' : World) : Prop :=
  ((resP fa ta).length ≤ 40 ∧ r = .returned (.pointer (some ⟨w.heap.size, 0, none⟩)) ∧ ∃ a b, w'.heap[w.heap.size]? = some (.cells #[a, .pointer (some ⟨pf, 0, none⟩), .pointer (some ⟨pt, 0, none⟩), b] 57 (0, 0)) ∧ RowE ESet w' (fun y => w.heap.size ≤ y ∧ y < w'.heap.size) (fun y => w.heap.size ≤ y ∧ y < w'.heap.size) a (fnsP ta (resP fa ta)) ∧ RowE ERs w' (fun y => w.heap.size ≤ y ∧ y < w'.heap.size) (fun y => w.heap.size ≤ y ∧ y < w'.heap.size) b (resP fa ta)) ∨
  (40 < (resP fa ta).length ∧ r = .returned (.pointer none))
theorem find_start {P pf pt : Nat} {fa ta : List Nat} {W w2 : World} (hPW : W.heap[P]? = some (.cells #[.slice none 0 0, .pointer (some ⟨pf, 0, none⟩), .pointer (some ⟨pt, 0, none⟩), .slice none 0 0] 57 (0, 0))) (hPl : P < W.heap.size) (hfr : AbAt W (fun y => y < P) pf fa) (hto : AbAt W (fun y => y < P) pt ta) (ho : w2.ownsRow W.heap.size 3 1 (.slice (some ⟨W.heap.size, 0, none⟩) 0 fa.length) 0 []) (hg : W.grownBy w2 none) : FdW P W.heap.size (W.heap.size + 1) pf pt fa ta [] (.slice none 0 0) [] w2 := by
  have hk : Keeps (fun y => y < P) W w2 := fun y hy => hg.block y (by have : y < P := hy; omega) (by simp)
  exact ⟨hPl, Nat.lt_succ_self _, (ho.lt _ rfl).2, (hg.block P hPl (by simp)).trans hPW, ho, OwnN.nil _ _ _ _ _, hfr.on hk fun _ h => h, hto.on hk fun _ h => h⟩
set_option maxHeartbeats 8000000 in
set_option maxRecDepth 10000 in
theorem functions_any {w : World} {pf pt : Nat} {fa ta : List Nat} (hfr : AbAt w (fun y => y < w.heap.size) pf fa) (hto : AbAt w (fun y => y < w.heap.size) pt ta) (hf : Lat fa) (ht : Lat ta) :
    Calls Tryz.prog 68 #[.pointer (some ⟨pf, 0, none⟩), .pointer (some ⟨pt, 0, none⟩)] w fun r w' => Hid (Below w.heap.size w w') ∧ Hid (FnRes w pf pt fa ta r w') := by
  obtain ⟨ti, z, hi, hz, hk, hby, hzs⟩ := Tryz.ty28.info
  have hfl : fa.length ≤ 40 := hf.few
  obtain ⟨P, hP⟩ : ∃ P, P = w.heap.size := ⟨_, rfl⟩
  have HRES : Hid (∀ r w', FnRes w pf pt fa ta r w' ↔ FnRes w pf pt fa ta r w') := fun _ _ => Iff.rfl
  obtain ⟨W, hW⟩ : ∃ W, W = w.alloc (.cells #[.slice none 0 0, .pointer (some ⟨pf, 0, none⟩), .pointer (some ⟨pt, 0, none⟩), .slice none 0 0] 57) := ⟨_, rfl⟩
  have hBW : Below P w W := by
    rw [hW, hP]
    exact (Below.refl _ _).alloc (Nat.le_refl _) _
  have hPW : W.heap[P]? = some (.cells #[.slice none 0 0, .pointer (some ⟨pf, 0, none⟩), .pointer (some ⟨pt, 0, none⟩), .slice none 0 0] 57 (0, 0)) := by
    rw [hW, hP]
    exact new_blk _ _
  have hkW : Keeps (fun y => y < w.heap.size) w W := fun y hy => hBW.block y (by rw [hP]; exact hy)
  have hfr' : AbAt W (fun y => y < P) pf fa := by rw [hP]; exact hfr.on hkW fun _ h => h
  have hto' : AbAt W (fun y => y < P) pt ta := by rw [hP]; exact hto.on hkW fun _ h => h
  have CS := size_any (w := W) hfr'
  have HST : Hid (∀ w2 : World, w2.ownsRow W.heap.size 3 1 (.slice (some ⟨W.heap.size, 0, none⟩) 0 fa.length) 0 [] → W.grownBy w2 none → FdW P W.heap.size (W.heap.size + 1) pf pt fa ta [] (.slice none 0 0) [] w2 ∧ Below P w w2) := fun w2 ho hg => ⟨find_start hPW (lt_heap hPW) hfr' hto' ho hg, hBW.grown hg (Nat.le_of_lt (lt_heap hPW)) fun _ e => by cases e⟩
  have HIW : Hid (P < W.heap.size) := lt_heap hPW
  have HF : Hid (Lat fa) := hf
  have HT : Hid (Lat ta) := ht
  have HPE : Hid (P = w.heap.size) := hP
  have HFI : Hid (∀ w2 : World, FdW P W.heap.size (W.heap.size + 1) pf pt fa ta [] (.slice none 0 0) [] w2 → Calls Tryz.prog 78 #[.pointer (some ⟨P, 0, none⟩), .slice (some ⟨W.heap.size, 0, none⟩) 0 fa.length] w2 fun r w' => r = .returned (.bool (decide ((resP fa ta).length ≤ 40))) ∧ Hid (Below P w2 w') ∧ Hid ((resP fa ta).length ≤ 40 → ∃ b', FdW P W.heap.size (W.heap.size + 1) pf pt fa ta [] b' (resP fa ta) w')) := fun w2 h2 => by
    have := find_any hf ht fa.length [] _ [] w2 h2 (by simp) (fun v h => by simp at h) (by simp)
    rw [show ([] : List (List Nat)).length + (allP fa ta fa.length []).length = (resP fa ta).length by simp [resP]] at this
    exact this.mono fun r w' ⟨q1, q2, q3⟩ => ⟨q1, q2, fun hq => by
      obtain ⟨b', hb'⟩ := q3.out hq
      exact ⟨b', hb'⟩⟩
  have HLEN : Hid ((fnsP ta (resP fa ta)).length = (resP fa ta).length) := fns_len _ _
  have HGET : Hid (∀ i (h : i < (resP fa ta).length), (fnsP ta (resP fa ta)).take i ++ [greatQ ta (resP fa ta) i (resP fa ta).length] = (fnsP ta (resP fa ta)).take (i + 1)) := fun i h => by
    rw [List.take_succ_eq_append_getElem (by rw [fns_len]; exact h)]
    congr 2
    have := fns_get ta (resP fa ta) h
    rw [List.getD_eq_getElem?_getD, List.getElem?_eq_getElem (by rw [fns_len]; exact h)] at this
    exact this.symm
  have HRS : Hid (∀ r ∈ resP fa ta, r.length = fa.length ∧ ∀ x ∈ r, x < ta.length) := fun r hr => by
    obtain ⟨h1, h2, _⟩ := (res_mem fa ta r).1 hr
    refine ⟨h1, fun x hx => ?_⟩
    obtain ⟨j, hj, rfl⟩ := List.getElem_of_mem hx
    have := h2 j (by omega)
    rwa [List.getD_eq_getElem?_getD, List.getElem?_eq_getElem hj] at this
  rw [← hP]
  clear hfr hto hfr' hto' hf ht hBW hPW hkW hP HRES
  go_enter Tryz.func68, Tryz.ntmps68
  go_upto_region 2 with fail
  rw [← hW, ← HPE.out]
  clear hW
  by_cases h40 : (resP fa ta).length ≤ 40
  · replace HFI : Hid (∀ w2 : World, FdW P W.heap.size (W.heap.size + 1) pf pt fa ta [] (.slice none 0 0) [] w2 → Calls Tryz.prog 78 #[.pointer (some ⟨P, 0, none⟩), .slice (some ⟨W.heap.size, 0, none⟩) 0 fa.length] w2 fun r w' => r = .returned (.bool true) ∧ Hid (Below P w2 w') ∧ Hid (∃ b', FdW P W.heap.size (W.heap.size + 1) pf pt fa ta [] b' (resP fa ta) w')) := fun w2 h2 => (HFI.out w2 h2).mono fun r w' ⟨q1, q2, q3⟩ => ⟨by rw [q1, decide_eq_true h40], q2, q3.out h40⟩
    have H40 : Hid ((resP fa ta).length ≤ 40) := h40
    clear h40
    have HFN : Hid (∀ (a b : Value) (w' : World), w'.heap[P]? = some (.cells #[a, .pointer (some ⟨pf, 0, none⟩), .pointer (some ⟨pt, 0, none⟩), b] 57 (0, 0)) → RowE ESet w' (fun y => P ≤ y ∧ y < w'.heap.size) (fun y => P ≤ y ∧ y < w'.heap.size) a (fnsP ta (resP fa ta)) → RowE ERs w' (fun y => P ≤ y ∧ y < w'.heap.size) (fun y => P ≤ y ∧ y < w'.heap.size) b (resP fa ta) → FnRes w pf pt fa ta (.returned (.pointer (some ⟨P, 0, none⟩))) w') := fun a b w' h1 h2 h3 => .inl ⟨H40.out, by rw [HPE.out], a, b, by rw [← HPE.out]; exact h1, by rw [← HPE.out]; exact h2, by rw [← HPE.out]; exact h3⟩
    generalize resP fa ta = rs at *
    go_upto_region 4 with (first
      | (go_at_call 33; (with_reducible refine Calls.mono CS ?_); rintro e' w1 ⟨rfl, hw1⟩; subst hw1)
      | (at_make; refine wpList_make_own _ rfl _ _ 25 rfl w1.heap.size 3 ti z 1 Tryz.underlying25 hi hz hk .i64 .i64 _ fa.length rfl rfl rfl (by rw [hby]; omega) (by unfold maxLen; omega) (Nat.le_refl _) ?_; intro w2 ho2 hg2)
      | (go_at_call 78; (with_reducible refine Calls.mono (HFI.out w2 (HST.out w2 ho2 hg2).1) ?_); rintro e' w3 ⟨rfl, hB3, hF3⟩))
    obtain ⟨b, hF⟩ := hF3.out
    have HBB : Hid (Below P w w3) := (HST.out w2 ho2 hg2).2.trans hB3.out
    obtain ⟨ab, cb, rfl⟩ := hF.own.len
    have HRW : Hid (RowE ERs w3 (fun y => w1.heap.size < y ∧ y < w3.heap.size) (fun y => w1.heap.size < y ∧ y < w3.heap.size) (.slice ab rs.length cb) rs) := (OwnN.rowE hF.own).on (Keeps.refl _ _) (Keeps.refl _ _) (fun y h => h) fun y h => by
      rcases h with h | h
      · exact h.elim
      · exact h
    have HTT : Hid (AbAt w3 (fun y => y < P) pt ta) := hF.tt
    have HP3 : Hid (w3.heap[P]? = some (.cells #[.slice none 0 0, .pointer (some ⟨pf, 0, none⟩), .pointer (some ⟨pt, 0, none⟩), .slice ab rs.length cb] 57 (0, 0))) := hF.blk
    have c3 : w3.cell? ⟨P, 3, none⟩ = some (.slice ab rs.length cb) := heap_cl hF.blk rfl
    have h40 : rs.length ≤ 40 := H40.out
    clear hF hF3 hB3 HFI HST ho2 hg2 CS hi hz hk hby hzs
    go_upto_region 5 with fail
    clear c3
    go_loopw [22] (fun iv wr => ∃ (i : Nat) (v : Value), i ≤ rs.length ∧ iv = .int .i64 i ∧ Hid (Below P w wr) ∧ Hid (wr.heap[P]? = some (.cells #[v, .pointer (some ⟨pf, 0, none⟩), .pointer (some ⟨pt, 0, none⟩), .slice ab rs.length cb] 57 (0, 0))) ∧ Hid (OwnN ESet 80 w3.heap.size (fun _ => False) wr v ((fnsP ta rs).take i)) ∧ Hid (Keeps (fun y => y < w3.heap.size ∧ y ≠ P) w3 wr) ∧ Hid (w3.heap.size ≤ wr.heap.size)) (fun iv _ => rs.length - (intOf iv).toNat)
    case atStart => exact ⟨0, _, by omega, by go_num, HBB.out, HP3.out, by rw [List.take_zero]; exact OwnN.nil _ _ _ _ _, Keeps.refl _ _, Nat.le_refl _⟩
    case round =>
      have HP3l : Hid (P < w3.heap.size) := lt_heap HP3.out
      clear HBB HP3
      obtain ⟨i, v, hi, rfl, HB, HP, HO, HK, HS⟩ := hrel
      by_cases hil : i < rs.length
      · replace HB : Hid (Below P w wr.drew) := HB.out.drew
        replace HP : Hid (wr.drew.heap[P]? = some (.cells #[v, .pointer (some ⟨pf, 0, none⟩), .pointer (some ⟨pt, 0, none⟩), .slice ab rs.length cb] 57 (0, 0))) := HP.out
        replace HK : Hid (Keeps (fun y => y < w3.heap.size ∧ y ≠ P) w3 wr.drew) := HK.out
        replace HS : Hid (w3.heap.size ≤ wr.drew.heap.size) := HS.out
        replace HO : Hid (OwnN ESet 80 w3.heap.size (fun _ => False) wr.drew v ((fnsP ta rs).take i)) := OwnN.on HO.out (fun _ h => h.elim) HS.out ((Below.refl _ _).drew)
        have CG : Calls Tryz.prog 79 #[.pointer (some ⟨P, 0, none⟩), .int .i64 i] wr.drew fun r w' => r = .returned (.int .u64 ((greatQ ta rs i rs.length : Nat) : Int)) ∧ Hid (Below wr.drew.heap.size wr.drew w') := by
          have h1 := HS.out
          have h2 := HP3l.out
          have h3 := HIW.out
          refine greater_any (n := fa.length) HP.out (HRW.out.on (HK.out.less fun y h => ⟨h.2, by have := h.1; omega⟩) (HK.out.less fun y h => ⟨h.2, by have := h.1; omega⟩) (fun y h => Nat.lt_of_lt_of_le h.2 h1) (fun y h => Nat.lt_of_lt_of_le h.2 h1)) (HTT.out.on (HK.out.less fun y h => ?_) fun y h => ?_) HT.out (by omega) HRS.out h40 hil
          · have h : y < P := h
            exact ⟨by omega, by omega⟩
          · have h : y < P := h
            omega
        have HQL : Hid (greatQ ta rs i rs.length < 2 ^ rs.length) := great_lt ta rs i rs.length
        have HGi : Hid _ := HGET.out i hil
        have i1 : (0 : Int) ≤ (i : Int) := by omega
        have i2 : (i : Int) < (rs.length : Int) := by omega
        generalize greatQ ta rs i rs.length = gv at *
        go_upto_region 7 with fail
        have hvP : v.ownBlock ≠ some P := fun e => by have := (HO.out.lt P e).1; have := HP3l.out; omega
        have hS0 : (fun w' : World => w'.cell? ⟨P, 0, none⟩ = some v) wr.drew := heap_cl HP.out rfl
        refine wp_region_M (S := (fun w' : World => w'.cell? ⟨P, 0, none⟩ = some v)) (L := 12) (n := 13) (by kernel_rfl) rfl (by kernel_rfl) ?_
        refine wpAnyK_go (i := 0) (m' := 1) (some 25) (v := .pointer (some ⟨P, 0, none⟩)) rfl rfl (by kernel_rfl) (by kernel_rfl) (by kernel_rfl) (by kernel_rfl) (by kernel_rfl) (fun _ _ _ h => h) (Or.inl ⟨by rfl, ?_⟩) hS0 ?_
        · intro w' hSw
          go_simp
        simp only [Act.put, List.setIfInBounds_toArray, List.set_cons_zero, List.set_cons_succ]
        refine wpAnyK_go (i := 1) (m' := 3) (some 26) (v := .pointer (some ⟨P, 0, none⟩)) rfl rfl (by kernel_rfl) (by kernel_rfl) (by kernel_rfl) (by kernel_rfl) (by kernel_rfl) (fun _ _ _ h => h) (Or.inl ⟨by rfl, ?_⟩) hS0 ?_
        · intro w' hSw
          go_simp
        simp only [Act.put, List.setIfInBounds_toArray, List.set_cons_zero, List.set_cons_succ]
        refine wpAnyK_go (i := 2) (m' := 7) (some 27) (v := .pointer (some ⟨P, 0, none⟩)) rfl rfl (by kernel_rfl) (by kernel_rfl) (by kernel_rfl) (by kernel_rfl) (by kernel_rfl) (fun _ _ _ h => h) (Or.inl ⟨by rfl, ?_⟩) hS0 ?_
        · intro w' hSw
          go_simp
        simp only [Act.put, List.setIfInBounds_toArray, List.set_cons_zero, List.set_cons_succ]
        refine wpAnyK_go (i := 3) (m' := 15) (some 28) (v := .pointer (some ⟨P, 0, none⟩)) rfl rfl (by kernel_rfl) (by kernel_rfl) (by kernel_rfl) (by kernel_rfl) (by kernel_rfl) (fun _ _ _ h => h) (Or.inl ⟨by rfl, ?_⟩) hS0 ?_
        · intro w' hSw
          go_simp
        simp only [Act.put, List.setIfInBounds_toArray, List.set_cons_zero, List.set_cons_succ]
        refine wpAnyK_go (i := 4) (m' := 31) (some 29) (v := v) rfl rfl (by kernel_rfl) (by kernel_rfl) (by kernel_rfl) (by kernel_rfl) (by kernel_rfl) (fun _ _ _ h => h) (Or.inl ⟨by rfl, ?_⟩) hS0 ?_
        · intro w' hSw
          replace hSw : w'.cell? ⟨P, 0, none⟩ = some v := hSw
          go_simp
        simp only [Act.put, List.setIfInBounds_toArray, List.set_cons_zero, List.set_cons_succ]
        refine wpAnyK_go (i := 5) (m' := 63) (some 30) (v := .pointer (some ⟨P, 0, none⟩)) rfl rfl (by kernel_rfl) (by kernel_rfl) (by kernel_rfl) (by kernel_rfl) (by kernel_rfl) (fun _ _ _ h => h) (Or.inl ⟨by rfl, ?_⟩) hS0 ?_
        · intro w' hSw
          go_simp
        simp only [Act.put, List.setIfInBounds_toArray, List.set_cons_zero, List.set_cons_succ]
        refine wpAnyK_go (i := 6) (m' := 127) (some 31) (v := .int .i64 i) rfl rfl (by kernel_rfl) (by kernel_rfl) (by kernel_rfl) (by kernel_rfl) (by kernel_rfl) (fun _ _ _ h => h) (Or.inl ⟨by rfl, ?_⟩) hS0 ?_
        · intro w' hSw
          go_simp
        simp only [Act.put, List.setIfInBounds_toArray, List.set_cons_zero, List.set_cons_succ]
        refine wpAnyK_only (i := 7) (m' := 255) (by kernel_rfl) rfl (by kernel_rfl) fun K hK => ?_
        go_simp
        (with_reducible refine Calls.mono CG ?_)
        rintro e' w4 ⟨rfl, HB4⟩
        have hP4 : w4.heap[P]? = some (.cells #[v, .pointer (some ⟨pf, 0, none⟩), .pointer (some ⟨pt, 0, none⟩), .slice ab rs.length cb] 57 (0, 0)) := (HB4.out.block P (lt_heap HP.out)).trans HP.out
        have hS4 : (fun w' : World => w'.cell? ⟨P, 0, none⟩ = some v) w4 := heap_cl hP4 rfl
        go_simp
        refine hK.out _ _ (fun _ => hS4) ?_
        clear hK K CG
        refine wpAnyK_only (i := 8) (m' := 511) (by kernel_rfl) rfl (by kernel_rfl) fun K hK => ?_
        go_simp
        refine hK.out _ _ (fun _ => ((Below.refl _ _).alloc (Nat.le_refl _) _ |>.cell (p := ⟨P, 0, none⟩) (lt_heap hP4)).trans hS4) ?_
        clear hK K
        refine wpAnyK_only (i := 9) (m' := 1023) (by kernel_rfl) rfl (by kernel_rfl) fun K hK => ?_
        refine step_append_N1 (E := ESet) (w1 := wr.drew) (w2 := w4) (cs := [.int .u64 ((gv : Nat) : Int)]) (p := gv) (cap := 1) Tryz.ty60 rfl _ _ rfl rfl HO.out (fun _ h => h.elim) HS.out HB4.out w4.heap.size rfl rfl rfl (by rw [List.length_take]; omega) ?_
        intro g1 cap1 w5 O5 HK5
        have hl1 : (List.take i (fnsP ta rs)).length + 1 = i + 1 := by rw [List.length_take, HLEN.out]; omega
        rw [hl1] at O5 ⊢
        clear hl1
        have hblk5 : w5.heap[P]? = some (.cells #[v, .pointer (some ⟨pf, 0, none⟩), .pointer (some ⟨pt, 0, none⟩), .slice ab rs.length cb] 57 (0, 0)) := (HK5.out.2 P (lt_heap hP4) hvP).trans hP4
        obtain ⟨q1, q2⟩ := put_cell (j := 0) HP3l.out hP4 O5 HK5.out.2 hvP
        have hS5 : (fun w' : World => w'.cell? ⟨P, 0, none⟩ = some v) w5 := heap_cl hblk5 rfl
        have z1 := heap_frozen (o := 0) hblk5
        refine hK.out _ _ (fun _ => hS5) ?_
        clear hK K
        simp only [Act.put, List.setIfInBounds_toArray]
        refine wpAnyK_only (i := 10) (m' := 2047) (by kernel_rfl) rfl (by kernel_rfl) fun K hK => ?_
        go_simp
        refine hK.out _ _ (fun _ => hS5) ?_
        clear hK K
        refine wpAnyK_only (i := 11) (m' := 4095) (by kernel_rfl) rfl (by kernel_rfl) fun K hK => ?_
        go_simp
        refine hK.out _ _ (fun _ => hS5) ?_
        clear hK K
        refine wpAnyK_only (i := 12) (m' := 8191) (by kernel_rfl) rfl (by kernel_rfl) fun K hK => ?_
        have y1 : w5.cell? ⟨P, 0, none⟩ = some v := hS5
        go_simp
        refine hK.out _ _ (fun h => absurd rfl h) ?_
        clear hK K
        refine wpAnyK_done (by kernel_rfl) ?_ _
        have hB5 : Below w3.heap.size wr.drew w5 := HK5.out.1
        have hPl := HP3l.out
        replace HB : Hid (Below P w (w5.setCell ⟨P, 0, none⟩ (.slice (some ⟨g1, 0, none⟩) (i + 1) cap1))) := (HB.out.trans (hB5.mono (Nat.le_of_lt hPl))).setCell (show P ≤ (⟨P, 0, none⟩ : Addr).block from Nat.le_refl _) _
        replace HK : Hid (Keeps (fun y => y < w3.heap.size ∧ y ≠ P) w3 (w5.setCell ⟨P, 0, none⟩ (.slice (some ⟨g1, 0, none⟩) (i + 1) cap1))) := fun y hy => by
          rw [Below.heap_setCell _ _ _ _ (by show y ≠ P; exact hy.2), hB5.block y hy.1]
          exact HK.out y hy
        replace HS : Hid (w3.heap.size ≤ (w5.setCell ⟨P, 0, none⟩ (.slice (some ⟨g1, 0, none⟩) (i + 1) cap1)).heap.size) := by
          show _ ≤ _
          rw [World.size_setCell]
          exact Nat.le_trans HS.out hB5.size
        replace q1 : Hid _ := q1
        replace q2 : Hid _ := q2
        clear HP HO hS0 hS4 hS5 HK5 O5 z1 y1 hblk5 hB5 HB4 hP4 HQL hPl
        generalize w5.setCell ⟨P, 0, none⟩ (.slice (some ⟨g1, 0, none⟩) (i + 1) cap1) = w6 at *
        go_wp2
        go_roundw
        case rel => exact ⟨i + 1, _, hil, by go_num, HB.out, q1.out, by have h := q2.out; rw [HGi.out] at h; exact h, HK.out, HS.out⟩
        case measure => simp [intOf]; omega
      · obtain rfl : i = rs.length := by omega
        go_wp2
        go_ret
        have hPl := HP3l.out
        have hs := HS.out
        have hiw := HIW.out
        refine ⟨HB.out, HFN.out v _ wr HP.out ?_ (HRW.out.on (HK.out.less fun y h => ⟨h.2, by have := h.1; omega⟩) (HK.out.less fun y h => ⟨h.2, by have := h.1; omega⟩) (fun y h => ⟨by have := h.1; omega, by have := h.2; omega⟩) (fun y h => ⟨by have := h.1; omega, by have := h.2; omega⟩))⟩
        have h := HO.out
        rw [List.take_of_length_le (by rw [HLEN.out]; exact Nat.le_refl _)] at h
        exact (OwnN.rowE h).on (Keeps.refl _ _) (Keeps.refl _ _) (fun y h => ⟨by have := h.1; omega, h.2⟩) fun y h => by
          rcases h with h | h
          · exact h.elim
          · exact ⟨by have := h.1; omega, h.2⟩
  · replace HFI : Hid (∀ w2 : World, FdW P W.heap.size (W.heap.size + 1) pf pt fa ta [] (.slice none 0 0) [] w2 → Calls Tryz.prog 78 #[.pointer (some ⟨P, 0, none⟩), .slice (some ⟨W.heap.size, 0, none⟩) 0 fa.length] w2 fun r w' => r = .returned (.bool false) ∧ Hid (Below P w2 w')) := fun w2 h2 => (HFI.out w2 h2).mono fun r w' ⟨q1, q2, q3⟩ => ⟨by rw [q1, decide_eq_false h40], q2⟩
    have HFN : Hid (∀ w' : World, FnRes w pf pt fa ta (.returned (.pointer none)) w') := fun w' => .inr ⟨by omega, rfl⟩
    clear h40 HGET HLEN HRS HF HT
    go_wp2_with (first
      | (go_at_call 33; (with_reducible refine Calls.mono CS ?_); rintro e' w1 ⟨rfl, hw1⟩; subst hw1)
      | (at_make; refine wpList_make_own _ rfl _ _ 25 rfl w1.heap.size 3 ti z 1 Tryz.underlying25 hi hz hk .i64 .i64 _ fa.length rfl rfl rfl (by rw [hby]; omega) (by unfold maxLen; omega) (Nat.le_refl _) ?_; intro w2 ho2 hg2)
      | (go_at_call 78; (with_reducible refine Calls.mono (HFI.out w2 (HST.out w2 ho2 hg2).1) ?_); rintro e' w3 ⟨rfl, hB3⟩))
    go_ret
    exact ⟨(HST.out w2 ho2 hg2).2.trans hB3.out, HFN.out w3⟩
end Go.Proofs.YtgdflaapgfpdeaaGreatDoor
