/- greater: a function and all that it is below of. -/
import Derived.Test.YtgdflaapgfpdeaaDoorMix
namespace Go.Proofs.YtgdflaapgfpdeaaDoor
open Go.RowKit

/-- A row of results, one of them. -/
theorem ers_at {w : World} {Z S : Nat → Prop} {v : Value} {rs : List (List Nat)} (h : RowE ERs w Z S v rs) (h0 : rs ≠ []) : ∃ g o cap, v = .slice (some ⟨g, o, none⟩) rs.length cap ∧ rs.length ≤ cap ∧ ∀ j (hj : j < rs.length), Z g ∧ ∃ ad c, w.cell? ⟨g, o + j, none⟩ = some (.slice ad rs[j].length c) ∧ Nts w S (.slice ad rs[j].length c) rs[j] := by
  rcases h with ⟨h, _⟩ | ⟨g, o, cap, rfl, _, hc, h⟩
  · exact absurd h h0
  · refine ⟨g, o, cap, rfl, hc, fun j hj => ?_⟩
    obtain ⟨hz, cs, ⟨ad, c, rfl, h2⟩, h3⟩ := h j hj
    have := h3 0 (by decide)
    refine ⟨hz, ad, c, ?_, h2⟩
    simpa [ERs] using this
theorem shl_bit (i : Nat) (hi : i < 64) : IntKind.u64.wrap (2 ^ min i 64) = ((2 ^ i : Nat) : Int) := by
  have h1 := two_pow_lt hi
  have e : ((2 : Int) ^ min i 64) = ((2 ^ i : Nat) : Int) := by
    rw [Nat.min_eq_left (by omega)]
    simp
  rw [e, IntKind.wrap_u64]
  generalize 2 ^ i = q at *
  omega
set_option maxHeartbeats 8000000 in
set_option maxRecDepth 10000 in
theorem greater_any {w : World} {P pf pt : Nat} {a v : Value} {ta : List Nat} {rs : List (List Nat)} {n f : Nat} (hblk : w.heap[P]? = some (.cells #[a, .pointer (some ⟨pf, 0, none⟩), .pointer (some ⟨pt, 0, none⟩), v] 62 (0, 0))) (hrow : RowE ERs w (fun y => y < w.heap.size) (fun y => y < w.heap.size) v rs) (ht : AbAt w (fun y => y < w.heap.size) pt ta) (hl : Lat ta) (hn : n ≤ 1000) (hrs : ∀ r ∈ rs, r.length = n ∧ ∀ x ∈ r, x < ta.length) (h40 : rs.length ≤ 40) (hf : f < rs.length) :
    Calls Tryd.prog 54 #[.pointer (some ⟨P, 0, none⟩), .int .i64 f] w fun r w' => r = .returned (.int .u64 ((greatQ ta rs f rs.length : Nat) : Int)) ∧ Hid (Below w.heap.size w w') := by
  obtain ⟨g, o, cap, rfl, hcap, hel⟩ := ers_at hrow (fun e => by rw [e] at hf; simp at hf)
  have hPl := lt_heap hblk
  have HSA : Hid (∀ wr : World, Below w.heap.size w wr → wr.cell? ⟨P, 3, none⟩ = some (.slice (some ⟨g, o, none⟩) rs.length cap) ∧ wr.cell? ⟨P, 2, none⟩ = some (.pointer (some ⟨pt, 0, none⟩)) ∧ ∀ i (hi : i < rs.length), ∃ af lf cf ag lg cg, wr.cell? ⟨g, o + f, none⟩ = some (.slice af lf cf) ∧ wr.cell? ⟨g, o + i, none⟩ = some (.slice ag lg cg) ∧ Calls Tryd.prog 63 #[.slice af lf cf, .slice ag lg cg, .func (.func 20) #[.pointer (some ⟨pt, 0, none⟩)] #[]] wr fun r w' => r = .returned (.bool (underP ta (rs.getD f []) (rs.getD i []))) ∧ w' = wr) := fun wr hb => by
    have hk : Keeps (fun y => y < w.heap.size) w wr := Keeps.of hb fun _ h => h
    refine ⟨(hb.cell (p := ⟨P, 3, none⟩) hPl).trans (heap_cl hblk rfl), (hb.cell (p := ⟨P, 2, none⟩) hPl).trans (heap_cl hblk rfl), fun i hi => ?_⟩
    obtain ⟨z1, af, cf, a1, a2⟩ := hel f hf
    obtain ⟨_, ag, cg, b1, b2⟩ := hel i hi
    refine ⟨af, _, cf, ag, _, cg, (hb.cell (p := ⟨g, o + f, none⟩) z1).trans a1, (hb.cell (p := ⟨g, o + i, none⟩) z1).trans b1, ?_⟩
    have r1 := hrs _ (List.getElem_mem hf)
    have r2 := hrs _ (List.getElem_mem hi)
    have hfew := hl.few
    have := equal_any (ht.on hk fun _ h => h) (a2.on hk fun _ h => h) (b2.on hk fun _ h => h) (by rw [r1.1, r2.1]) (by rw [r1.1]; exact hn) r1.2 (fun x hx => by have := r2.2 x hx; omega) (lat_lt hl)
    rwa [show rs.getD f [] = rs[f] by simp [hf], show rs.getD i [] = rs[i] by simp [hi]]
  have HQ : Hid (∀ k, greatQ ta rs f (k + 1) = if f ≤ k && underP ta (rs.getD f []) (rs.getD k []) then greatQ ta rs f k ||| 2 ^ k else greatQ ta rs f k) := fun k => rfl
  have HQL : Hid (∀ k, k ≤ 40 → greatQ ta rs f k < 18446744073709551616) := fun k hk => Nat.lt_of_lt_of_le (great_lt ta rs f k) (Nat.le_trans (Nat.pow_le_pow_right (by decide) hk) (by decide))
  have HQ0 : Hid (greatQ ta rs f 0 = 0) := rfl
  have c3 := (HSA.out w (Below.refl _ _)).1
  have j0 : (0 : Int) ≤ (f : Int) := by omega
  have j1 : (f : Int) < (rs.length : Int) := by omega
  clear hblk hrow ht hl hrs hel hn
  generalize greatQ ta rs f = G at *
  go_enter Tryd.func54, Tryd.ntmps54
  go_upto_region 3 with fail
  clear c3
  go_loopw [5, 12] (fun mv iv wr => ∃ i : Nat, i ≤ rs.length ∧ iv = .int .i64 i ∧ mv = .int .u64 ((G i : Nat) : Int) ∧ Hid (Below w.heap.size w wr)) (fun _ iv _ => rs.length - (intOf iv).toNat)
  case atStart => exact ⟨0, by omega, by go_num, by rw [HQ0.out]; rfl, Below.refl _ _⟩
  case round =>
    obtain ⟨i, hi, rfl, rfl, HB⟩ := hrel
    by_cases hil : i < rs.length
    · have i1 : (0 : Int) ≤ (i : Int) := by omega
      have i2 : (i : Int) < (rs.length : Int) := by omega
      replace HB : Hid (Below w.heap.size w wr.drew) := HB.out.drew
      obtain ⟨t1, t2, t3⟩ := HSA.out wr.drew HB.out
      obtain ⟨af, lf, cf, ag, lg, cg, t4, t5, CE⟩ := t3 i hil
      have hS0 : (fun w' : World => w'.cell? ⟨P, 3, none⟩ = some (.slice (some ⟨g, o, none⟩) rs.length cap) ∧ w'.cell? ⟨g, o + f, none⟩ = some (.slice af lf cf) ∧ w'.cell? ⟨g, o + i, none⟩ = some (.slice ag lg cg) ∧ w'.cell? ⟨P, 2, none⟩ = some (.pointer (some ⟨pt, 0, none⟩))) wr.drew := ⟨t1, t4, t5, t2⟩
      have HQi := HQ.out i
      have HGi : Hid (G i < 18446744073709551616) := HQL.out i (by omega)
      have hi64 : i < 64 := by omega
      clear t1 t2 t3 t4 t5
      go_upto_region 5 with fail
      by_cases hfi : f ≤ i
      · have k1 : (f : Int) ≤ (i : Int) := by omega
        rw [decide_eq_true hfi, Bool.true_and] at HQi
        generalize underP ta (rs.getD f []) (rs.getD i []) = ub at *
        refine wp_region_M (S := (fun w' : World => w'.cell? ⟨P, 3, none⟩ = some (.slice (some ⟨g, o, none⟩) rs.length cap) ∧ w'.cell? ⟨g, o + f, none⟩ = some (.slice af lf cf) ∧ w'.cell? ⟨g, o + i, none⟩ = some (.slice ag lg cg) ∧ w'.cell? ⟨P, 2, none⟩ = some (.pointer (some ⟨pt, 0, none⟩)))) (L := 25) (n := 25) (by kernel_rfl) rfl (by kernel_rfl) ?_
        refine wpAnyK_go (i := 0) (m' := 1) (some 15) (v := .int .i64 f) rfl rfl (by kernel_rfl) (by kernel_rfl) (by kernel_rfl) (by kernel_rfl) (by kernel_rfl) (fun _ _ _ h => h) (Or.inl ⟨by rfl, ?_⟩) hS0 ?_
        · intro w' hSw
          go_simp
        simp only [Act.put, List.setIfInBounds_toArray, List.set_cons_zero, List.set_cons_succ]
        refine wpAnyK_go (i := 1) (m' := 3) (some 16) (v := .int .i64 i) rfl rfl (by kernel_rfl) (by kernel_rfl) (by kernel_rfl) (by kernel_rfl) (by kernel_rfl) (fun _ _ _ h => h) (Or.inl ⟨by rfl, ?_⟩) hS0 ?_
        · intro w' hSw
          go_simp
        simp only [Act.put, List.setIfInBounds_toArray, List.set_cons_zero, List.set_cons_succ]
        refine wpAnyK_go (i := 2) (m' := 7) (some 17) (v := .bool true) rfl rfl (by kernel_rfl) (by kernel_rfl) (by kernel_rfl) (by kernel_rfl) (by kernel_rfl) (fun _ _ _ h => h) (Or.inl ⟨by rfl, ?_⟩) hS0 ?_
        · intro w' hSw
          go_simp
        simp only [Act.put, List.setIfInBounds_toArray, List.set_cons_zero, List.set_cons_succ]
        refine wpAnyK_go (i := 3) (m' := 15) (some 18) (v := .bool true) rfl rfl (by kernel_rfl) (by kernel_rfl) (by kernel_rfl) (by kernel_rfl) (by kernel_rfl) (fun _ _ _ h => h) (Or.inl ⟨by rfl, ?_⟩) hS0 ?_
        · intro w' hSw
          go_simp
        simp only [Act.put, List.setIfInBounds_toArray, List.set_cons_zero, List.set_cons_succ]
        refine wpAnyK_go (i := 4) (m' := 31) (some 19) (v := .pointer (some ⟨P, 0, none⟩)) rfl rfl (by kernel_rfl) (by kernel_rfl) (by kernel_rfl) (by kernel_rfl) (by kernel_rfl) (fun _ _ _ h => h) (Or.inl ⟨by rfl, ?_⟩) hS0 ?_
        · intro w' hSw
          go_simp
        simp only [Act.put, List.setIfInBounds_toArray, List.set_cons_zero, List.set_cons_succ]
        refine wpAnyK_go (i := 5) (m' := 63) (some 20) (v := .pointer (some ⟨P, 0, none⟩)) rfl rfl (by kernel_rfl) (by kernel_rfl) (by kernel_rfl) (by kernel_rfl) (by kernel_rfl) (fun _ _ _ h => h) (Or.inl ⟨by rfl, ?_⟩) hS0 ?_
        · intro w' hSw
          go_simp
        simp only [Act.put, List.setIfInBounds_toArray, List.set_cons_zero, List.set_cons_succ]
        refine wpAnyK_go (i := 6) (m' := 127) (some 21) (v := .pointer (some ⟨P, 3, none⟩)) rfl rfl (by kernel_rfl) (by kernel_rfl) (by kernel_rfl) (by kernel_rfl) (by kernel_rfl) (fun _ _ _ h => h) (Or.inl ⟨by rfl, ?_⟩) hS0 ?_
        · intro w' hSw
          go_simp
        simp only [Act.put, List.setIfInBounds_toArray, List.set_cons_zero, List.set_cons_succ]
        refine wpAnyK_go (i := 7) (m' := 255) (some 22) (v := .slice (some ⟨g, o, none⟩) rs.length cap) rfl rfl (by kernel_rfl) (by kernel_rfl) (by kernel_rfl) (by kernel_rfl) (by kernel_rfl) (fun _ _ _ h => h) (Or.inl ⟨by rfl, ?_⟩) hS0 ?_
        · intro w' hSw
          obtain ⟨s1, s2, s3, s4⟩ := hSw
          go_simp
        simp only [Act.put, List.setIfInBounds_toArray, List.set_cons_zero, List.set_cons_succ]
        refine wpAnyK_go (i := 8) (m' := 511) (some 23) (v := .int .i64 f) rfl rfl (by kernel_rfl) (by kernel_rfl) (by kernel_rfl) (by kernel_rfl) (by kernel_rfl) (fun _ _ _ h => h) (Or.inl ⟨by rfl, ?_⟩) hS0 ?_
        · intro w' hSw
          go_simp
        simp only [Act.put, List.setIfInBounds_toArray, List.set_cons_zero, List.set_cons_succ]
        refine wpAnyK_go (i := 9) (m' := 1023) (some 24) (v := .pointer (some ⟨g, o + f, none⟩)) rfl rfl (by kernel_rfl) (by kernel_rfl) (by kernel_rfl) (by kernel_rfl) (by kernel_rfl) (fun _ _ _ h => h) (Or.inl ⟨by rfl, ?_⟩) hS0 ?_
        · intro w' hSw
          go_simp
        simp only [Act.put, List.setIfInBounds_toArray, List.set_cons_zero, List.set_cons_succ]
        refine wpAnyK_go (i := 10) (m' := 2047) (some 25) (v := .slice af lf cf) rfl rfl (by kernel_rfl) (by kernel_rfl) (by kernel_rfl) (by kernel_rfl) (by kernel_rfl) (fun _ _ _ h => h) (Or.inl ⟨by rfl, ?_⟩) hS0 ?_
        · intro w' hSw
          obtain ⟨s1, s2, s3, s4⟩ := hSw
          go_simp
        simp only [Act.put, List.setIfInBounds_toArray, List.set_cons_zero, List.set_cons_succ]
        refine wpAnyK_go (i := 11) (m' := 4095) (some 26) (v := .pointer (some ⟨P, 0, none⟩)) rfl rfl (by kernel_rfl) (by kernel_rfl) (by kernel_rfl) (by kernel_rfl) (by kernel_rfl) (fun _ _ _ h => h) (Or.inl ⟨by rfl, ?_⟩) hS0 ?_
        · intro w' hSw
          go_simp
        simp only [Act.put, List.setIfInBounds_toArray, List.set_cons_zero, List.set_cons_succ]
        refine wpAnyK_go (i := 12) (m' := 8191) (some 27) (v := .pointer (some ⟨P, 0, none⟩)) rfl rfl (by kernel_rfl) (by kernel_rfl) (by kernel_rfl) (by kernel_rfl) (by kernel_rfl) (fun _ _ _ h => h) (Or.inl ⟨by rfl, ?_⟩) hS0 ?_
        · intro w' hSw
          go_simp
        simp only [Act.put, List.setIfInBounds_toArray, List.set_cons_zero, List.set_cons_succ]
        refine wpAnyK_go (i := 13) (m' := 16383) (some 28) (v := .pointer (some ⟨P, 3, none⟩)) rfl rfl (by kernel_rfl) (by kernel_rfl) (by kernel_rfl) (by kernel_rfl) (by kernel_rfl) (fun _ _ _ h => h) (Or.inl ⟨by rfl, ?_⟩) hS0 ?_
        · intro w' hSw
          go_simp
        simp only [Act.put, List.setIfInBounds_toArray, List.set_cons_zero, List.set_cons_succ]
        refine wpAnyK_go (i := 14) (m' := 32767) (some 29) (v := .slice (some ⟨g, o, none⟩) rs.length cap) rfl rfl (by kernel_rfl) (by kernel_rfl) (by kernel_rfl) (by kernel_rfl) (by kernel_rfl) (fun _ _ _ h => h) (Or.inl ⟨by rfl, ?_⟩) hS0 ?_
        · intro w' hSw
          obtain ⟨s1, s2, s3, s4⟩ := hSw
          go_simp
        simp only [Act.put, List.setIfInBounds_toArray, List.set_cons_zero, List.set_cons_succ]
        refine wpAnyK_go (i := 15) (m' := 65535) (some 30) (v := .int .i64 i) rfl rfl (by kernel_rfl) (by kernel_rfl) (by kernel_rfl) (by kernel_rfl) (by kernel_rfl) (fun _ _ _ h => h) (Or.inl ⟨by rfl, ?_⟩) hS0 ?_
        · intro w' hSw
          go_simp
        simp only [Act.put, List.setIfInBounds_toArray, List.set_cons_zero, List.set_cons_succ]
        refine wpAnyK_go (i := 16) (m' := 131071) (some 31) (v := .pointer (some ⟨g, o + i, none⟩)) rfl rfl (by kernel_rfl) (by kernel_rfl) (by kernel_rfl) (by kernel_rfl) (by kernel_rfl) (fun _ _ _ h => h) (Or.inl ⟨by rfl, ?_⟩) hS0 ?_
        · intro w' hSw
          go_simp
        simp only [Act.put, List.setIfInBounds_toArray, List.set_cons_zero, List.set_cons_succ]
        refine wpAnyK_go (i := 17) (m' := 262143) (some 32) (v := .slice ag lg cg) rfl rfl (by kernel_rfl) (by kernel_rfl) (by kernel_rfl) (by kernel_rfl) (by kernel_rfl) (fun _ _ _ h => h) (Or.inl ⟨by rfl, ?_⟩) hS0 ?_
        · intro w' hSw
          obtain ⟨s1, s2, s3, s4⟩ := hSw
          go_simp
        simp only [Act.put, List.setIfInBounds_toArray, List.set_cons_zero, List.set_cons_succ]
        refine wpAnyK_go (i := 18) (m' := 524287) (some 33) (v := .pointer (some ⟨P, 0, none⟩)) rfl rfl (by kernel_rfl) (by kernel_rfl) (by kernel_rfl) (by kernel_rfl) (by kernel_rfl) (fun _ _ _ h => h) (Or.inl ⟨by rfl, ?_⟩) hS0 ?_
        · intro w' hSw
          go_simp
        simp only [Act.put, List.setIfInBounds_toArray, List.set_cons_zero, List.set_cons_succ]
        refine wpAnyK_go (i := 19) (m' := 1048575) (some 34) (v := .pointer (some ⟨P, 0, none⟩)) rfl rfl (by kernel_rfl) (by kernel_rfl) (by kernel_rfl) (by kernel_rfl) (by kernel_rfl) (fun _ _ _ h => h) (Or.inl ⟨by rfl, ?_⟩) hS0 ?_
        · intro w' hSw
          go_simp
        simp only [Act.put, List.setIfInBounds_toArray, List.set_cons_zero, List.set_cons_succ]
        refine wpAnyK_go (i := 20) (m' := 2097151) (some 35) (v := .pointer (some ⟨P, 2, none⟩)) rfl rfl (by kernel_rfl) (by kernel_rfl) (by kernel_rfl) (by kernel_rfl) (by kernel_rfl) (fun _ _ _ h => h) (Or.inl ⟨by rfl, ?_⟩) hS0 ?_
        · intro w' hSw
          go_simp
        simp only [Act.put, List.setIfInBounds_toArray, List.set_cons_zero, List.set_cons_succ]
        refine wpAnyK_go (i := 21) (m' := 4194303) (some 36) (v := .pointer (some ⟨pt, 0, none⟩)) rfl rfl (by kernel_rfl) (by kernel_rfl) (by kernel_rfl) (by kernel_rfl) (by kernel_rfl) (fun _ _ _ h => h) (Or.inl ⟨by rfl, ?_⟩) hS0 ?_
        · intro w' hSw
          obtain ⟨s1, s2, s3, s4⟩ := hSw
          go_simp
        simp only [Act.put, List.setIfInBounds_toArray, List.set_cons_zero, List.set_cons_succ]
        refine wpAnyK_go (i := 22) (m' := 8388607) (some 37) (v := .func (.func 20) #[.pointer (some ⟨pt, 0, none⟩)] #[]) rfl rfl (by kernel_rfl) (by kernel_rfl) (by kernel_rfl) (by kernel_rfl) (by kernel_rfl) (fun _ _ _ h => h) (Or.inl ⟨by rfl, ?_⟩) hS0 ?_
        · intro w' hSw
          go_simp
        simp only [Act.put, List.setIfInBounds_toArray, List.set_cons_zero, List.set_cons_succ]
        refine wpAnyK_only (i := 23) (m' := 16777215) (by kernel_rfl) rfl (by kernel_rfl) fun K hK => ?_
        go_simp
        (with_reducible refine Calls.mono CE ?_)
        rintro e' w2 ⟨rfl, hw2⟩
        subst hw2
        go_simp
        refine hK.out _ _ (fun _ => hS0) ?_
        clear hK K CE
        refine wpAnyK_only (i := 24) (m' := 33554431) (by kernel_rfl) rfl (by kernel_rfl) fun K hK => ?_
        go_simp
        refine hK.out _ _ (fun _ => hS0) ?_
        clear hK K
        refine wpAnyK_done (by kernel_rfl) ?_ _
        clear hS0
        cases ub with
        | true =>
          rw [if_pos rfl] at HQi
          replace HQi : Hid _ := HQi
          have hsh : Hid (IntKind.u64.wrap ((2 : Int) ^ i) = ((2 ^ i : Nat) : Int)) := by
            have h := shl_bit i hi64
            rw [Nat.min_eq_left (by omega)] at h
            exact h
          have hor : Hid _ := bits_or_u64_nat (G i) (2 ^ i) HGi.out (by have := two_pow_lt hi64; omega)
          clear hfi
          go_wp2
          go_roundw
          case rel => exact ⟨i + 1, hil, by go_num, by rw [HQi.out, hsh.out, hor.out], HB.out⟩
          case measure => simp [intOf]; omega
        | false =>
          rw [if_neg (by decide)] at HQi
          replace HQi : Hid _ := HQi
          clear hfi
          go_wp2
          go_roundw
          case rel => exact ⟨i + 1, hil, by go_num, by rw [HQi.out], HB.out⟩
          case measure => simp [intOf]; omega
      · have k1 : ¬ (f : Int) ≤ (i : Int) := by omega
        rw [decide_eq_false hfi, Bool.false_and, if_neg (by decide)] at HQi
        replace HQi : Hid _ := HQi
        clear CE hfi
        refine wp_region_M (S := (fun w' : World => w'.cell? ⟨P, 3, none⟩ = some (.slice (some ⟨g, o, none⟩) rs.length cap) ∧ w'.cell? ⟨g, o + f, none⟩ = some (.slice af lf cf) ∧ w'.cell? ⟨g, o + i, none⟩ = some (.slice ag lg cg) ∧ w'.cell? ⟨P, 2, none⟩ = some (.pointer (some ⟨pt, 0, none⟩)))) (L := 25) (n := 25) (by kernel_rfl) rfl (by kernel_rfl) ?_
        refine wpAnyK_go (i := 0) (m' := 1) (some 15) (v := .int .i64 f) rfl rfl (by kernel_rfl) (by kernel_rfl) (by kernel_rfl) (by kernel_rfl) (by kernel_rfl) (fun _ _ _ h => h) (Or.inl ⟨by rfl, ?_⟩) hS0 ?_
        · intro w' hSw
          go_simp
        simp only [Act.put, List.setIfInBounds_toArray, List.set_cons_zero, List.set_cons_succ]
        refine wpAnyK_go (i := 1) (m' := 3) (some 16) (v := .int .i64 i) rfl rfl (by kernel_rfl) (by kernel_rfl) (by kernel_rfl) (by kernel_rfl) (by kernel_rfl) (fun _ _ _ h => h) (Or.inl ⟨by rfl, ?_⟩) hS0 ?_
        · intro w' hSw
          go_simp
        simp only [Act.put, List.setIfInBounds_toArray, List.set_cons_zero, List.set_cons_succ]
        refine wpAnyK_go (i := 2) (m' := 7) (some 17) (v := .bool false) rfl rfl (by kernel_rfl) (by kernel_rfl) (by kernel_rfl) (by kernel_rfl) (by kernel_rfl) (fun _ _ _ h => h) (Or.inl ⟨by rfl, ?_⟩) hS0 ?_
        · intro w' hSw
          go_simp
        simp only [Act.put, List.setIfInBounds_toArray, List.set_cons_zero, List.set_cons_succ]
        refine wpAnyK_go (i := 3) (m' := 15) (some 18) (v := .bool false) rfl rfl (by kernel_rfl) (by kernel_rfl) (by kernel_rfl) (by kernel_rfl) (by kernel_rfl) (fun _ _ _ h => h) (Or.inl ⟨by rfl, ?_⟩) hS0 ?_
        · intro w' hSw
          go_simp
        simp only [Act.put, List.setIfInBounds_toArray, List.set_cons_zero, List.set_cons_succ]
        refine wpAnyK_go (i := 4) (m' := 31) (some 19) (v := undef) rfl rfl (by kernel_rfl) (by kernel_rfl) (by kernel_rfl) (by kernel_rfl) (by kernel_rfl) (fun _ _ _ h => h) (Or.inr ⟨by rfl, rfl⟩) hS0 ?_
        simp only [Act.put, List.setIfInBounds_toArray, List.set_cons_zero, List.set_cons_succ]
        refine wpAnyK_go (i := 5) (m' := 63) (some 20) (v := undef) rfl rfl (by kernel_rfl) (by kernel_rfl) (by kernel_rfl) (by kernel_rfl) (by kernel_rfl) (fun _ _ _ h => h) (Or.inr ⟨by rfl, rfl⟩) hS0 ?_
        simp only [Act.put, List.setIfInBounds_toArray, List.set_cons_zero, List.set_cons_succ]
        refine wpAnyK_go (i := 6) (m' := 127) (some 21) (v := undef) rfl rfl (by kernel_rfl) (by kernel_rfl) (by kernel_rfl) (by kernel_rfl) (by kernel_rfl) (fun _ _ _ h => h) (Or.inr ⟨by rfl, rfl⟩) hS0 ?_
        simp only [Act.put, List.setIfInBounds_toArray, List.set_cons_zero, List.set_cons_succ]
        refine wpAnyK_go (i := 7) (m' := 255) (some 22) (v := undef) rfl rfl (by kernel_rfl) (by kernel_rfl) (by kernel_rfl) (by kernel_rfl) (by kernel_rfl) (fun _ _ _ h => h) (Or.inr ⟨by rfl, rfl⟩) hS0 ?_
        simp only [Act.put, List.setIfInBounds_toArray, List.set_cons_zero, List.set_cons_succ]
        refine wpAnyK_go (i := 8) (m' := 511) (some 23) (v := undef) rfl rfl (by kernel_rfl) (by kernel_rfl) (by kernel_rfl) (by kernel_rfl) (by kernel_rfl) (fun _ _ _ h => h) (Or.inr ⟨by rfl, rfl⟩) hS0 ?_
        simp only [Act.put, List.setIfInBounds_toArray, List.set_cons_zero, List.set_cons_succ]
        refine wpAnyK_go (i := 9) (m' := 1023) (some 24) (v := undef) rfl rfl (by kernel_rfl) (by kernel_rfl) (by kernel_rfl) (by kernel_rfl) (by kernel_rfl) (fun _ _ _ h => h) (Or.inr ⟨by rfl, rfl⟩) hS0 ?_
        simp only [Act.put, List.setIfInBounds_toArray, List.set_cons_zero, List.set_cons_succ]
        refine wpAnyK_go (i := 10) (m' := 2047) (some 25) (v := undef) rfl rfl (by kernel_rfl) (by kernel_rfl) (by kernel_rfl) (by kernel_rfl) (by kernel_rfl) (fun _ _ _ h => h) (Or.inr ⟨by rfl, rfl⟩) hS0 ?_
        simp only [Act.put, List.setIfInBounds_toArray, List.set_cons_zero, List.set_cons_succ]
        refine wpAnyK_go (i := 11) (m' := 4095) (some 26) (v := undef) rfl rfl (by kernel_rfl) (by kernel_rfl) (by kernel_rfl) (by kernel_rfl) (by kernel_rfl) (fun _ _ _ h => h) (Or.inr ⟨by rfl, rfl⟩) hS0 ?_
        simp only [Act.put, List.setIfInBounds_toArray, List.set_cons_zero, List.set_cons_succ]
        refine wpAnyK_go (i := 12) (m' := 8191) (some 27) (v := undef) rfl rfl (by kernel_rfl) (by kernel_rfl) (by kernel_rfl) (by kernel_rfl) (by kernel_rfl) (fun _ _ _ h => h) (Or.inr ⟨by rfl, rfl⟩) hS0 ?_
        simp only [Act.put, List.setIfInBounds_toArray, List.set_cons_zero, List.set_cons_succ]
        refine wpAnyK_go (i := 13) (m' := 16383) (some 28) (v := undef) rfl rfl (by kernel_rfl) (by kernel_rfl) (by kernel_rfl) (by kernel_rfl) (by kernel_rfl) (fun _ _ _ h => h) (Or.inr ⟨by rfl, rfl⟩) hS0 ?_
        simp only [Act.put, List.setIfInBounds_toArray, List.set_cons_zero, List.set_cons_succ]
        refine wpAnyK_go (i := 14) (m' := 32767) (some 29) (v := undef) rfl rfl (by kernel_rfl) (by kernel_rfl) (by kernel_rfl) (by kernel_rfl) (by kernel_rfl) (fun _ _ _ h => h) (Or.inr ⟨by rfl, rfl⟩) hS0 ?_
        simp only [Act.put, List.setIfInBounds_toArray, List.set_cons_zero, List.set_cons_succ]
        refine wpAnyK_go (i := 15) (m' := 65535) (some 30) (v := undef) rfl rfl (by kernel_rfl) (by kernel_rfl) (by kernel_rfl) (by kernel_rfl) (by kernel_rfl) (fun _ _ _ h => h) (Or.inr ⟨by rfl, rfl⟩) hS0 ?_
        simp only [Act.put, List.setIfInBounds_toArray, List.set_cons_zero, List.set_cons_succ]
        refine wpAnyK_go (i := 16) (m' := 131071) (some 31) (v := undef) rfl rfl (by kernel_rfl) (by kernel_rfl) (by kernel_rfl) (by kernel_rfl) (by kernel_rfl) (fun _ _ _ h => h) (Or.inr ⟨by rfl, rfl⟩) hS0 ?_
        simp only [Act.put, List.setIfInBounds_toArray, List.set_cons_zero, List.set_cons_succ]
        refine wpAnyK_go (i := 17) (m' := 262143) (some 32) (v := undef) rfl rfl (by kernel_rfl) (by kernel_rfl) (by kernel_rfl) (by kernel_rfl) (by kernel_rfl) (fun _ _ _ h => h) (Or.inr ⟨by rfl, rfl⟩) hS0 ?_
        simp only [Act.put, List.setIfInBounds_toArray, List.set_cons_zero, List.set_cons_succ]
        refine wpAnyK_go (i := 18) (m' := 524287) (some 33) (v := undef) rfl rfl (by kernel_rfl) (by kernel_rfl) (by kernel_rfl) (by kernel_rfl) (by kernel_rfl) (fun _ _ _ h => h) (Or.inr ⟨by rfl, rfl⟩) hS0 ?_
        simp only [Act.put, List.setIfInBounds_toArray, List.set_cons_zero, List.set_cons_succ]
        refine wpAnyK_go (i := 19) (m' := 1048575) (some 34) (v := undef) rfl rfl (by kernel_rfl) (by kernel_rfl) (by kernel_rfl) (by kernel_rfl) (by kernel_rfl) (fun _ _ _ h => h) (Or.inr ⟨by rfl, rfl⟩) hS0 ?_
        simp only [Act.put, List.setIfInBounds_toArray, List.set_cons_zero, List.set_cons_succ]
        refine wpAnyK_go (i := 20) (m' := 2097151) (some 35) (v := undef) rfl rfl (by kernel_rfl) (by kernel_rfl) (by kernel_rfl) (by kernel_rfl) (by kernel_rfl) (fun _ _ _ h => h) (Or.inr ⟨by rfl, rfl⟩) hS0 ?_
        simp only [Act.put, List.setIfInBounds_toArray, List.set_cons_zero, List.set_cons_succ]
        refine wpAnyK_go (i := 21) (m' := 4194303) (some 36) (v := undef) rfl rfl (by kernel_rfl) (by kernel_rfl) (by kernel_rfl) (by kernel_rfl) (by kernel_rfl) (fun _ _ _ h => h) (Or.inr ⟨by rfl, rfl⟩) hS0 ?_
        simp only [Act.put, List.setIfInBounds_toArray, List.set_cons_zero, List.set_cons_succ]
        refine wpAnyK_go (i := 22) (m' := 8388607) (some 37) (v := undef) rfl rfl (by kernel_rfl) (by kernel_rfl) (by kernel_rfl) (by kernel_rfl) (by kernel_rfl) (fun _ _ _ h => h) (Or.inr ⟨by rfl, rfl⟩) hS0 ?_
        simp only [Act.put, List.setIfInBounds_toArray, List.set_cons_zero, List.set_cons_succ]
        refine wpAnyK_go (i := 23) (m' := 16777215) (some 38) (v := undef) rfl rfl (by kernel_rfl) (by kernel_rfl) (by kernel_rfl) (by kernel_rfl) (by kernel_rfl) (fun _ _ _ h => h) (Or.inr ⟨by rfl, rfl⟩) hS0 ?_
        simp only [Act.put, List.setIfInBounds_toArray, List.set_cons_zero, List.set_cons_succ]
        refine wpAnyK_only (i := 24) (m' := 33554431) (by kernel_rfl) rfl (by kernel_rfl) fun K hK => ?_
        go_simp
        refine hK.out _ _ (fun _ => hS0) ?_
        clear hK K
        refine wpAnyK_done (by kernel_rfl) ?_ _
        clear hS0
        go_wp2
        go_roundw
        case rel => exact ⟨i + 1, hil, by go_num, by rw [HQi.out], HB.out⟩
        case measure => simp [intOf]; omega
    · obtain rfl : i = rs.length := by omega
      go_wp2
      go_ret
      exact ⟨rfl, HB.out⟩
end Go.Proofs.YtgdflaapgfpdeaaDoor
