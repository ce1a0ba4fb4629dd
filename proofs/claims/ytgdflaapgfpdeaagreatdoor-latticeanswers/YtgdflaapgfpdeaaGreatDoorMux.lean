/- join: the first of those that two are below of. Below and Join. The reference's orders in memory; under. The reference's fits: may a result come next? -/
import Derived.Test.YtgdflaapgfpdeaaGreatDoorMtx
import Derived.Shelf.Spec.TrailingZeros
namespace Go.Proofs.YtgdflaapgfpdeaaGreatDoor
open Go.RowKit

/-- The first bit of a number. -/
theorem ctz_bit (x : Nat) (h0 : x ≠ 0) (h : x < 18446744073709551616) : x.testBit (Lib.ctz 64 x) = true ∧ ∀ j, x.testBit j = true → Lib.ctz 64 x ≤ j := by
  obtain ⟨m, hm, _⟩ := Lib.ctzFrom_spec 64 x (by omega) h
  have e : Lib.ctz 64 x = Lib.ctzFrom 64 x := by
    unfold Lib.ctz
    rw [if_neg h0]
  rw [e]
  generalize Lib.ctzFrom 64 x = c at *
  have hb : ∀ j, x.testBit j = (decide (c ≤ j) && (2 * m + 1).testBit (j - c)) := fun j => by
    rw [hm, Nat.mul_comm, Nat.testBit_mul_two_pow]
  refine ⟨?_, fun j hj => ?_⟩
  · rw [hb, Nat.sub_self]
    simp [Nat.testBit_zero]
  · rw [hb] at hj
    simp only [Bool.and_eq_true, decide_eq_true_eq] at hj
    exact hj.1
def joinP (ab : List Nat) (a b : Nat) : Nat := Lib.ctz 64 (ab.getD a 0 &&& ab.getD b 0)
/-- It is the least one above both. -/
theorem join_lat {ab : List Nat} (h : Lat ab) {a b : Nat} (ha : a < ab.length) (hb : b < ab.length) : ab.getD a 0 &&& ab.getD b 0 ≠ 0 ∧ ab.getD a 0 &&& ab.getD b 0 < 18446744073709551616 ∧ Le ab a (joinP ab a b) ∧ Le ab b (joinP ab a b) ∧ ∀ c, Le ab a c → Le ab b c → Le ab (joinP ab a b) c := by
  obtain ⟨j, h1, h2, h3⟩ := h.join a b ha hb
  have hbit : (ab.getD a 0 &&& ab.getD b 0).testBit j = true := by rw [Nat.testBit_and, h1, h2]; rfl
  have hne : ab.getD a 0 &&& ab.getD b 0 ≠ 0 := fun e => by rw [e] at hbit; simp at hbit
  have hlt : ab.getD a 0 &&& ab.getD b 0 < 18446744073709551616 := by
    refine Nat.lt_of_le_of_lt Nat.and_le_left (lat_lt h _ ?_)
    rw [show ab.getD a 0 = ab[a] by simp [ha]]
    exact List.getElem_mem ha
  obtain ⟨c1, c2⟩ := ctz_bit _ hne hlt
  rw [Nat.testBit_and, Bool.and_eq_true] at c1
  have h4 : Le ab j (joinP ab a b) := h3 _ c1.1 c1.2
  have h5 : joinP ab a b = j := Nat.le_antisymm (c2 j hbit) (h.rise _ _ h4)
  rw [h5]
  exact ⟨hne, hlt, h1, h2, h3⟩
set_option maxHeartbeats 4000000 in
set_option maxRecDepth 10000 in
theorem tz_core (x k idx : Nat) (w : World) (hx0 : ((x : Int) == 0) = false)
    (key : IntKind.u64.wrap (bits BinOp.and IntKind.u64 (x : Int) (IntKind.u64.wrap (-(x : Int))) * 285870213051353865) / 288230376151711744 = (idx : Int))
    (hi : idx < 64) (hk : k < 64) (hcell : w.cell? ⟨0, idx, none⟩ = some (.int .u8 k)) :
    Calls Tryz.prog 48 #[.int .u64 x] w fun r w' => r = .returned (.int .i64 (k : Int)) ∧ w' = w := by
  go_enter Tryz.func48, Tryz.ntmps48
  go_wp2_with (simp only [key])
  go_ret
  exact ⟨rfl, rfl⟩
theorem tz_any (x : Nat) (h0 : x ≠ 0) (hx : x < 18446744073709551616) (w : World) (hT : TabAt 0 Lib.deBruijn64tab w) : Calls Tryz.prog 48 #[.int .u64 x] w fun r w' => r = .returned (.int .i64 (Lib.ctz 64 x : Int)) ∧ w' = w := by
  obtain ⟨hlow, hk⟩ := Lib.lowest_bit 64 x h0 hx
  obtain ⟨hi, htab⟩ := Lib.deBruijn64_at _ hk
  have hcell := hT _ hi
  rw [htab] at hcell
  exact tz_core x _ _ w (by simp; omega) (tz64_key x _ hx h0 hlow) hi hk hcell
set_option maxHeartbeats 8000000 in
set_option maxRecDepth 10000 in
theorem joinO_any {w : World} {S : Nat → Prop} {p : Nat} {ab : List Nat} (h : AbAt w S p ab) (hl : Lat ab) (a b : Nat) (ha : a < ab.length) (hb : b < ab.length) (hT : ∀ w', Below w.heap.size w w' → TabAt 0 Lib.deBruijn64tab w') : Calls Tryz.prog 39 #[.pointer (some ⟨p, 0, none⟩), .int .i64 a, .int .i64 b] w fun r w' => r = .returned (.int .i64 (joinP ab a b : Int)) ∧ Hid (Below w.heap.size w w') := by
  obtain ⟨hne, hlt, _⟩ := join_lat hl ha hb
  obtain ⟨_, ad, cap, h1, h2⟩ := h
  obtain ⟨g, o, rfl, h3, _, h4⟩ := h2.at ha
  obtain ⟨g', o', e, _, _, h5⟩ := h2.at hb
  obtain ⟨rfl, rfl⟩ : g = g' ∧ o = o' := by
    simp only [Option.some.injEq, Addr.mk.injEq, and_true] at e
    exact e
  have HB : Hid (Below w.heap.size w w.drew) := (Below.refl _ _).drew
  have CT := tz_any _ hne hlt w.drew (hT _ HB.out)
  have eJ : Hid (joinP ab a b = Lib.ctz 64 (ab.getD a 0 &&& ab.getD b 0)) := rfl
  have lx : ab.getD a 0 < 18446744073709551616 := by
    rw [show ab.getD a 0 = ab[a] by simp [ha]]
    exact lat_lt hl _ (List.getElem_mem ha)
  have ly : ab.getD b 0 < 18446744073709551616 := by
    rw [show ab.getD b 0 = ab[b] by simp [hb]]
    exact lat_lt hl _ (List.getElem_mem hb)
  rw [show ab[a] = ab.getD a 0 by simp [ha]] at h4
  rw [show ab[b] = ab.getD b 0 by simp [hb]] at h5
  have i1 : (0 : Int) ≤ (a : Int) := by omega
  have i2 : (a : Int) < (ab.length : Int) := by omega
  have i3 : (0 : Int) ≤ (b : Int) := by omega
  have i4 : (b : Int) < (ab.length : Int) := by omega
  generalize ab.getD a 0 = x at *
  generalize ab.getD b 0 = y at *
  have hand := bits_and_u64_nat x y lx ly
  generalize ab.length = n at *
  have hS0 : (fun w' : World => w'.cell? ⟨p, 0, none⟩ = some (.slice (some ⟨g, o, none⟩) n cap) ∧ w'.cell? ⟨g, o + a, none⟩ = some (.int .u64 (x : Int)) ∧ w'.cell? ⟨g, o + b, none⟩ = some (.int .u64 (y : Int))) w.drew := ⟨h1, h4, h5⟩
  clear h1 h2 h4 h5 hT hl ha hb e
  go_enter Tryz.func39, Tryz.ntmps39
  go_upto_region 1 with fail
  refine wp_region_M (S := (fun w' : World => w'.cell? ⟨p, 0, none⟩ = some (.slice (some ⟨g, o, none⟩) n cap) ∧ w'.cell? ⟨g, o + a, none⟩ = some (.int .u64 (x : Int)) ∧ w'.cell? ⟨g, o + b, none⟩ = some (.int .u64 (y : Int)))) (L := 17) (n := 17) (by kernel_rfl) rfl (by kernel_rfl) ?_
  refine wpAnyK_go (i := 0) (m' := 1) (some 7) (v := .pointer (some ⟨p, 0, none⟩)) rfl rfl (by kernel_rfl) (by kernel_rfl) (by kernel_rfl) (by kernel_rfl) (by kernel_rfl) (fun _ _ _ h => h) (Or.inl ⟨by rfl, ?_⟩) hS0 ?_
  · intro w' hSw
    go_simp
  simp only [Act.put, List.setIfInBounds_toArray, List.set_cons_zero, List.set_cons_succ]
  refine wpAnyK_go (i := 1) (m' := 3) (some 8) (v := .pointer (some ⟨p, 0, none⟩)) rfl rfl (by kernel_rfl) (by kernel_rfl) (by kernel_rfl) (by kernel_rfl) (by kernel_rfl) (fun _ _ _ h => h) (Or.inl ⟨by rfl, ?_⟩) hS0 ?_
  · intro w' hSw
    go_simp
  simp only [Act.put, List.setIfInBounds_toArray, List.set_cons_zero, List.set_cons_succ]
  refine wpAnyK_go (i := 2) (m' := 7) (some 9) (v := .pointer (some ⟨p, 0, none⟩)) rfl rfl (by kernel_rfl) (by kernel_rfl) (by kernel_rfl) (by kernel_rfl) (by kernel_rfl) (fun _ _ _ h => h) (Or.inl ⟨by rfl, ?_⟩) hS0 ?_
  · intro w' hSw
    go_simp
  simp only [Act.put, List.setIfInBounds_toArray, List.set_cons_zero, List.set_cons_succ]
  refine wpAnyK_go (i := 3) (m' := 15) (some 10) (v := .slice (some ⟨g, o, none⟩) n cap) rfl rfl (by kernel_rfl) (by kernel_rfl) (by kernel_rfl) (by kernel_rfl) (by kernel_rfl) (fun _ _ _ h => h) (Or.inl ⟨by rfl, ?_⟩) hS0 ?_
  · intro w' hSw
    obtain ⟨s1, s2, s3⟩ := hSw
    go_simp
  simp only [Act.put, List.setIfInBounds_toArray, List.set_cons_zero, List.set_cons_succ]
  refine wpAnyK_go (i := 4) (m' := 31) (some 11) (v := .int .i64 (a : Int)) rfl rfl (by kernel_rfl) (by kernel_rfl) (by kernel_rfl) (by kernel_rfl) (by kernel_rfl) (fun _ _ _ h => h) (Or.inl ⟨by rfl, ?_⟩) hS0 ?_
  · intro w' hSw
    go_simp
  simp only [Act.put, List.setIfInBounds_toArray, List.set_cons_zero, List.set_cons_succ]
  refine wpAnyK_go (i := 5) (m' := 63) (some 12) (v := .pointer (some ⟨g, o + a, none⟩)) rfl rfl (by kernel_rfl) (by kernel_rfl) (by kernel_rfl) (by kernel_rfl) (by kernel_rfl) (fun _ _ _ h => h) (Or.inl ⟨by rfl, ?_⟩) hS0 ?_
  · intro w' hSw
    go_simp
  simp only [Act.put, List.setIfInBounds_toArray, List.set_cons_zero, List.set_cons_succ]
  refine wpAnyK_go (i := 6) (m' := 127) (some 13) (v := .int .u64 (x : Int)) rfl rfl (by kernel_rfl) (by kernel_rfl) (by kernel_rfl) (by kernel_rfl) (by kernel_rfl) (fun _ _ _ h => h) (Or.inl ⟨by rfl, ?_⟩) hS0 ?_
  · intro w' hSw
    obtain ⟨s1, s2, s3⟩ := hSw
    go_simp
  simp only [Act.put, List.setIfInBounds_toArray, List.set_cons_zero, List.set_cons_succ]
  refine wpAnyK_go (i := 7) (m' := 255) (some 14) (v := .pointer (some ⟨p, 0, none⟩)) rfl rfl (by kernel_rfl) (by kernel_rfl) (by kernel_rfl) (by kernel_rfl) (by kernel_rfl) (fun _ _ _ h => h) (Or.inl ⟨by rfl, ?_⟩) hS0 ?_
  · intro w' hSw
    go_simp
  simp only [Act.put, List.setIfInBounds_toArray, List.set_cons_zero, List.set_cons_succ]
  refine wpAnyK_go (i := 8) (m' := 511) (some 15) (v := .pointer (some ⟨p, 0, none⟩)) rfl rfl (by kernel_rfl) (by kernel_rfl) (by kernel_rfl) (by kernel_rfl) (by kernel_rfl) (fun _ _ _ h => h) (Or.inl ⟨by rfl, ?_⟩) hS0 ?_
  · intro w' hSw
    go_simp
  simp only [Act.put, List.setIfInBounds_toArray, List.set_cons_zero, List.set_cons_succ]
  refine wpAnyK_go (i := 9) (m' := 1023) (some 16) (v := .pointer (some ⟨p, 0, none⟩)) rfl rfl (by kernel_rfl) (by kernel_rfl) (by kernel_rfl) (by kernel_rfl) (by kernel_rfl) (fun _ _ _ h => h) (Or.inl ⟨by rfl, ?_⟩) hS0 ?_
  · intro w' hSw
    go_simp
  simp only [Act.put, List.setIfInBounds_toArray, List.set_cons_zero, List.set_cons_succ]
  refine wpAnyK_go (i := 10) (m' := 2047) (some 17) (v := .slice (some ⟨g, o, none⟩) n cap) rfl rfl (by kernel_rfl) (by kernel_rfl) (by kernel_rfl) (by kernel_rfl) (by kernel_rfl) (fun _ _ _ h => h) (Or.inl ⟨by rfl, ?_⟩) hS0 ?_
  · intro w' hSw
    obtain ⟨s1, s2, s3⟩ := hSw
    go_simp
  simp only [Act.put, List.setIfInBounds_toArray, List.set_cons_zero, List.set_cons_succ]
  refine wpAnyK_go (i := 11) (m' := 4095) (some 18) (v := .int .i64 (b : Int)) rfl rfl (by kernel_rfl) (by kernel_rfl) (by kernel_rfl) (by kernel_rfl) (by kernel_rfl) (fun _ _ _ h => h) (Or.inl ⟨by rfl, ?_⟩) hS0 ?_
  · intro w' hSw
    go_simp
  simp only [Act.put, List.setIfInBounds_toArray, List.set_cons_zero, List.set_cons_succ]
  refine wpAnyK_go (i := 12) (m' := 8191) (some 19) (v := .pointer (some ⟨g, o + b, none⟩)) rfl rfl (by kernel_rfl) (by kernel_rfl) (by kernel_rfl) (by kernel_rfl) (by kernel_rfl) (fun _ _ _ h => h) (Or.inl ⟨by rfl, ?_⟩) hS0 ?_
  · intro w' hSw
    go_simp
  simp only [Act.put, List.setIfInBounds_toArray, List.set_cons_zero, List.set_cons_succ]
  refine wpAnyK_go (i := 13) (m' := 16383) (some 20) (v := .int .u64 (y : Int)) rfl rfl (by kernel_rfl) (by kernel_rfl) (by kernel_rfl) (by kernel_rfl) (by kernel_rfl) (fun _ _ _ h => h) (Or.inl ⟨by rfl, ?_⟩) hS0 ?_
  · intro w' hSw
    obtain ⟨s1, s2, s3⟩ := hSw
    go_simp
  simp only [Act.put, List.setIfInBounds_toArray, List.set_cons_zero, List.set_cons_succ]
  refine wpAnyK_go (i := 14) (m' := 32767) (some 21) (v := .int .u64 ((x &&& y : Nat) : Int)) rfl rfl (by kernel_rfl) (by kernel_rfl) (by kernel_rfl) (by kernel_rfl) (by kernel_rfl) (fun _ _ _ h => h) (Or.inl ⟨by rfl, ?_⟩) hS0 ?_
  · intro w' hSw
    go_simp
  simp only [Act.put, List.setIfInBounds_toArray, List.set_cons_zero, List.set_cons_succ]
  refine wpAnyK_only (i := 15) (m' := 65535) (by kernel_rfl) rfl (by kernel_rfl) fun K hK => ?_
  go_simp
  (with_reducible refine Calls.mono CT ?_)
  rintro e' w2 ⟨rfl, hw2⟩
  subst hw2
  go_simp
  refine hK.out _ _ (fun _ => hS0) ?_
  clear hK K CT
  refine wpAnyK_only (i := 16) (m' := 131071) (by kernel_rfl) rfl (by kernel_rfl) fun K hK => ?_
  go_simp
  refine hK.out _ _ (fun _ => hS0) ?_
  clear hK K
  refine wpAnyK_done (by kernel_rfl) ?_ _
  go_wp2
  go_ret
  exact ⟨by rw [eJ.out]; rfl, HB.out⟩
end Go.Proofs.YtgdflaapgfpdeaaGreatDoor

namespace Go.Proofs.YtgdflaapgfpdeaaGreatDoor
open Go.RowKit

def belowD (od : Option OrdD) (a b : Int) : Bool × Int := match od with
  | none => (false, 140)
  | some D => if 0 ≤ a ∧ a < (D.1.length : Int) ∧ 0 ≤ b ∧ b < (D.1.length : Int) then ((D.1.getD a.toNat 0).testBit b.toNat, 0) else (false, 141)
def joinD (od : Option OrdD) (a b : Int) : Nat × Int := match od with
  | none => (0, 140)
  | some D => if 0 ≤ a ∧ a < (D.1.length : Int) ∧ 0 ≤ b ∧ b < (D.1.length : Int) then (joinP D.1 a.toNat b.toNat, 0) else (0, 141)
set_option maxHeartbeats 16000000 in
set_option maxRecDepth 10000 in
theorem below_all (d : Nat) (x : Value) (t : Tn (d + 1)) (w : World) (hx : TyAt w w.heap.size (d + 1) x t) (hN : (flat (d + 1) t).length ≤ 4194304) (a b : Int) :
    Calls Tryz.prog 21 #[x, .int .i64 a, .int .i64 b] w fun r w' => r = .returned (.tuple #[.bool (belowD (orderD (d + 1) t) a b).1, .int .i64 (belowD (orderD (d + 1) t) a b).2]) ∧ Hid (Below w.heap.size w w') := by
  have HX : Hid (TyAt w w.heap.size (d + 1) x t) := hx
  obtain ⟨u, rfl, hn1, hn2, hrow⟩ := hx
  obtain ⟨ad, cap, rfl⟩ := hrow.len
  generalize hk : t.1.1 = k at *
  generalize hn : t.1.2 = n at *
  generalize hm : t.2.length = m at *
  obtain ⟨X, hX⟩ : ∃ X, X = w.heap.size := ⟨_, rfl⟩
  obtain ⟨W, hW⟩ : ∃ W, W = w.alloc (.cells #[.int .i64 k, .string ⟨n.toArray⟩, .slice ad m cap] 24) := ⟨_, rfl⟩
  have hBW : Below w.heap.size w W := by rw [hW]; exact (Below.refl _ _).alloc (Nat.le_refl _) _
  have hXW : W.heap[X]? = some (.cells #[.int .i64 k, .string ⟨n.toArray⟩, .slice ad m cap] 24 (0, 0)) := by rw [hW, hX]; exact new_blk _ _
  have CO := orderOf_any d (.agg #[.int .i64 k, .string ⟨n.toArray⟩, .slice ad m cap]) t W (TyAt.below hBW hBW.size _ _ _ HX.out) hN
  have c0 : W.cell? ⟨X, 0, none⟩ = some (.int .i64 k) := heap_cl hXW rfl
  have c1 : W.cell? ⟨X, 1, none⟩ = some (.string ⟨n.toArray⟩) := heap_cl hXW rfl
  have c2 : W.cell? ⟨X, 2, none⟩ = some (.slice ad m cap) := heap_cl hXW rfl
  have HXE : Hid (X = w.heap.size) := hX
  have HBW : Hid (Below w.heap.size w W) := hBW
  clear hn1 hn2 hrow hX hBW hXW hk hn hm hN HX
  generalize orderD (d + 1) t = od at *
  cases od with
  | none =>
    replace CO : Calls Tryz.prog 32 #[.agg #[.int .i64 k, .string ⟨n.toArray⟩, .slice ad m cap]] W fun r w' => r = .returned (.tuple #[.pointer none, .int .i64 140]) ∧ Hid (Below W.heap.size W w') := CO.mono fun r w' h => by
      obtain ⟨h1, h2⟩ := h.out
      rcases h2 with ⟨_, h2⟩ | ⟨D, p, h2, _⟩
      · exact ⟨h2, h1⟩
      · cases h2
    go_enter Tryz.func21, Tryz.ntmps21
    go_upto_region 1 with fail
    rw [← hW, ← HXE.out]
    clear hW
    go_wp2_with (first | (go_at_call 32; (with_reducible refine Calls.mono CO ?_); rintro e' w2 ⟨rfl, HB2⟩))
    refine bodyPost_ret (v := .tuple #[.bool false, .int .i64 140]) (by simp [results, Tryz.results21, go_sem]) rfl ?_
    exact ⟨rfl, HBW.out.trans (HB2.out.mono HBW.out.size)⟩
  | some D =>
    replace CO : Calls Tryz.prog 32 #[.agg #[.int .i64 k, .string ⟨n.toArray⟩, .slice ad m cap]] W fun r w' => ∃ p, r = .returned (.tuple #[.pointer (some ⟨p, 0, none⟩), .int .i64 0]) ∧ Hid (Below W.heap.size W w') ∧ Hid (AbAt w' (fun y => y < w'.heap.size) p D.1) ∧ Hid (Lat D.1) := CO.mono fun r w' h => by
      obtain ⟨h1, h2⟩ := h.out
      rcases h2 with ⟨h2, _⟩ | ⟨D', p, h2, h3, h4, h5⟩
      · cases h2
      · rw [← Option.some.inj h2] at h4 h5
        exact ⟨p, h3, h1, h4.1, h5⟩
    have HDE : Hid (belowD (some D) a b = if 0 ≤ a ∧ a < (D.1.length : Int) ∧ 0 ≤ b ∧ b < (D.1.length : Int) then ((D.1.getD a.toNat 0).testBit b.toNat, 0) else (false, 141)) := rfl
    go_enter Tryz.func21, Tryz.ntmps21
    go_upto_region 1 with fail
    rw [← hW, ← HXE.out]
    clear hW
    go_upto_region 4 with (first | (go_at_call 32; (with_reducible refine Calls.mono CO ?_); rintro e' w2 ⟨p, rfl, HB2, HA2, HL2⟩))
    have CA := hasO_any HA2.out a
    have CB := hasO_any HA2.out b
    have HBB : Hid (Below w.heap.size w w2) := HBW.out.trans (HB2.out.mono HBW.out.size)
    clear c0 c1 c2 CO
    by_cases ha : 0 ≤ a ∧ a < (D.1.length : Int)
    · rw [decide_eq_true ha] at CA
      by_cases hb : 0 ≤ b ∧ b < (D.1.length : Int)
      · rw [decide_eq_true hb] at CB
        rw [if_pos ⟨ha.1, ha.2, hb.1, hb.2⟩] at HDE
        have hla : a.toNat < D.1.length := by omega
        have hlb : b.toNat < D.1.length := by omega
        have ea : ((a.toNat : Nat) : Int) = a := by omega
        have eb : ((b.toNat : Nat) : Int) = b := by omega
        have CC : Calls Tryz.prog 37 #[.pointer (some ⟨p, 0, none⟩), .int .i64 a, .int .i64 b] w2 fun r w' => r = .returned (.bool ((D.1.getD a.toNat 0).testBit b.toNat)) ∧ Hid (Below w2.heap.size w2 w') := by
          have h := belowO_any HA2.out a.toNat b.toNat hla (lat_lt HL2.out _ (List.getElem_mem hla)) (by have := HL2.out.few; omega)
          rw [ea, eb] at h
          refine h.mono fun r w' ⟨h1, h2⟩ => ⟨by rw [h1, show D.1.getD a.toNat 0 = D.1[a.toNat] by simp [hla]], by rw [h2]; exact Below.refl _ _⟩
        clear ha hb hla hlb ea eb
        generalize (D.1.getD a.toNat 0).testBit b.toNat = bb at *
        go_wp2_with (first | (go_at_call 35; (with_reducible refine Calls.mono CA ?_); rintro e' w3 ⟨rfl, hw3⟩; subst hw3) | (go_at_call 35; (with_reducible refine Calls.mono CB ?_); rintro e' w4 ⟨rfl, hw4⟩; subst hw4) | (go_at_call 37; (with_reducible refine Calls.mono CC ?_); rintro e' w5 ⟨rfl, HB5⟩))
        refine bodyPost_ret (v := .tuple #[.bool bb, .int .i64 0]) (by simp [results, Tryz.results21, go_sem]) rfl ?_
        exact ⟨by rw [HDE.out], HBB.out.trans (HB5.out.mono HBB.out.size)⟩
      · rw [decide_eq_false hb] at CB
        rw [if_neg (fun q => hb q.2.2)] at HDE
        clear ha hb
        go_wp2_with (first | (go_at_call 35; (with_reducible refine Calls.mono CA ?_); rintro e' w3 ⟨rfl, hw3⟩; subst hw3) | (go_at_call 35; (with_reducible refine Calls.mono CB ?_); rintro e' w4 ⟨rfl, hw4⟩; subst hw4))
        refine bodyPost_ret (v := .tuple #[.bool false, .int .i64 141]) (by simp [results, Tryz.results21, go_sem]) rfl ?_
        exact ⟨by rw [HDE.out] <;> rfl, HBB.out⟩
    · rw [decide_eq_false ha] at CA
      rw [if_neg (fun q => ha ⟨q.1, q.2.1⟩)] at HDE
      clear ha
      go_wp2_with (first | (go_at_call 35; (with_reducible refine Calls.mono CA ?_); rintro e' w3 ⟨rfl, hw3⟩; subst hw3))
      refine bodyPost_ret (v := .tuple #[.bool false, .int .i64 141]) (by simp [results, Tryz.results21, go_sem]) rfl ?_
      exact ⟨by rw [HDE.out] <;> rfl, HBB.out⟩
set_option maxHeartbeats 16000000 in
set_option maxRecDepth 10000 in
theorem join_all (d : Nat) (x : Value) (t : Tn (d + 1)) (w : World) (hx : TyAt w w.heap.size (d + 1) x t) (hN : (flat (d + 1) t).length ≤ 4194304) (hT : ∀ w', Below w.heap.size w w' → TabAt 0 Lib.deBruijn64tab w') (a b : Int) :
    Calls Tryz.prog 23 #[x, .int .i64 a, .int .i64 b] w fun r w' => r = .returned (.tuple #[.int .i64 ((joinD (orderD (d + 1) t) a b).1 : Int), .int .i64 (joinD (orderD (d + 1) t) a b).2]) ∧ Hid (Below w.heap.size w w') := by
  have HX : Hid (TyAt w w.heap.size (d + 1) x t) := hx
  obtain ⟨u, rfl, hn1, hn2, hrow⟩ := hx
  obtain ⟨ad, cap, rfl⟩ := hrow.len
  generalize hk : t.1.1 = k at *
  generalize hn : t.1.2 = n at *
  generalize hm : t.2.length = m at *
  obtain ⟨X, hX⟩ : ∃ X, X = w.heap.size := ⟨_, rfl⟩
  obtain ⟨W, hW⟩ : ∃ W, W = w.alloc (.cells #[.int .i64 k, .string ⟨n.toArray⟩, .slice ad m cap] 24) := ⟨_, rfl⟩
  have hBW : Below w.heap.size w W := by rw [hW]; exact (Below.refl _ _).alloc (Nat.le_refl _) _
  have hXW : W.heap[X]? = some (.cells #[.int .i64 k, .string ⟨n.toArray⟩, .slice ad m cap] 24 (0, 0)) := by rw [hW, hX]; exact new_blk _ _
  have CO := orderOf_any d (.agg #[.int .i64 k, .string ⟨n.toArray⟩, .slice ad m cap]) t W (TyAt.below hBW hBW.size _ _ _ HX.out) hN
  have c0 : W.cell? ⟨X, 0, none⟩ = some (.int .i64 k) := heap_cl hXW rfl
  have c1 : W.cell? ⟨X, 1, none⟩ = some (.string ⟨n.toArray⟩) := heap_cl hXW rfl
  have c2 : W.cell? ⟨X, 2, none⟩ = some (.slice ad m cap) := heap_cl hXW rfl
  have HXE : Hid (X = w.heap.size) := hX
  have HBW : Hid (Below w.heap.size w W) := hBW
  have HTB : Hid (∀ w', Below w.heap.size w w' → TabAt 0 Lib.deBruijn64tab w') := hT
  clear hT
  clear hn1 hn2 hrow hX hBW hXW hk hn hm hN HX
  generalize orderD (d + 1) t = od at *
  cases od with
  | none =>
    replace CO : Calls Tryz.prog 32 #[.agg #[.int .i64 k, .string ⟨n.toArray⟩, .slice ad m cap]] W fun r w' => r = .returned (.tuple #[.pointer none, .int .i64 140]) ∧ Hid (Below W.heap.size W w') := CO.mono fun r w' h => by
      obtain ⟨h1, h2⟩ := h.out
      rcases h2 with ⟨_, h2⟩ | ⟨D, p, h2, _⟩
      · exact ⟨h2, h1⟩
      · cases h2
    go_enter Tryz.func23, Tryz.ntmps23
    go_upto_region 1 with fail
    rw [← hW, ← HXE.out]
    clear hW
    go_wp2_with (first | (go_at_call 32; (with_reducible refine Calls.mono CO ?_); rintro e' w2 ⟨rfl, HB2⟩))
    refine bodyPost_ret (v := .tuple #[.int .i64 0, .int .i64 140]) (by simp [results, Tryz.results23, go_sem]) rfl ?_
    exact ⟨rfl, HBW.out.trans (HB2.out.mono HBW.out.size)⟩
  | some D =>
    replace CO : Calls Tryz.prog 32 #[.agg #[.int .i64 k, .string ⟨n.toArray⟩, .slice ad m cap]] W fun r w' => ∃ p, r = .returned (.tuple #[.pointer (some ⟨p, 0, none⟩), .int .i64 0]) ∧ Hid (Below W.heap.size W w') ∧ Hid (AbAt w' (fun y => y < w'.heap.size) p D.1) ∧ Hid (Lat D.1) := CO.mono fun r w' h => by
      obtain ⟨h1, h2⟩ := h.out
      rcases h2 with ⟨h2, _⟩ | ⟨D', p, h2, h3, h4, h5⟩
      · cases h2
      · rw [← Option.some.inj h2] at h4 h5
        exact ⟨p, h3, h1, h4.1, h5⟩
    have HDE : Hid (joinD (some D) a b = if 0 ≤ a ∧ a < (D.1.length : Int) ∧ 0 ≤ b ∧ b < (D.1.length : Int) then (joinP D.1 a.toNat b.toNat, 0) else (0, 141)) := rfl
    go_enter Tryz.func23, Tryz.ntmps23
    go_upto_region 1 with fail
    rw [← hW, ← HXE.out]
    clear hW
    go_upto_region 4 with (first | (go_at_call 32; (with_reducible refine Calls.mono CO ?_); rintro e' w2 ⟨p, rfl, HB2, HA2, HL2⟩))
    have CA := hasO_any HA2.out a
    have CB := hasO_any HA2.out b
    have HBB : Hid (Below w.heap.size w w2) := HBW.out.trans (HB2.out.mono HBW.out.size)
    clear c0 c1 c2 CO
    by_cases ha : 0 ≤ a ∧ a < (D.1.length : Int)
    · rw [decide_eq_true ha] at CA
      by_cases hb : 0 ≤ b ∧ b < (D.1.length : Int)
      · rw [decide_eq_true hb] at CB
        rw [if_pos ⟨ha.1, ha.2, hb.1, hb.2⟩] at HDE
        have hla : a.toNat < D.1.length := by omega
        have hlb : b.toNat < D.1.length := by omega
        have ea : ((a.toNat : Nat) : Int) = a := by omega
        have eb : ((b.toNat : Nat) : Int) = b := by omega
        have CC : Calls Tryz.prog 39 #[.pointer (some ⟨p, 0, none⟩), .int .i64 a, .int .i64 b] w2 fun r w' => r = .returned (.int .i64 (joinP D.1 a.toNat b.toNat : Int)) ∧ Hid (Below w2.heap.size w2 w') := by
          have h := joinO_any HA2.out HL2.out a.toNat b.toNat hla hlb (fun w' h' => HTB.out w' (HBB.out.trans (h'.mono HBB.out.size)))
          rw [ea, eb] at h
          exact h
        clear ha hb hla hlb ea eb
        generalize joinP D.1 a.toNat b.toNat = bb at *
        go_wp2_with (first | (go_at_call 35; (with_reducible refine Calls.mono CA ?_); rintro e' w3 ⟨rfl, hw3⟩; subst hw3) | (go_at_call 35; (with_reducible refine Calls.mono CB ?_); rintro e' w4 ⟨rfl, hw4⟩; subst hw4) | (go_at_call 39; (with_reducible refine Calls.mono CC ?_); rintro e' w5 ⟨rfl, HB5⟩))
        refine bodyPost_ret (v := .tuple #[.int .i64 (bb : Int), .int .i64 0]) (by simp [results, Tryz.results23, go_sem]) rfl ?_
        exact ⟨by rw [HDE.out], HBB.out.trans (HB5.out.mono HBB.out.size)⟩
      · rw [decide_eq_false hb] at CB
        rw [if_neg (fun q => hb q.2.2)] at HDE
        clear ha hb
        go_wp2_with (first | (go_at_call 35; (with_reducible refine Calls.mono CA ?_); rintro e' w3 ⟨rfl, hw3⟩; subst hw3) | (go_at_call 35; (with_reducible refine Calls.mono CB ?_); rintro e' w4 ⟨rfl, hw4⟩; subst hw4))
        refine bodyPost_ret (v := .tuple #[.int .i64 0, .int .i64 141]) (by simp [results, Tryz.results23, go_sem]) rfl ?_
        exact ⟨by rw [HDE.out] <;> rfl, HBB.out⟩
    · rw [decide_eq_false ha] at CA
      rw [if_neg (fun q => ha ⟨q.1, q.2.1⟩)] at HDE
      clear ha
      go_wp2_with (first | (go_at_call 35; (with_reducible refine Calls.mono CA ?_); rintro e' w3 ⟨rfl, hw3⟩; subst hw3))
      refine bodyPost_ret (v := .tuple #[.int .i64 0, .int .i64 141]) (by simp [results, Tryz.results23, go_sem]) rfl ?_
      exact ⟨by rw [HDE.out] <;> rfl, HBB.out⟩
end Go.Proofs.YtgdflaapgfpdeaaGreatDoor

namespace Go.Proofs.YtgdflaapgfpdeaaGreatDoor
open Go.RowKit

/-- A row of n truths: the bits of a number. -/
def Bts (w : World) (S : Nat → Prop) (v : Value) (n x : Nat) : Prop := ∃ g o cap, v = .slice (some ⟨g, o, none⟩) n cap ∧ n ≤ cap ∧ S g ∧ ∀ j, j < n → w.cell? ⟨g, o + j, none⟩ = some (.bool (x.testBit j))
theorem Bts.on {w w' : World} {S S' : Nat → Prop} {v : Value} {n x : Nat} (h : Bts w S v n x) (hk : Keeps S w w') (hS : ∀ b, S b → S' b) : Bts w' S' v n x := by
  obtain ⟨g, o, cap, h1, h2, h3, h4⟩ := h
  exact ⟨g, o, cap, h1, h2, hS _ h3, fun j hj => (hk.cell (p := ⟨g, o + j, none⟩) h3).trans (h4 j hj)⟩
def EBl (n : Nat) : Elt Nat where
  k := 1
  C w S cs x := ∃ ad cap, cs = [.slice ad n cap] ∧ Bts w S (.slice ad n cap) n x
  len := by rintro _ _ _ _ ⟨_, _, rfl, _⟩; rfl
  one := by rintro _ _ _ _ ⟨_, _, rfl, _⟩ u hu; rw [List.mem_singleton.1 hu]; rfl
  on := by rintro _ _ _ _ _ _ hk hS ⟨ad, cap, h1, h2⟩; exact ⟨ad, cap, h1, h2.on hk hS⟩
/-- An order of the reference's, as a value. -/
def LatA (w : World) (S : Nat → Prop) (x : Value) (ab : List Nat) (rs : List (List Nat)) : Prop := ∃ bv rv, x = .agg #[.int .i64 (ab.length : Int), bv, rv] ∧ RowE (EBl ab.length) w S S bv ab ∧ RowE ERs w S S rv rs ∧ ab ≠ []
theorem LatA.on {w w' : World} {S S' : Nat → Prop} {x : Value} {ab : List Nat} {rs : List (List Nat)} (h : LatA w S x ab rs) (hk : Keeps S w w') (hS : ∀ b, S b → S' b) : LatA w' S' x ab rs := by
  obtain ⟨bv, rv, h1, h2, h3, h4⟩ := h
  exact ⟨bv, rv, h1, h2.on hk hk hS hS, h3.on hk hk hS hS, h4⟩
theorem lat_row {w : World} {S : Nat → Prop} {bv : Value} {n : Nat} {ab : List Nat} (h : RowE (EBl n) w S S bv ab) (h0 : ab ≠ []) : ∃ gb ob cb, bv = .slice (some ⟨gb, ob, none⟩) ab.length cb ∧ ab.length ≤ cb ∧ ∀ i (hi : i < ab.length), S gb ∧ ∃ g1 o1 c1, w.cell? ⟨gb, ob + i, none⟩ = some (.slice (some ⟨g1, o1, none⟩) n c1) ∧ n ≤ c1 ∧ S g1 ∧ ∀ j, j < n → w.cell? ⟨g1, o1 + j, none⟩ = some (.bool (ab[i].testBit j)) := by
  rcases h with ⟨h, _⟩ | ⟨g, o, cap, rfl, _, hc, h⟩
  · exact absurd h h0
  · refine ⟨g, o, cap, rfl, hc, fun i hi => ?_⟩
    obtain ⟨hz, cs, ⟨ad, c, rfl, g1, o1, c1, e, h2, h3, h4⟩, h5⟩ := h i hi
    obtain ⟨rfl, _, rfl⟩ := Value.slice.inj e
    have := h5 0 (show 0 < 1 by decide)
    refine ⟨hz, g1, o1, c, ?_, h2, h3, h4⟩
    simpa [EBl] using this
set_option maxHeartbeats 8000000 in
set_option maxRecDepth 10000 in
theorem under_ref {w : World} {x : Value} {ta f g : List Nat} {rs : List (List Nat)} {af ag : Option Addr} {cf cg : Nat} (hx : LatA w (fun y => y < w.heap.size) x ta rs) (hl : Lat ta) (hf : Nts w (fun y => y < w.heap.size) (.slice af f.length cf) f) (hg : Nts w (fun y => y < w.heap.size) (.slice ag g.length cg) g) (hlen : f.length = g.length) (hl2 : f.length ≤ 1000) (hv : ∀ x ∈ f, x < ta.length) (hu : ∀ x ∈ g, x < ta.length) :
    Calls Tryz.prog 61 #[x, .slice af f.length cf, .slice ag g.length cg] w fun r w' => r = .returned (.bool (underP ta f g)) ∧ Hid (Below w.heap.size w w') := by
  obtain ⟨bv, rv, rfl, hb, hr, h0⟩ := hx
  obtain ⟨gb, ob, cb, rfl, hcb, hrow⟩ := lat_row hb h0
  obtain ⟨adr, capr, hrv, _⟩ := RowK.open hr
  subst hrv
  obtain ⟨X, hX⟩ : ∃ X, X = w.heap.size := ⟨_, rfl⟩
  obtain ⟨W, hW⟩ : ∃ W, W = w.alloc (.cells #[.int .i64 (ta.length : Int), .slice (some ⟨gb, ob, none⟩) ta.length cb, .slice adr rs.length capr] 47) := ⟨_, rfl⟩
  have hBW : Below w.heap.size w W := by rw [hW]; exact (Below.refl _ _).alloc (Nat.le_refl _) _
  have hXW : W.heap[X]? = some (.cells #[.int .i64 (ta.length : Int), .slice (some ⟨gb, ob, none⟩) ta.length cb, .slice adr rs.length capr] 47 (0, 0)) := by rw [hW, hX]; exact new_blk _ _
  have hfew := hl.few
  have HS : Hid (∀ wr : World, Below W.heap.size W wr → ∀ i (h : i < f.length) (h' : i < g.length), ∃ fb fo hb' ho g1 o1 c1, af = some ⟨fb, fo, none⟩ ∧ f.length ≤ cf ∧ ag = some ⟨hb', ho, none⟩ ∧ g.length ≤ cg ∧ ta.length ≤ c1 ∧ wr.cell? ⟨X, 1, none⟩ = some (.slice (some ⟨gb, ob, none⟩) ta.length cb) ∧ wr.cell? ⟨fb, fo + i, none⟩ = some (.int .i64 (f[i] : Int)) ∧ wr.cell? ⟨gb, ob + f[i], none⟩ = some (.slice (some ⟨g1, o1, none⟩) ta.length c1) ∧ wr.cell? ⟨hb', ho + i, none⟩ = some (.int .i64 (g[i] : Int)) ∧ wr.cell? ⟨g1, o1 + g[i], none⟩ = some (.bool ((ta.getD (f.getD i 0) 0).testBit (g.getD i 0)))) := fun wr hwr i h h' => by
    have hbb : Below w.heap.size w wr := hBW.trans (hwr.mono hBW.size)
    have h1 := hv _ (List.getElem_mem h)
    have h2 := hu _ (List.getElem_mem h')
    obtain ⟨fb, fo, a1, a2, a3, a4⟩ := hf.at h
    obtain ⟨hb', ho, b1, b2, b3, b4⟩ := hg.at h'
    obtain ⟨z, g1, o1, c1, d1, d2, d3, d4⟩ := hrow f[i] h1
    refine ⟨fb, fo, hb', ho, g1, o1, c1, a1, a2, b1, b2, d2, heap_cl ((hwr.block X (lt_heap hXW)).trans hXW) rfl, (hbb.cell (p := ⟨fb, fo + i, none⟩) a3).trans a4, (hbb.cell (p := ⟨gb, ob + f[i], none⟩) z).trans d1, (hbb.cell (p := ⟨hb', ho + i, none⟩) b3).trans b4, ?_⟩
    rw [show ta.getD (f.getD i 0) 0 = ta[f[i]] by simp [h, h1], show g.getD i 0 = g[i] by simp [h']]
    exact (hbb.cell (p := ⟨g1, o1 + g[i], none⟩) d3).trans (d4 _ h2)
  have HVB : Hid (∀ i (h : i < f.length) (h' : i < g.length), f[i] < ta.length ∧ g[i] < ta.length) := fun i h h' => ⟨hv _ (List.getElem_mem h), hu _ (List.getElem_mem h')⟩
  have HL : Hid (f.length = g.length) := hlen
  have HBW : Hid (Below w.heap.size w W) := hBW
  have HXE : Hid (X = w.heap.size) := hX
  clear hb hr hrow hf hg hv hu hl hX hXW hBW hlen
  go_enter Tryz.func61, Tryz.ntmps61
  go_upto_region 1 with fail
  rw [← hW, ← HXE.out]
  clear hW
  go_upto_region 2 with fail
  go_loopw [7] (fun iv wr => ∃ i : Nat, i ≤ f.length ∧ iv = .int .i64 i ∧ Hid (Below W.heap.size W wr) ∧ Hid (∀ x, x < i → Le ta (f.getD x 0) (g.getD x 0))) (fun iv _ => f.length - (intOf iv).toNat)
  case atStart => exact ⟨0, by omega, by go_num, Below.refl _ _, fun x h => by omega⟩
  case round =>
    obtain ⟨i, hi, rfl, HB, HI⟩ := hrel
    by_cases hil : i < f.length
    · have hig : i < g.length := by rw [← HL.out]; exact hil
      replace HB : Hid (Below W.heap.size W wr.drew) := HB.out.drew
      obtain ⟨fb, fo, hb, ho, g1, o1, c1, rfl, hfc, rfl, hgc, hc1, q1, q2, q3, q4, q5⟩ := HS.out wr.drew HB.out i hil hig
      obtain ⟨v1, v2⟩ := HVB.out i hil hig
      have HLE : Hid ((ta.getD (f.getD i 0) 0).testBit (g.getD i 0) = true ↔ Le ta (f.getD i 0) (g.getD i 0)) := Iff.rfl
      have i1 : (0 : Int) ≤ (i : Int) := by omega
      have i2 : (i : Int) < (f.length : Int) := by omega
      have i3 : (i : Int) < (g.length : Int) := by omega
      have i4 : (0 : Int) ≤ (f[i] : Int) := by omega
      have i5 : (f[i] : Int) < (ta.length : Int) := by omega
      have i6 : (0 : Int) ≤ (g[i] : Int) := by omega
      have i7 : (g[i] : Int) < (ta.length : Int) := by omega
      have HUF : Hid ((ta.getD (f.getD i 0) 0).testBit (g.getD i 0) = false → underP ta f g = false) := fun hbf => by
        cases hq : underP ta f g with
        | false => rfl
        | true =>
          have h2 := HLE.out.2 (((under_iff ta f g).1 hq).2 i hil)
          rw [hbf] at h2
          cases h2
      generalize f[i] = fv at *
      generalize g[i] = gv at *
      generalize (ta.getD (f.getD i 0) 0).testBit (g.getD i 0) = bb at *
      go_upto_region 4 with fail
      have hS0 : (fun w' : World => w'.cell? ⟨X, 1, none⟩ = some (.slice (some ⟨gb, ob, none⟩) ta.length cb) ∧ w'.cell? ⟨fb, fo + i, none⟩ = some (.int .i64 (fv : Int)) ∧ w'.cell? ⟨gb, ob + fv, none⟩ = some (.slice (some ⟨g1, o1, none⟩) ta.length c1) ∧ w'.cell? ⟨hb, ho + i, none⟩ = some (.int .i64 (gv : Int)) ∧ w'.cell? ⟨g1, o1 + gv, none⟩ = some (.bool bb)) wr.drew := ⟨q1, q2, q3, q4, q5⟩
      clear q1 q2 q3 q4 q5
      refine wp_region_M (S := (fun w' : World => w'.cell? ⟨X, 1, none⟩ = some (.slice (some ⟨gb, ob, none⟩) ta.length cb) ∧ w'.cell? ⟨fb, fo + i, none⟩ = some (.int .i64 (fv : Int)) ∧ w'.cell? ⟨gb, ob + fv, none⟩ = some (.slice (some ⟨g1, o1, none⟩) ta.length c1) ∧ w'.cell? ⟨hb, ho + i, none⟩ = some (.int .i64 (gv : Int)) ∧ w'.cell? ⟨g1, o1 + gv, none⟩ = some (.bool bb))) (L := 15) (n := 15) (by kernel_rfl) rfl (by kernel_rfl) ?_
      refine wpAnyK_go (i := 0) (m' := 1) (some 14) (v := .pointer (some ⟨X, 1, none⟩)) rfl rfl (by kernel_rfl) (by kernel_rfl) (by kernel_rfl) (by kernel_rfl) (by kernel_rfl) (fun _ _ _ h => h) (Or.inl ⟨by rfl, ?_⟩) hS0 ?_
      · intro w' hSw
        go_simp
      simp only [Act.put, List.setIfInBounds_toArray, List.set_cons_zero, List.set_cons_succ]
      refine wpAnyK_go (i := 1) (m' := 3) (some 15) (v := .slice (some ⟨gb, ob, none⟩) ta.length cb) rfl rfl (by kernel_rfl) (by kernel_rfl) (by kernel_rfl) (by kernel_rfl) (by kernel_rfl) (fun _ _ _ h => h) (Or.inl ⟨by rfl, ?_⟩) hS0 ?_
      · intro w' hSw
        obtain ⟨s1, s2, s3, s4, s5⟩ := hSw
        go_simp
      simp only [Act.put, List.setIfInBounds_toArray, List.set_cons_zero, List.set_cons_succ]
      refine wpAnyK_go (i := 2) (m' := 7) (some 16) (v := .slice (some ⟨fb, fo, none⟩) f.length cf) rfl rfl (by kernel_rfl) (by kernel_rfl) (by kernel_rfl) (by kernel_rfl) (by kernel_rfl) (fun _ _ _ h => h) (Or.inl ⟨by rfl, ?_⟩) hS0 ?_
      · intro w' hSw
        go_simp
      simp only [Act.put, List.setIfInBounds_toArray, List.set_cons_zero, List.set_cons_succ]
      refine wpAnyK_go (i := 3) (m' := 15) (some 17) (v := .int .i64 (i : Int)) rfl rfl (by kernel_rfl) (by kernel_rfl) (by kernel_rfl) (by kernel_rfl) (by kernel_rfl) (fun _ _ _ h => h) (Or.inl ⟨by rfl, ?_⟩) hS0 ?_
      · intro w' hSw
        go_simp
      simp only [Act.put, List.setIfInBounds_toArray, List.set_cons_zero, List.set_cons_succ]
      refine wpAnyK_go (i := 4) (m' := 31) (some 18) (v := .pointer (some ⟨fb, fo + i, none⟩)) rfl rfl (by kernel_rfl) (by kernel_rfl) (by kernel_rfl) (by kernel_rfl) (by kernel_rfl) (fun _ _ _ h => h) (Or.inl ⟨by rfl, ?_⟩) hS0 ?_
      · intro w' hSw
        go_simp
      simp only [Act.put, List.setIfInBounds_toArray, List.set_cons_zero, List.set_cons_succ]
      refine wpAnyK_go (i := 5) (m' := 63) (some 19) (v := .int .i64 (fv : Int)) rfl rfl (by kernel_rfl) (by kernel_rfl) (by kernel_rfl) (by kernel_rfl) (by kernel_rfl) (fun _ _ _ h => h) (Or.inl ⟨by rfl, ?_⟩) hS0 ?_
      · intro w' hSw
        obtain ⟨s1, s2, s3, s4, s5⟩ := hSw
        go_simp
      simp only [Act.put, List.setIfInBounds_toArray, List.set_cons_zero, List.set_cons_succ]
      refine wpAnyK_go (i := 6) (m' := 127) (some 20) (v := .pointer (some ⟨gb, ob + fv, none⟩)) rfl rfl (by kernel_rfl) (by kernel_rfl) (by kernel_rfl) (by kernel_rfl) (by kernel_rfl) (fun _ _ _ h => h) (Or.inl ⟨by rfl, ?_⟩) hS0 ?_
      · intro w' hSw
        go_simp
      simp only [Act.put, List.setIfInBounds_toArray, List.set_cons_zero, List.set_cons_succ]
      refine wpAnyK_go (i := 7) (m' := 255) (some 21) (v := .slice (some ⟨g1, o1, none⟩) ta.length c1) rfl rfl (by kernel_rfl) (by kernel_rfl) (by kernel_rfl) (by kernel_rfl) (by kernel_rfl) (fun _ _ _ h => h) (Or.inl ⟨by rfl, ?_⟩) hS0 ?_
      · intro w' hSw
        obtain ⟨s1, s2, s3, s4, s5⟩ := hSw
        go_simp
      simp only [Act.put, List.setIfInBounds_toArray, List.set_cons_zero, List.set_cons_succ]
      refine wpAnyK_go (i := 8) (m' := 511) (some 22) (v := .slice (some ⟨hb, ho, none⟩) g.length cg) rfl rfl (by kernel_rfl) (by kernel_rfl) (by kernel_rfl) (by kernel_rfl) (by kernel_rfl) (fun _ _ _ h => h) (Or.inl ⟨by rfl, ?_⟩) hS0 ?_
      · intro w' hSw
        go_simp
      simp only [Act.put, List.setIfInBounds_toArray, List.set_cons_zero, List.set_cons_succ]
      refine wpAnyK_go (i := 9) (m' := 1023) (some 23) (v := .int .i64 (i : Int)) rfl rfl (by kernel_rfl) (by kernel_rfl) (by kernel_rfl) (by kernel_rfl) (by kernel_rfl) (fun _ _ _ h => h) (Or.inl ⟨by rfl, ?_⟩) hS0 ?_
      · intro w' hSw
        go_simp
      simp only [Act.put, List.setIfInBounds_toArray, List.set_cons_zero, List.set_cons_succ]
      refine wpAnyK_go (i := 10) (m' := 2047) (some 24) (v := .pointer (some ⟨hb, ho + i, none⟩)) rfl rfl (by kernel_rfl) (by kernel_rfl) (by kernel_rfl) (by kernel_rfl) (by kernel_rfl) (fun _ _ _ h => h) (Or.inl ⟨by rfl, ?_⟩) hS0 ?_
      · intro w' hSw
        go_simp
      simp only [Act.put, List.setIfInBounds_toArray, List.set_cons_zero, List.set_cons_succ]
      refine wpAnyK_go (i := 11) (m' := 4095) (some 25) (v := .int .i64 (gv : Int)) rfl rfl (by kernel_rfl) (by kernel_rfl) (by kernel_rfl) (by kernel_rfl) (by kernel_rfl) (fun _ _ _ h => h) (Or.inl ⟨by rfl, ?_⟩) hS0 ?_
      · intro w' hSw
        obtain ⟨s1, s2, s3, s4, s5⟩ := hSw
        go_simp
      simp only [Act.put, List.setIfInBounds_toArray, List.set_cons_zero, List.set_cons_succ]
      refine wpAnyK_go (i := 12) (m' := 8191) (some 26) (v := .pointer (some ⟨g1, o1 + gv, none⟩)) rfl rfl (by kernel_rfl) (by kernel_rfl) (by kernel_rfl) (by kernel_rfl) (by kernel_rfl) (fun _ _ _ h => h) (Or.inl ⟨by rfl, ?_⟩) hS0 ?_
      · intro w' hSw
        go_simp
      simp only [Act.put, List.setIfInBounds_toArray, List.set_cons_zero, List.set_cons_succ]
      refine wpAnyK_go (i := 13) (m' := 16383) (some 27) (v := .bool bb) rfl rfl (by kernel_rfl) (by kernel_rfl) (by kernel_rfl) (by kernel_rfl) (by kernel_rfl) (fun _ _ _ h => h) (Or.inl ⟨by rfl, ?_⟩) hS0 ?_
      · intro w' hSw
        obtain ⟨s1, s2, s3, s4, s5⟩ := hSw
        go_simp
      simp only [Act.put, List.setIfInBounds_toArray, List.set_cons_zero, List.set_cons_succ]
      refine wpAnyK_go (i := 14) (m' := 32767) (some 28) (v := .bool (!bb)) rfl rfl (by kernel_rfl) (by kernel_rfl) (by kernel_rfl) (by kernel_rfl) (by kernel_rfl) (fun _ _ _ h => h) (Or.inl ⟨by rfl, ?_⟩) hS0 ?_
      · intro w' hSw
        go_simp
      simp only [Act.put, List.setIfInBounds_toArray, List.set_cons_zero, List.set_cons_succ]
      refine wpAnyK_done (by kernel_rfl) ?_ _
      clear hS0
      cases bb with
      | true =>
        have HI2 : Hid (∀ x, x < i + 1 → Le ta (f.getD x 0) (g.getD x 0)) := fun x hx => by
          by_cases e : x = i
          · subst e; exact HLE.out.1 rfl
          · exact HI.out x (by omega)
        clear HUF HLE
        go_wp2
        go_roundw
        case rel => exact ⟨i + 1, hil, by go_num, HB.out, HI2.out⟩
        case measure => simp [intOf]; omega
      | false =>
        have HE : Hid (underP ta f g = false) := HUF.out rfl
        go_wp2
        go_ret
        exact ⟨by rw [HE.out]; rfl, HBW.out.trans (HB.out.mono HBW.out.size)⟩
    · obtain rfl : i = f.length := by omega
      have HE : Hid (underP ta f g = true) := (under_iff ta f g).2 ⟨HL.out, HI.out⟩
      go_wp2
      go_ret
      exact ⟨by rw [HE.out]; rfl, HBW.out.trans (HB.out.mono HBW.out.size)⟩
end Go.Proofs.YtgdflaapgfpdeaaGreatDoor

namespace Go.Proofs.YtgdflaapgfpdeaaGreatDoor
open Go.RowKit

set_option maxHeartbeats 16000000 in
set_option maxRecDepth 10000 in
theorem fits_ref {w : World} {xa xb : Value} {fa ta row : List Nat} {rsa rsb : List (List Nat)} {ar : Option Addr} {cr : Nat} (hxa : LatA w (fun y => y < w.heap.size) xa fa rsa) (hxb : LatA w (fun y => y < w.heap.size) xb ta rsb) (hla : Lat fa) (hlb : Lat ta) (hr : Nts w (fun y => y < w.heap.size) (.slice ar row.length cr) row) (hlt : row.length < fa.length) (hv : ∀ x ∈ row, x < ta.length) (v : Nat) (hvt : v < ta.length) :
    Calls Tryz.prog 71 #[xa, xb, .slice ar row.length cr, .int .i64 v] w fun r w' => r = .returned (.bool ((nextP fa ta row).testBit v)) ∧ Hid (Below w.heap.size w w') := by
  obtain ⟨bva, rva, rfl, hba, hra, h0a⟩ := hxa
  obtain ⟨bvb, rvb, rfl, hbb, hrb, h0b⟩ := hxb
  obtain ⟨ga, oa, ca, rfl, hca, hrowa⟩ := lat_row hba h0a
  obtain ⟨gb, ob, cb, rfl, hcb, hrowb⟩ := lat_row hbb h0b
  obtain ⟨ada, cpa, hrva, _⟩ := RowK.open hra
  subst hrva
  obtain ⟨adb, cpb, hrvb, _⟩ := RowK.open hrb
  subst hrvb
  obtain ⟨X, hX⟩ : ∃ X, X = w.heap.size := ⟨_, rfl⟩
  obtain ⟨Y, hY⟩ : ∃ Y, Y = w.heap.size + 1 := ⟨_, rfl⟩
  obtain ⟨W, hW⟩ : ∃ W, W = (w.alloc (.cells #[.int .i64 (fa.length : Int), .slice (some ⟨ga, oa, none⟩) fa.length ca, .slice ada rsa.length cpa] 47)).alloc (.cells #[.int .i64 (ta.length : Int), .slice (some ⟨gb, ob, none⟩) ta.length cb, .slice adb rsb.length cpb] 47) := ⟨_, rfl⟩
  have hBW : Below w.heap.size w W := by rw [hW]; exact ((Below.refl _ _).alloc (Nat.le_refl _) _).alloc (by rw [World.size_alloc]; omega) _
  have hXW : W.heap[X]? = some (.cells #[.int .i64 (fa.length : Int), .slice (some ⟨ga, oa, none⟩) fa.length ca, .slice ada rsa.length cpa] 47 (0, 0)) := by rw [hW, hX]; exact (Below.heap_alloc _ _ _ (by rw [World.size_alloc]; omega)).trans (new_blk _ _)
  have hYW : W.heap[Y]? = some (.cells #[.int .i64 (ta.length : Int), .slice (some ⟨gb, ob, none⟩) ta.length cb, .slice adb rsb.length cpb] 47 (0, 0)) := by rw [hW, hY]; exact al1 _ _ _
  have hfew := hla.few
  have hfewb := hlb.few
  have HS : Hid (∀ wr : World, Below W.heap.size W wr → ∀ i (h : i < row.length), ∃ ga1 oa1 ca1 rb ro g1 o1 c1, ar = some ⟨rb, ro, none⟩ ∧ row.length ≤ cr ∧ fa.length ≤ ca1 ∧ ta.length ≤ c1 ∧ wr.cell? ⟨X, 1, none⟩ = some (.slice (some ⟨ga, oa, none⟩) fa.length ca) ∧ wr.cell? ⟨ga, oa + i, none⟩ = some (.slice (some ⟨ga1, oa1, none⟩) fa.length ca1) ∧ wr.cell? ⟨ga1, oa1 + row.length, none⟩ = some (.bool ((fa.getD i 0).testBit row.length)) ∧ wr.cell? ⟨Y, 1, none⟩ = some (.slice (some ⟨gb, ob, none⟩) ta.length cb) ∧ wr.cell? ⟨rb, ro + i, none⟩ = some (.int .i64 (row[i] : Int)) ∧ wr.cell? ⟨gb, ob + row[i], none⟩ = some (.slice (some ⟨g1, o1, none⟩) ta.length c1) ∧ wr.cell? ⟨g1, o1 + v, none⟩ = some (.bool ((ta.getD (row.getD i 0) 0).testBit v))) := fun wr hwr i h => by
    have hbb : Below w.heap.size w wr := hBW.trans (hwr.mono hBW.size)
    have h1 := hv _ (List.getElem_mem h)
    have hif : i < fa.length := by omega
    obtain ⟨rb, ro, b1, b2, b3, b4⟩ := hr.at h
    obtain ⟨z1, ga1, oa1, ca1, e1, e2, e3, e4⟩ := hrowa i hif
    obtain ⟨z, g1, o1, c1, d1, d2, d3, d4⟩ := hrowb row[i] h1
    refine ⟨ga1, oa1, ca1, rb, ro, g1, o1, c1, b1, b2, e2, d2, heap_cl ((hwr.block X (lt_heap hXW)).trans hXW) rfl, (hbb.cell (p := ⟨ga, oa + i, none⟩) z1).trans e1, ?_, heap_cl ((hwr.block Y (lt_heap hYW)).trans hYW) rfl, (hbb.cell (p := ⟨rb, ro + i, none⟩) b3).trans b4, (hbb.cell (p := ⟨gb, ob + row[i], none⟩) z).trans d1, ?_⟩
    · rw [show fa.getD i 0 = fa[i] by simp [hif]]
      exact (hbb.cell (p := ⟨ga1, oa1 + row.length, none⟩) e3).trans (e4 _ hlt)
    · rw [show ta.getD (row.getD i 0) 0 = ta[row[i]] by simp [h, h1]]
      exact (hbb.cell (p := ⟨g1, o1 + v, none⟩) d3).trans (d4 _ hvt)
  have HVB : Hid (∀ i (h : i < row.length), row[i] < ta.length) := fun i h => hv _ (List.getElem_mem h)
  have HBIT : Hid ((nextP fa ta row).testBit v = true ↔ v < ta.length ∧ ∀ x, x < row.length → Le fa x row.length → Le ta (row.getD x 0) v) := nextQ_bit fa ta row v _
  have HVT : Hid (v < ta.length) := hvt
  have HBW : Hid (Below w.heap.size w W) := hBW
  have HXE : Hid (X = w.heap.size) := hX
  have HYE : Hid (Y = w.heap.size + 1) := hY
  clear hba hbb hra hrb hrowa hrowb hr hv hla hlb hX hY hXW hYW hBW
  generalize (nextP fa ta row).testBit v = bit at *
  go_enter Tryz.func71, Tryz.ntmps71
  go_upto_region 1 with fail
  rw [← hW, ← HYE.out, ← HXE.out]
  clear hW
  go_upto_region 3 with fail
  go_loopw [10] (fun iv wr => ∃ i : Nat, i ≤ row.length ∧ iv = .int .i64 i ∧ Hid (Below W.heap.size W wr) ∧ Hid (∀ x, x < i → Le fa x row.length → Le ta (row.getD x 0) v)) (fun iv _ => row.length - (intOf iv).toNat)
  case atStart => exact ⟨0, by omega, by go_num, Below.refl _ _, fun x h => by omega⟩
  case round =>
    obtain ⟨i, hi, rfl, HB, HI⟩ := hrel
    by_cases hil : i < row.length
    · replace HB : Hid (Below W.heap.size W wr.drew) := HB.out.drew
      obtain ⟨ga1, oa1, ca1, rb, ro, g1, o1, c1, rfl, hrc, hca1, hc1, q1, q2, q3, q4, q5, q6, q7⟩ := HS.out wr.drew HB.out i hil
      have v1 := HVB.out i hil
      have HLA : Hid ((fa.getD i 0).testBit row.length = true ↔ Le fa i row.length) := Iff.rfl
      have HLB : Hid ((ta.getD (row.getD i 0) 0).testBit v = true ↔ Le ta (row.getD i 0) v) := Iff.rfl
      have i1 : (0 : Int) ≤ (i : Int) := by omega
      have i2 : (i : Int) < (row.length : Int) := by omega
      have i3 : (i : Int) < (fa.length : Int) := by omega
      have i4 : (0 : Int) ≤ (row[i] : Int) := by omega
      have i5 : (row[i] : Int) < (ta.length : Int) := by omega
      have i6 : (0 : Int) ≤ (v : Int) := by omega
      have i7 : (v : Int) < (ta.length : Int) := by omega
      have i8 : (row.length : Int) < (fa.length : Int) := by omega
      have i9 : (0 : Int) ≤ (row.length : Int) := by omega
      generalize row[i] = rv at *
      generalize (fa.getD i 0).testBit row.length = ba at *
      generalize (ta.getD (row.getD i 0) 0).testBit v = bb at *
      go_upto_region 5 with fail
      cases ba with
      | true =>
        have hS0 : (fun w' : World => w'.cell? ⟨X, 1, none⟩ = some (.slice (some ⟨ga, oa, none⟩) fa.length ca) ∧ w'.cell? ⟨ga, oa + i, none⟩ = some (.slice (some ⟨ga1, oa1, none⟩) fa.length ca1) ∧ w'.cell? ⟨ga1, oa1 + row.length, none⟩ = some (.bool true) ∧ w'.cell? ⟨Y, 1, none⟩ = some (.slice (some ⟨gb, ob, none⟩) ta.length cb) ∧ w'.cell? ⟨rb, ro + i, none⟩ = some (.int .i64 (rv : Int)) ∧ w'.cell? ⟨gb, ob + rv, none⟩ = some (.slice (some ⟨g1, o1, none⟩) ta.length c1) ∧ w'.cell? ⟨g1, o1 + v, none⟩ = some (.bool bb)) wr.drew := ⟨q1, q2, q3, q4, q5, q6, q7⟩
        clear q1 q2 q3 q4 q5 q6 q7
        refine wp_region_M (S := (fun w' : World => w'.cell? ⟨X, 1, none⟩ = some (.slice (some ⟨ga, oa, none⟩) fa.length ca) ∧ w'.cell? ⟨ga, oa + i, none⟩ = some (.slice (some ⟨ga1, oa1, none⟩) fa.length ca1) ∧ w'.cell? ⟨ga1, oa1 + row.length, none⟩ = some (.bool true) ∧ w'.cell? ⟨Y, 1, none⟩ = some (.slice (some ⟨gb, ob, none⟩) ta.length cb) ∧ w'.cell? ⟨rb, ro + i, none⟩ = some (.int .i64 (rv : Int)) ∧ w'.cell? ⟨gb, ob + rv, none⟩ = some (.slice (some ⟨g1, o1, none⟩) ta.length c1) ∧ w'.cell? ⟨g1, o1 + v, none⟩ = some (.bool bb))) (L := 22) (n := 22) (by kernel_rfl) rfl (by kernel_rfl) ?_
        refine wpAnyK_go (i := 0) (m' := 1) (some 18) (v := .pointer (some ⟨X, 1, none⟩)) rfl rfl (by kernel_rfl) (by kernel_rfl) (by kernel_rfl) (by kernel_rfl) (by kernel_rfl) (fun _ _ _ h => h) (Or.inl ⟨by rfl, ?_⟩) hS0 ?_
        · intro w' hSw
          go_simp
        simp only [Act.put, List.setIfInBounds_toArray, List.set_cons_zero, List.set_cons_succ]
        refine wpAnyK_go (i := 1) (m' := 3) (some 19) (v := .slice (some ⟨ga, oa, none⟩) fa.length ca) rfl rfl (by kernel_rfl) (by kernel_rfl) (by kernel_rfl) (by kernel_rfl) (by kernel_rfl) (fun _ _ _ h => h) (Or.inl ⟨by rfl, ?_⟩) hS0 ?_
        · intro w' hSw
          obtain ⟨s1, s2, s3, s4, s5, s6, s7⟩ := hSw
          go_simp
        simp only [Act.put, List.setIfInBounds_toArray, List.set_cons_zero, List.set_cons_succ]
        refine wpAnyK_go (i := 2) (m' := 7) (some 20) (v := .int .i64 (i : Int)) rfl rfl (by kernel_rfl) (by kernel_rfl) (by kernel_rfl) (by kernel_rfl) (by kernel_rfl) (fun _ _ _ h => h) (Or.inl ⟨by rfl, ?_⟩) hS0 ?_
        · intro w' hSw
          go_simp
        simp only [Act.put, List.setIfInBounds_toArray, List.set_cons_zero, List.set_cons_succ]
        refine wpAnyK_go (i := 3) (m' := 15) (some 21) (v := .pointer (some ⟨ga, oa + i, none⟩)) rfl rfl (by kernel_rfl) (by kernel_rfl) (by kernel_rfl) (by kernel_rfl) (by kernel_rfl) (fun _ _ _ h => h) (Or.inl ⟨by rfl, ?_⟩) hS0 ?_
        · intro w' hSw
          go_simp
        simp only [Act.put, List.setIfInBounds_toArray, List.set_cons_zero, List.set_cons_succ]
        refine wpAnyK_go (i := 4) (m' := 31) (some 22) (v := .slice (some ⟨ga1, oa1, none⟩) fa.length ca1) rfl rfl (by kernel_rfl) (by kernel_rfl) (by kernel_rfl) (by kernel_rfl) (by kernel_rfl) (fun _ _ _ h => h) (Or.inl ⟨by rfl, ?_⟩) hS0 ?_
        · intro w' hSw
          obtain ⟨s1, s2, s3, s4, s5, s6, s7⟩ := hSw
          go_simp
        simp only [Act.put, List.setIfInBounds_toArray, List.set_cons_zero, List.set_cons_succ]
        refine wpAnyK_go (i := 5) (m' := 63) (some 23) (v := .int .i64 (row.length : Int)) rfl rfl (by kernel_rfl) (by kernel_rfl) (by kernel_rfl) (by kernel_rfl) (by kernel_rfl) (fun _ _ _ h => h) (Or.inl ⟨by rfl, ?_⟩) hS0 ?_
        · intro w' hSw
          go_simp
        simp only [Act.put, List.setIfInBounds_toArray, List.set_cons_zero, List.set_cons_succ]
        refine wpAnyK_go (i := 6) (m' := 127) (some 24) (v := .pointer (some ⟨ga1, oa1 + row.length, none⟩)) rfl rfl (by kernel_rfl) (by kernel_rfl) (by kernel_rfl) (by kernel_rfl) (by kernel_rfl) (fun _ _ _ h => h) (Or.inl ⟨by rfl, ?_⟩) hS0 ?_
        · intro w' hSw
          go_simp
        simp only [Act.put, List.setIfInBounds_toArray, List.set_cons_zero, List.set_cons_succ]
        refine wpAnyK_go (i := 7) (m' := 255) (some 25) (v := .bool true) rfl rfl (by kernel_rfl) (by kernel_rfl) (by kernel_rfl) (by kernel_rfl) (by kernel_rfl) (fun _ _ _ h => h) (Or.inl ⟨by rfl, ?_⟩) hS0 ?_
        · intro w' hSw
          obtain ⟨s1, s2, s3, s4, s5, s6, s7⟩ := hSw
          go_simp
        simp only [Act.put, List.setIfInBounds_toArray, List.set_cons_zero, List.set_cons_succ]
        refine wpAnyK_go (i := 8) (m' := 511) (some 26) (v := .bool true) rfl rfl (by kernel_rfl) (by kernel_rfl) (by kernel_rfl) (by kernel_rfl) (by kernel_rfl) (fun _ _ _ h => h) (Or.inl ⟨by rfl, ?_⟩) hS0 ?_
        · intro w' hSw
          go_simp
        simp only [Act.put, List.setIfInBounds_toArray, List.set_cons_zero, List.set_cons_succ]
        refine wpAnyK_go (i := 9) (m' := 1023) (some 27) (v := .pointer (some ⟨Y, 1, none⟩)) rfl rfl (by kernel_rfl) (by kernel_rfl) (by kernel_rfl) (by kernel_rfl) (by kernel_rfl) (fun _ _ _ h => h) (Or.inl ⟨by rfl, ?_⟩) hS0 ?_
        · intro w' hSw
          go_simp
        simp only [Act.put, List.setIfInBounds_toArray, List.set_cons_zero, List.set_cons_succ]
        refine wpAnyK_go (i := 10) (m' := 2047) (some 28) (v := .slice (some ⟨gb, ob, none⟩) ta.length cb) rfl rfl (by kernel_rfl) (by kernel_rfl) (by kernel_rfl) (by kernel_rfl) (by kernel_rfl) (fun _ _ _ h => h) (Or.inl ⟨by rfl, ?_⟩) hS0 ?_
        · intro w' hSw
          obtain ⟨s1, s2, s3, s4, s5, s6, s7⟩ := hSw
          go_simp
        simp only [Act.put, List.setIfInBounds_toArray, List.set_cons_zero, List.set_cons_succ]
        refine wpAnyK_go (i := 11) (m' := 4095) (some 29) (v := .slice (some ⟨rb, ro, none⟩) row.length cr) rfl rfl (by kernel_rfl) (by kernel_rfl) (by kernel_rfl) (by kernel_rfl) (by kernel_rfl) (fun _ _ _ h => h) (Or.inl ⟨by rfl, ?_⟩) hS0 ?_
        · intro w' hSw
          go_simp
        simp only [Act.put, List.setIfInBounds_toArray, List.set_cons_zero, List.set_cons_succ]
        refine wpAnyK_go (i := 12) (m' := 8191) (some 30) (v := .int .i64 (i : Int)) rfl rfl (by kernel_rfl) (by kernel_rfl) (by kernel_rfl) (by kernel_rfl) (by kernel_rfl) (fun _ _ _ h => h) (Or.inl ⟨by rfl, ?_⟩) hS0 ?_
        · intro w' hSw
          go_simp
        simp only [Act.put, List.setIfInBounds_toArray, List.set_cons_zero, List.set_cons_succ]
        refine wpAnyK_go (i := 13) (m' := 16383) (some 31) (v := .pointer (some ⟨rb, ro + i, none⟩)) rfl rfl (by kernel_rfl) (by kernel_rfl) (by kernel_rfl) (by kernel_rfl) (by kernel_rfl) (fun _ _ _ h => h) (Or.inl ⟨by rfl, ?_⟩) hS0 ?_
        · intro w' hSw
          go_simp
        simp only [Act.put, List.setIfInBounds_toArray, List.set_cons_zero, List.set_cons_succ]
        refine wpAnyK_go (i := 14) (m' := 32767) (some 32) (v := .int .i64 (rv : Int)) rfl rfl (by kernel_rfl) (by kernel_rfl) (by kernel_rfl) (by kernel_rfl) (by kernel_rfl) (fun _ _ _ h => h) (Or.inl ⟨by rfl, ?_⟩) hS0 ?_
        · intro w' hSw
          obtain ⟨s1, s2, s3, s4, s5, s6, s7⟩ := hSw
          go_simp
        simp only [Act.put, List.setIfInBounds_toArray, List.set_cons_zero, List.set_cons_succ]
        refine wpAnyK_go (i := 15) (m' := 65535) (some 33) (v := .pointer (some ⟨gb, ob + rv, none⟩)) rfl rfl (by kernel_rfl) (by kernel_rfl) (by kernel_rfl) (by kernel_rfl) (by kernel_rfl) (fun _ _ _ h => h) (Or.inl ⟨by rfl, ?_⟩) hS0 ?_
        · intro w' hSw
          go_simp
        simp only [Act.put, List.setIfInBounds_toArray, List.set_cons_zero, List.set_cons_succ]
        refine wpAnyK_go (i := 16) (m' := 131071) (some 34) (v := .slice (some ⟨g1, o1, none⟩) ta.length c1) rfl rfl (by kernel_rfl) (by kernel_rfl) (by kernel_rfl) (by kernel_rfl) (by kernel_rfl) (fun _ _ _ h => h) (Or.inl ⟨by rfl, ?_⟩) hS0 ?_
        · intro w' hSw
          obtain ⟨s1, s2, s3, s4, s5, s6, s7⟩ := hSw
          go_simp
        simp only [Act.put, List.setIfInBounds_toArray, List.set_cons_zero, List.set_cons_succ]
        refine wpAnyK_go (i := 17) (m' := 262143) (some 35) (v := .int .i64 (v : Int)) rfl rfl (by kernel_rfl) (by kernel_rfl) (by kernel_rfl) (by kernel_rfl) (by kernel_rfl) (fun _ _ _ h => h) (Or.inl ⟨by rfl, ?_⟩) hS0 ?_
        · intro w' hSw
          go_simp
        simp only [Act.put, List.setIfInBounds_toArray, List.set_cons_zero, List.set_cons_succ]
        refine wpAnyK_go (i := 18) (m' := 524287) (some 36) (v := .pointer (some ⟨g1, o1 + v, none⟩)) rfl rfl (by kernel_rfl) (by kernel_rfl) (by kernel_rfl) (by kernel_rfl) (by kernel_rfl) (fun _ _ _ h => h) (Or.inl ⟨by rfl, ?_⟩) hS0 ?_
        · intro w' hSw
          go_simp
        simp only [Act.put, List.setIfInBounds_toArray, List.set_cons_zero, List.set_cons_succ]
        refine wpAnyK_go (i := 19) (m' := 1048575) (some 37) (v := .bool bb) rfl rfl (by kernel_rfl) (by kernel_rfl) (by kernel_rfl) (by kernel_rfl) (by kernel_rfl) (fun _ _ _ h => h) (Or.inl ⟨by rfl, ?_⟩) hS0 ?_
        · intro w' hSw
          obtain ⟨s1, s2, s3, s4, s5, s6, s7⟩ := hSw
          go_simp
        simp only [Act.put, List.setIfInBounds_toArray, List.set_cons_zero, List.set_cons_succ]
        refine wpAnyK_go (i := 20) (m' := 2097151) (some 38) (v := .bool (!bb)) rfl rfl (by kernel_rfl) (by kernel_rfl) (by kernel_rfl) (by kernel_rfl) (by kernel_rfl) (fun _ _ _ h => h) (Or.inl ⟨by rfl, ?_⟩) hS0 ?_
        · intro w' hSw
          go_simp
        simp only [Act.put, List.setIfInBounds_toArray, List.set_cons_zero, List.set_cons_succ]
        refine wpAnyK_go (i := 21) (m' := 4194303) (some 39) (v := .bool (!bb)) rfl rfl (by kernel_rfl) (by kernel_rfl) (by kernel_rfl) (by kernel_rfl) (by kernel_rfl) (fun _ _ _ h => h) (Or.inl ⟨by rfl, ?_⟩) hS0 ?_
        · intro w' hSw
          go_simp
        simp only [Act.put, List.setIfInBounds_toArray, List.set_cons_zero, List.set_cons_succ]
        refine wpAnyK_done (by kernel_rfl) ?_ _
        clear hS0
        cases bb with
        | true =>
          have HI2 : Hid (∀ x, x < i + 1 → Le fa x row.length → Le ta (row.getD x 0) v) := fun x hx hle => by
            by_cases e : x = i
            · subst e; exact HLB.out.1 rfl
            · exact HI.out x (by omega) hle
          clear HLA HLB
          go_wp2
          go_roundw
          case rel => exact ⟨i + 1, hil, by go_num, HB.out, HI2.out⟩
          case measure => simp [intOf]; omega
        | false =>
          have HE : Hid (bit = false) := by
            show bit = false
            cases hbt : bit with
            | false => rfl
            | true =>
              have h2 := HLB.out.2 ((HBIT.out.1 hbt).2 i hil (HLA.out.1 rfl))
              cases h2
          go_wp2
          go_ret
          exact ⟨by rw [HE.out]; rfl, HBW.out.trans (HB.out.mono HBW.out.size)⟩
      | false =>
        have hS0 : (fun w' : World => w'.cell? ⟨X, 1, none⟩ = some (.slice (some ⟨ga, oa, none⟩) fa.length ca) ∧ w'.cell? ⟨ga, oa + i, none⟩ = some (.slice (some ⟨ga1, oa1, none⟩) fa.length ca1) ∧ w'.cell? ⟨ga1, oa1 + row.length, none⟩ = some (.bool false) ∧ w'.cell? ⟨Y, 1, none⟩ = some (.slice (some ⟨gb, ob, none⟩) ta.length cb) ∧ w'.cell? ⟨rb, ro + i, none⟩ = some (.int .i64 (rv : Int)) ∧ w'.cell? ⟨gb, ob + rv, none⟩ = some (.slice (some ⟨g1, o1, none⟩) ta.length c1) ∧ w'.cell? ⟨g1, o1 + v, none⟩ = some (.bool bb)) wr.drew := ⟨q1, q2, q3, q4, q5, q6, q7⟩
        clear q1 q2 q3 q4 q5 q6 q7
        refine wp_region_M (S := (fun w' : World => w'.cell? ⟨X, 1, none⟩ = some (.slice (some ⟨ga, oa, none⟩) fa.length ca) ∧ w'.cell? ⟨ga, oa + i, none⟩ = some (.slice (some ⟨ga1, oa1, none⟩) fa.length ca1) ∧ w'.cell? ⟨ga1, oa1 + row.length, none⟩ = some (.bool false) ∧ w'.cell? ⟨Y, 1, none⟩ = some (.slice (some ⟨gb, ob, none⟩) ta.length cb) ∧ w'.cell? ⟨rb, ro + i, none⟩ = some (.int .i64 (rv : Int)) ∧ w'.cell? ⟨gb, ob + rv, none⟩ = some (.slice (some ⟨g1, o1, none⟩) ta.length c1) ∧ w'.cell? ⟨g1, o1 + v, none⟩ = some (.bool bb))) (L := 22) (n := 22) (by kernel_rfl) rfl (by kernel_rfl) ?_
        refine wpAnyK_go (i := 0) (m' := 1) (some 18) (v := .pointer (some ⟨X, 1, none⟩)) rfl rfl (by kernel_rfl) (by kernel_rfl) (by kernel_rfl) (by kernel_rfl) (by kernel_rfl) (fun _ _ _ h => h) (Or.inl ⟨by rfl, ?_⟩) hS0 ?_
        · intro w' hSw
          go_simp
        simp only [Act.put, List.setIfInBounds_toArray, List.set_cons_zero, List.set_cons_succ]
        refine wpAnyK_go (i := 1) (m' := 3) (some 19) (v := .slice (some ⟨ga, oa, none⟩) fa.length ca) rfl rfl (by kernel_rfl) (by kernel_rfl) (by kernel_rfl) (by kernel_rfl) (by kernel_rfl) (fun _ _ _ h => h) (Or.inl ⟨by rfl, ?_⟩) hS0 ?_
        · intro w' hSw
          obtain ⟨s1, s2, s3, s4, s5, s6, s7⟩ := hSw
          go_simp
        simp only [Act.put, List.setIfInBounds_toArray, List.set_cons_zero, List.set_cons_succ]
        refine wpAnyK_go (i := 2) (m' := 7) (some 20) (v := .int .i64 (i : Int)) rfl rfl (by kernel_rfl) (by kernel_rfl) (by kernel_rfl) (by kernel_rfl) (by kernel_rfl) (fun _ _ _ h => h) (Or.inl ⟨by rfl, ?_⟩) hS0 ?_
        · intro w' hSw
          go_simp
        simp only [Act.put, List.setIfInBounds_toArray, List.set_cons_zero, List.set_cons_succ]
        refine wpAnyK_go (i := 3) (m' := 15) (some 21) (v := .pointer (some ⟨ga, oa + i, none⟩)) rfl rfl (by kernel_rfl) (by kernel_rfl) (by kernel_rfl) (by kernel_rfl) (by kernel_rfl) (fun _ _ _ h => h) (Or.inl ⟨by rfl, ?_⟩) hS0 ?_
        · intro w' hSw
          go_simp
        simp only [Act.put, List.setIfInBounds_toArray, List.set_cons_zero, List.set_cons_succ]
        refine wpAnyK_go (i := 4) (m' := 31) (some 22) (v := .slice (some ⟨ga1, oa1, none⟩) fa.length ca1) rfl rfl (by kernel_rfl) (by kernel_rfl) (by kernel_rfl) (by kernel_rfl) (by kernel_rfl) (fun _ _ _ h => h) (Or.inl ⟨by rfl, ?_⟩) hS0 ?_
        · intro w' hSw
          obtain ⟨s1, s2, s3, s4, s5, s6, s7⟩ := hSw
          go_simp
        simp only [Act.put, List.setIfInBounds_toArray, List.set_cons_zero, List.set_cons_succ]
        refine wpAnyK_go (i := 5) (m' := 63) (some 23) (v := .int .i64 (row.length : Int)) rfl rfl (by kernel_rfl) (by kernel_rfl) (by kernel_rfl) (by kernel_rfl) (by kernel_rfl) (fun _ _ _ h => h) (Or.inl ⟨by rfl, ?_⟩) hS0 ?_
        · intro w' hSw
          go_simp
        simp only [Act.put, List.setIfInBounds_toArray, List.set_cons_zero, List.set_cons_succ]
        refine wpAnyK_go (i := 6) (m' := 127) (some 24) (v := .pointer (some ⟨ga1, oa1 + row.length, none⟩)) rfl rfl (by kernel_rfl) (by kernel_rfl) (by kernel_rfl) (by kernel_rfl) (by kernel_rfl) (fun _ _ _ h => h) (Or.inl ⟨by rfl, ?_⟩) hS0 ?_
        · intro w' hSw
          go_simp
        simp only [Act.put, List.setIfInBounds_toArray, List.set_cons_zero, List.set_cons_succ]
        refine wpAnyK_go (i := 7) (m' := 255) (some 25) (v := .bool false) rfl rfl (by kernel_rfl) (by kernel_rfl) (by kernel_rfl) (by kernel_rfl) (by kernel_rfl) (fun _ _ _ h => h) (Or.inl ⟨by rfl, ?_⟩) hS0 ?_
        · intro w' hSw
          obtain ⟨s1, s2, s3, s4, s5, s6, s7⟩ := hSw
          go_simp
        simp only [Act.put, List.setIfInBounds_toArray, List.set_cons_zero, List.set_cons_succ]
        refine wpAnyK_go (i := 8) (m' := 511) (some 26) (v := .bool false) rfl rfl (by kernel_rfl) (by kernel_rfl) (by kernel_rfl) (by kernel_rfl) (by kernel_rfl) (fun _ _ _ h => h) (Or.inl ⟨by rfl, ?_⟩) hS0 ?_
        · intro w' hSw
          go_simp
        simp only [Act.put, List.setIfInBounds_toArray, List.set_cons_zero, List.set_cons_succ]
        refine wpAnyK_go (i := 9) (m' := 1023) (some 27) (v := undef) rfl rfl (by kernel_rfl) (by kernel_rfl) (by kernel_rfl) (by kernel_rfl) (by kernel_rfl) (fun _ _ _ h => h) (Or.inr ⟨by rfl, rfl⟩) hS0 ?_
        simp only [Act.put, List.setIfInBounds_toArray, List.set_cons_zero, List.set_cons_succ]
        refine wpAnyK_go (i := 10) (m' := 2047) (some 28) (v := undef) rfl rfl (by kernel_rfl) (by kernel_rfl) (by kernel_rfl) (by kernel_rfl) (by kernel_rfl) (fun _ _ _ h => h) (Or.inr ⟨by rfl, rfl⟩) hS0 ?_
        simp only [Act.put, List.setIfInBounds_toArray, List.set_cons_zero, List.set_cons_succ]
        refine wpAnyK_go (i := 11) (m' := 4095) (some 29) (v := undef) rfl rfl (by kernel_rfl) (by kernel_rfl) (by kernel_rfl) (by kernel_rfl) (by kernel_rfl) (fun _ _ _ h => h) (Or.inr ⟨by rfl, rfl⟩) hS0 ?_
        simp only [Act.put, List.setIfInBounds_toArray, List.set_cons_zero, List.set_cons_succ]
        refine wpAnyK_go (i := 12) (m' := 8191) (some 30) (v := undef) rfl rfl (by kernel_rfl) (by kernel_rfl) (by kernel_rfl) (by kernel_rfl) (by kernel_rfl) (fun _ _ _ h => h) (Or.inr ⟨by rfl, rfl⟩) hS0 ?_
        simp only [Act.put, List.setIfInBounds_toArray, List.set_cons_zero, List.set_cons_succ]
        refine wpAnyK_go (i := 13) (m' := 16383) (some 31) (v := undef) rfl rfl (by kernel_rfl) (by kernel_rfl) (by kernel_rfl) (by kernel_rfl) (by kernel_rfl) (fun _ _ _ h => h) (Or.inr ⟨by rfl, rfl⟩) hS0 ?_
        simp only [Act.put, List.setIfInBounds_toArray, List.set_cons_zero, List.set_cons_succ]
        refine wpAnyK_go (i := 14) (m' := 32767) (some 32) (v := undef) rfl rfl (by kernel_rfl) (by kernel_rfl) (by kernel_rfl) (by kernel_rfl) (by kernel_rfl) (fun _ _ _ h => h) (Or.inr ⟨by rfl, rfl⟩) hS0 ?_
        simp only [Act.put, List.setIfInBounds_toArray, List.set_cons_zero, List.set_cons_succ]
        refine wpAnyK_go (i := 15) (m' := 65535) (some 33) (v := undef) rfl rfl (by kernel_rfl) (by kernel_rfl) (by kernel_rfl) (by kernel_rfl) (by kernel_rfl) (fun _ _ _ h => h) (Or.inr ⟨by rfl, rfl⟩) hS0 ?_
        simp only [Act.put, List.setIfInBounds_toArray, List.set_cons_zero, List.set_cons_succ]
        refine wpAnyK_go (i := 16) (m' := 131071) (some 34) (v := undef) rfl rfl (by kernel_rfl) (by kernel_rfl) (by kernel_rfl) (by kernel_rfl) (by kernel_rfl) (fun _ _ _ h => h) (Or.inr ⟨by rfl, rfl⟩) hS0 ?_
        simp only [Act.put, List.setIfInBounds_toArray, List.set_cons_zero, List.set_cons_succ]
        refine wpAnyK_go (i := 17) (m' := 262143) (some 35) (v := undef) rfl rfl (by kernel_rfl) (by kernel_rfl) (by kernel_rfl) (by kernel_rfl) (by kernel_rfl) (fun _ _ _ h => h) (Or.inr ⟨by rfl, rfl⟩) hS0 ?_
        simp only [Act.put, List.setIfInBounds_toArray, List.set_cons_zero, List.set_cons_succ]
        refine wpAnyK_go (i := 18) (m' := 524287) (some 36) (v := undef) rfl rfl (by kernel_rfl) (by kernel_rfl) (by kernel_rfl) (by kernel_rfl) (by kernel_rfl) (fun _ _ _ h => h) (Or.inr ⟨by rfl, rfl⟩) hS0 ?_
        simp only [Act.put, List.setIfInBounds_toArray, List.set_cons_zero, List.set_cons_succ]
        refine wpAnyK_go (i := 19) (m' := 1048575) (some 37) (v := undef) rfl rfl (by kernel_rfl) (by kernel_rfl) (by kernel_rfl) (by kernel_rfl) (by kernel_rfl) (fun _ _ _ h => h) (Or.inr ⟨by rfl, rfl⟩) hS0 ?_
        simp only [Act.put, List.setIfInBounds_toArray, List.set_cons_zero, List.set_cons_succ]
        refine wpAnyK_go (i := 20) (m' := 2097151) (some 38) (v := undef) rfl rfl (by kernel_rfl) (by kernel_rfl) (by kernel_rfl) (by kernel_rfl) (by kernel_rfl) (fun _ _ _ h => h) (Or.inr ⟨by rfl, rfl⟩) hS0 ?_
        simp only [Act.put, List.setIfInBounds_toArray, List.set_cons_zero, List.set_cons_succ]
        refine wpAnyK_go (i := 21) (m' := 4194303) (some 39) (v := .bool false) rfl rfl (by kernel_rfl) (by kernel_rfl) (by kernel_rfl) (by kernel_rfl) (by kernel_rfl) (fun _ _ _ h => h) (Or.inl ⟨by rfl, ?_⟩) hS0 ?_
        · intro w' hSw
          go_simp
        simp only [Act.put, List.setIfInBounds_toArray, List.set_cons_zero, List.set_cons_succ]
        refine wpAnyK_done (by kernel_rfl) ?_ _
        clear hS0
        have HI2 : Hid (∀ x, x < i + 1 → Le fa x row.length → Le ta (row.getD x 0) v) := fun x hx hle => by
          by_cases e : x = i
          · subst e; have h2 := HLA.out.2 hle; cases h2
          · exact HI.out x (by omega) hle
        clear HLA HLB
        go_wp2
        go_roundw
        case rel => exact ⟨i + 1, hil, by go_num, HB.out, HI2.out⟩
        case measure => simp [intOf]; omega
    · obtain rfl : i = row.length := by omega
      have HE : Hid (bit = true) := HBIT.out.2 ⟨HVT.out, HI.out⟩
      go_wp2
      go_ret
      exact ⟨by rw [HE.out]; rfl, HBW.out.trans (HB.out.mono HBW.out.size)⟩
end Go.Proofs.YtgdflaapgfpdeaaGreatDoor
