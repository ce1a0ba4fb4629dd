/- bytes.CutPrefix, newByteReader. newByteReader. -/
import Derived.Test.YtlpnegnpejpdkaaGreatDoorRi
import Derived.Test.YtlpnegnpejpdkaaGreatDoorRj
import Derived.Lib.SlBytesConst
namespace Go.Proofs.YtlpnegnpejpdkaaGreatDoor
open Go.RowKit

set_option maxRecDepth 10000 in
theorem cut_no {w : World} {u v : Value} {a b : Byt} (ha : Bts w u a) (hb : Bts w v b) (h0 : 0 < b.length) (hl : a.length < 140737488355328) (hn : (a.take b.length == b) = false) : Calls Tryz.prog 98 #[u, v] w fun r w' => r = .returned (.tuple #[u, .bool false]) ∧ w' = w := by
  have CP := hasprefix_any ha hb h0 hl
  rw [hn] at CP
  obtain ⟨ua, uc, rfl, _⟩ := ha
  obtain ⟨va, vc, rfl, _⟩ := hb
  go_enter Tryz.func98, Tryz.ntmps98
  go_wp2_with (go_at_call 120; (with_reducible refine Calls.mono CP ?_); rintro e2 w2 ⟨rfl, hw⟩; obtain rfl := hw.symm; clear hw)
  exact bodyPost_ret (results_tmp2 rfl _ _ _) rfl ⟨rfl, rfl⟩
set_option maxRecDepth 10000 in
theorem cut_yes {w : World} {g o cap : Nat} {v : Value} {a b : Byt} (ha : Bts w (.slice (some ⟨g, o, none⟩) a.length cap) a) (hb : Bts w v b) (h0 : 0 < b.length) (hl : a.length < 140737488355328) (hc : a.length ≤ cap) (hn : (a.take b.length == b) = true) : Calls Tryz.prog 98 #[.slice (some ⟨g, o, none⟩) a.length cap, v] w fun r w' => (∃ o', r = .returned (.tuple #[.slice (some ⟨g, o', none⟩) (a.length - b.length) (cap - b.length), .bool true]) ∧ (o' = o + b.length ∨ cap = b.length)) ∧ w' = w := by
  have CP := hasprefix_any ha hb h0 hl
  rw [hn] at CP
  have hba : b.length ≤ a.length := by
    rcases Nat.lt_or_ge a.length b.length with h | h
    · rw [take_ne h] at hn; cases hn
    · exact h
  clear ha
  obtain ⟨va, vc, rfl, _⟩ := hb
  have n1 : (b.length : Int) ≤ (cap : Int) := by omega
  have n2 : (b.length : Int) ≤ (a.length : Int) := by omega
  by_cases hcp : cap = b.length
  · have hcp0 : cap - b.length = 0 := by omega
    have HCP : Hid (cap = b.length) := hcp
    clear hcp
    go_enter Tryz.func98, Tryz.ntmps98
    go_wp2_with (go_at_call 120; (with_reducible refine Calls.mono CP ?_); rintro e2 w2 ⟨rfl, hw⟩; obtain rfl := hw.symm; clear hw)
    refine bodyPost_ret (results_tmp2 rfl _ _ _) rfl ⟨⟨o, ?_, .inr HCP.out⟩, rfl⟩
    rw [HCP.out, Nat.sub_self]
    rfl
  · have hcp0 : ¬ cap - b.length = 0 := by omega
    go_enter Tryz.func98, Tryz.ntmps98
    go_wp2_with (go_at_call 120; (with_reducible refine Calls.mono CP ?_); rintro e2 w2 ⟨rfl, hw⟩; obtain rfl := hw.symm; clear hw)
    exact bodyPost_ret (results_tmp2 rfl _ _ _) rfl ⟨⟨o + b.length, rfl, .inl rfl⟩, rfl⟩
def bodyR (b : Byt) : Option Byt := if b.length < 8 ∨ sumP (b.take (b.length - 4)) ≠ b.drop (b.length - 4) ∨ b.take 4 ≠ markP then none else some ((b.take (b.length - 4)).drop 4)
/-- What newByteReader answers. -/
def NB (w : World) (x : Option Byt) (r : Ending) (w' : World) : Prop := match x with
  | some m => ∃ R, r = .returned (.pointer (some ⟨R, 0, none⟩)) ∧ Hid (Rd w' R 200000 m ∧ w.heap.size ≤ R ∧ Below w.heap.size w w')
  | none => r = thrown 171 ∧ Hid (Below w.heap.size w w')
set_option maxHeartbeats 16000000 in
set_option maxRecDepth 10000 in
theorem nbr_short {w : World} {u : Value} {b : Byt} (hb : Bts w u b) (h4 : b.length < 4) : Calls Tryz.prog 63 #[u] w fun r w' => NB w none r w' := by
  obtain ⟨ad, cap, rfl, _⟩ := hb
  have CG := fun W => giveUp_any 171 W
  unfold thrown at CG
  have e1 : ((b.length : Int) - 4 < 0) := by omega
  obtain ⟨F, hF⟩ : ∃ F : Ending → World → Prop, F = fun r w' => NB w none r w' := ⟨_, rfl⟩
  rw [← hF]
  have HFN : Hid (∀ r w', r = thrown 171 → Below w.heap.size w w' → F r w') := fun r w' h1 h2 => by rw [hF]; exact And.intro h1 h2
  clear hF
  go_enter Tryz.func63, Tryz.ntmps63
  go_upto_region 2 with fail
  refine wp_region_M (S := fun _ => True) (L := 100) (n := 13) (by kernel_rfl) rfl (by kernel_rfl) ?_
  refine wpAnyK_go (i := 0) (m' := 1) (some 9) (v := .int .i64 ((b.length : Int) - 4)) rfl rfl (by kernel_rfl) (by kernel_rfl) (by kernel_rfl) (by kernel_rfl) (by kernel_rfl) (fun _ _ _ h => h) (Or.inl ⟨by rfl, ?_⟩) trivial ?_
  · intro w' hSw
    go_simp
  try simp only [Act.put, List.setIfInBounds_toArray, List.set_cons_zero, List.set_cons_succ]
  refine wpAnyK_go (i := 1) (m' := 3) (some 10) (v := .bool true) rfl rfl (by kernel_rfl) (by kernel_rfl) (by kernel_rfl) (by kernel_rfl) (by kernel_rfl) (fun _ _ _ h => h) (Or.inl ⟨by rfl, ?_⟩) trivial ?_
  · intro w' hSw
    go_simp
  try simp only [Act.put, List.setIfInBounds_toArray, List.set_cons_zero, List.set_cons_succ]
  refine wpAnyK_go (i := 2) (m' := 7) (some 11) (v := .bool true) rfl rfl (by kernel_rfl) (by kernel_rfl) (by kernel_rfl) (by kernel_rfl) (by kernel_rfl) (fun _ _ _ h => h) (Or.inl ⟨by rfl, ?_⟩) trivial ?_
  · intro w' hSw
    go_simp
  try simp only [Act.put, List.setIfInBounds_toArray, List.set_cons_zero, List.set_cons_succ]
  refine wpAnyK_go (i := 3) (m' := 15) (some 12) (v := undef) rfl rfl (by kernel_rfl) (by kernel_rfl) (by kernel_rfl) (by kernel_rfl) (by kernel_rfl) (fun _ _ _ h => h) (Or.inr ⟨by rfl, rfl⟩) trivial ?_
  try simp only [Act.put, List.setIfInBounds_toArray, List.set_cons_zero, List.set_cons_succ]
  refine wpAnyK_go (i := 4) (m' := 31) (some 13) (v := undef) rfl rfl (by kernel_rfl) (by kernel_rfl) (by kernel_rfl) (by kernel_rfl) (by kernel_rfl) (fun _ _ _ h => h) (Or.inr ⟨by rfl, rfl⟩) trivial ?_
  try simp only [Act.put, List.setIfInBounds_toArray, List.set_cons_zero, List.set_cons_succ]
  refine wpAnyK_go (i := 5) (m' := 63) (some 14) (v := undef) rfl rfl (by kernel_rfl) (by kernel_rfl) (by kernel_rfl) (by kernel_rfl) (by kernel_rfl) (fun _ _ _ h => h) (Or.inr ⟨by rfl, rfl⟩) trivial ?_
  try simp only [Act.put, List.setIfInBounds_toArray, List.set_cons_zero, List.set_cons_succ]
  refine wpAnyK_go (i := 6) (m' := 127) (some 15) (v := undef) rfl rfl (by kernel_rfl) (by kernel_rfl) (by kernel_rfl) (by kernel_rfl) (by kernel_rfl) (fun _ _ _ h => h) (Or.inr ⟨by rfl, rfl⟩) trivial ?_
  try simp only [Act.put, List.setIfInBounds_toArray, List.set_cons_zero, List.set_cons_succ]
  refine wpAnyK_go (i := 7) (m' := 255) (some 16) (v := undef) rfl rfl (by kernel_rfl) (by kernel_rfl) (by kernel_rfl) (by kernel_rfl) (by kernel_rfl) (fun _ _ _ h => h) (Or.inr ⟨by rfl, rfl⟩) trivial ?_
  try simp only [Act.put, List.setIfInBounds_toArray, List.set_cons_zero, List.set_cons_succ]
  refine wpAnyK_go (i := 8) (m' := 511) (some 17) (v := undef) rfl rfl (by kernel_rfl) (by kernel_rfl) (by kernel_rfl) (by kernel_rfl) (by kernel_rfl) (fun _ _ _ h => h) (Or.inr ⟨by rfl, rfl⟩) trivial ?_
  try simp only [Act.put, List.setIfInBounds_toArray, List.set_cons_zero, List.set_cons_succ]
  refine wpAnyK_go (i := 9) (m' := 1023) (some 18) (v := undef) rfl rfl (by kernel_rfl) (by kernel_rfl) (by kernel_rfl) (by kernel_rfl) (by kernel_rfl) (fun _ _ _ h => h) (Or.inr ⟨by rfl, rfl⟩) trivial ?_
  try simp only [Act.put, List.setIfInBounds_toArray, List.set_cons_zero, List.set_cons_succ]
  refine wpAnyK_go (i := 10) (m' := 2047) (some 19) (v := undef) rfl rfl (by kernel_rfl) (by kernel_rfl) (by kernel_rfl) (by kernel_rfl) (by kernel_rfl) (fun _ _ _ h => h) (Or.inr ⟨by rfl, rfl⟩) trivial ?_
  try simp only [Act.put, List.setIfInBounds_toArray, List.set_cons_zero, List.set_cons_succ]
  refine wpAnyK_go (i := 11) (m' := 4095) (some 20) (v := undef) rfl rfl (by kernel_rfl) (by kernel_rfl) (by kernel_rfl) (by kernel_rfl) (by kernel_rfl) (fun _ _ _ h => h) (Or.inr ⟨by rfl, rfl⟩) trivial ?_
  try simp only [Act.put, List.setIfInBounds_toArray, List.set_cons_zero, List.set_cons_succ]
  refine wpAnyK_go (i := 12) (m' := 8191) (some 21) (v := .bool true) rfl rfl (by kernel_rfl) (by kernel_rfl) (by kernel_rfl) (by kernel_rfl) (by kernel_rfl) (fun _ _ _ h => h) (Or.inl ⟨by rfl, ?_⟩) trivial ?_
  · intro w' hSw
    go_simp
  try simp only [Act.put, List.setIfInBounds_toArray, List.set_cons_zero, List.set_cons_succ]
  refine wpAnyK_done (by kernel_rfl) ?_ _
  go_wp2_with (go_at_call 90; (with_reducible refine Calls.mono (CG _) ?_); rintro e7 w7 ⟨rfl, hw⟩; obtain rfl := hw.symm; clear hw)
  exact ⟨rfl, HFN.out _ _ rfl ((Below.refl _ _).drew)⟩
end Go.Proofs.YtlpnegnpejpdkaaGreatDoor

namespace Go.Proofs.YtlpnegnpejpdkaaGreatDoor
open Go.RowKit

theorem bts_row {w : World} {g : Nat} {l : Byt} {f : Nat × Nat} (h : w.heap[g]? = some (.cells (l.map fun b => Value.int .u8 (b.toNat : Nat)).toArray 5 f)) (n : Nat) (hn : n = l.length) : Bts w (.slice (some ⟨g, 0, none⟩) n n) l := by
  subst hn
  refine ⟨_, _, rfl, fun i hi => ⟨g, 0, rfl, Nat.le_refl _, lt_heap h, heap_cl h ?_⟩⟩
  simp [hi]
theorem mark_conv (W : World) : (convert 40 40 (.slice (some ⟨W.heap.size, 0, none⟩) 4 4)).run Tryz.prog (W.alloc (.cells #[.int .u8 83, .int .u8 76, .int .u8 84, .int .u8 72] 5)) = .ok (.slice (some ⟨W.heap.size, 0, none⟩) 4 4) (W.alloc (.cells #[.int .u8 83, .int .u8 76, .int .u8 84, .int .u8 72] 5 (4, 5))) := Lib.run_convert_bytes_const W 40 5 _ 4 4 (by kernel_rfl) (by kernel_rfl)
set_option maxHeartbeats 16000000 in
set_option maxRecDepth 10000 in
theorem nbr_long {w : World} {u : Value} {b : Byt} (hb : Bts w u b) (h4 : 4 ≤ b.length) (hl : b.length ≤ 8388608) : Calls Tryz.prog 63 #[u] w fun r w' => NB w (bodyR b) r w' := by
  obtain ⟨g, o, cap, rfl, hcap, hg⟩ := bts_at hb (by omega)
  obtain ⟨e, he⟩ : ∃ e, b.length = e + 4 := ⟨b.length - 4, by omega⟩
  have CG := fun W => giveUp_any 171 W
  unfold thrown at CG
  obtain ⟨F, hF⟩ : ∃ F : Ending → World → Prop, F = fun r w' => NB w (bodyR b) r w' := ⟨_, rfl⟩
  rw [← hF]
  have HFN : Hid (∀ r w', bodyR b = none → r = thrown 171 → Below w.heap.size w w' → F r w') := fun r w' h0 h1 h2 => by rw [hF]; show NB w (bodyR b) r w'; rw [h0]; exact And.intro h1 h2
  have HFS : Hid (∀ r w' m R, bodyR b = some m → r = .returned (.pointer (some ⟨R, 0, none⟩)) → Rd w' R 200000 m → w.heap.size ≤ R → Below w.heap.size w w' → F r w') := fun r w' m R h0 h1 h2 h3 h5 => by rw [hF]; show NB w (bodyR b) r w'; rw [h0]; exact ⟨R, h1, h2, h3, h5⟩
  clear hF
  have hbD := hb.on (w' := w.drew) ((Below.refl _ _).drew)
  obtain ⟨D, hD⟩ : ∃ D, D = w.drew := ⟨_, rfl⟩
  rw [← hD] at hbD
  have HDB : Hid (Below w.heap.size w D ∧ D.heap.size = w.heap.size) := by rw [hD]; exact ⟨(Below.refl _ _).drew, rfl⟩
  have hT := hbD.take (k := e) (by omega)
  have CS := sumOf_any hT (by rw [List.length_take]; omega)
  obtain ⟨ys, hys⟩ : ∃ ys, ys = (sumP (b.take e)).map fun b => Value.int .u8 (b.toNat : Nat) := ⟨_, rfl⟩
  have HYS : Hid (ys = (sumP (b.take e)).map fun b => Value.int .u8 (b.toNat : Nat)) := hys
  rw [← hys] at CS
  have hbW : Below D.heap.size D (D.alloc (.cells ys.toArray 5)) := (Below.refl _ _).alloc (Nat.le_refl _) _
  have hE1 : Bts (D.alloc (.cells ys.toArray 5)) (.slice (some ⟨D.heap.size, 0, none⟩) 4 4) (sumP (b.take e)) := by
    rw [hys]
    exact bts_row (new_blk _ _) 4 rfl
  have hE2 : Bts (D.alloc (.cells ys.toArray 5)) (.slice (some ⟨g, o + e, none⟩) 4 (cap - e)) (b.drop e) := (hbD.drop (by omega) (.inl rfl)).on hbW
  have CE := equal_any hE1 hE2
  have HBT : Hid (Bts (D.alloc (.cells ys.toArray 5)) (.slice (some ⟨g, o, none⟩) e cap) (b.take e) ∧ Below w.heap.size w (D.alloc (.cells ys.toArray 5))) := ⟨hT.on hbW, HDB.out.1.trans (hbW.mono (by rw [HDB.out.2]; exact Nat.le_refl _))⟩
  have HBR : Hid (bodyR b = if b.length < 8 ∨ sumP (b.take e) ≠ b.drop e ∨ b.take 4 ≠ markP then none else some ((b.take e).drop 4)) := by show _ = _; unfold bodyR; rw [show b.length - 4 = e by omega]
  have HEL : Hid (b.length = e + 4) := he
  rw [he]
  have e1 : ¬ ((e : Int) < 0) := by omega
  have e2 : (e : Int) ≤ (cap : Int) := by omega
  have e3 : (e : Int) ≤ (e : Int) + 4 := by omega
  have e4 : ¬ (cap - e = 0) := by omega
  have e5 : ¬ (cap = e) := by omega
  have qw : wrap64 (e : Int) = (e : Int) := by unfold wrap64; omega
  clear hb hbD hT hE1 hE2 hbW he hys
  go_enter Tryz.func63, Tryz.ntmps63
  go_upto_region 2 with fail
  refine wp_region_M (S := fun _ => True) (L := 100) (n := 13) (by kernel_rfl) rfl (by kernel_rfl) ?_
  rw [← hD]
  clear hD
  refine wpAnyK_go (i := 0) (m' := 1) (some 9) (v := .int .i64 (e : Int)) rfl rfl (by kernel_rfl) (by kernel_rfl) (by kernel_rfl) (by kernel_rfl) (by kernel_rfl) (fun _ _ _ h => h) (Or.inl ⟨by rfl, ?_⟩) trivial ?_
  · intro w' hSw
    go_simp
  try simp only [Act.put, List.setIfInBounds_toArray, List.set_cons_zero, List.set_cons_succ]
  refine wpAnyK_go (i := 1) (m' := 3) (some 10) (v := .bool false) rfl rfl (by kernel_rfl) (by kernel_rfl) (by kernel_rfl) (by kernel_rfl) (by kernel_rfl) (fun _ _ _ h => h) (Or.inl ⟨by rfl, ?_⟩) trivial ?_
  · intro w' hSw
    go_simp
  try simp only [Act.put, List.setIfInBounds_toArray, List.set_cons_zero, List.set_cons_succ]
  refine wpAnyK_go (i := 2) (m' := 7) (some 11) (v := .bool false) rfl rfl (by kernel_rfl) (by kernel_rfl) (by kernel_rfl) (by kernel_rfl) (by kernel_rfl) (fun _ _ _ h => h) (Or.inl ⟨by rfl, ?_⟩) trivial ?_
  · intro w' hSw
    go_simp
  try simp only [Act.put, List.setIfInBounds_toArray, List.set_cons_zero, List.set_cons_succ]
  refine wpAnyK_go (i := 3) (m' := 15) (some 12) (v := .slice (some ⟨g, o, none⟩) (e + 4) cap) rfl rfl (by kernel_rfl) (by kernel_rfl) (by kernel_rfl) (by kernel_rfl) (by kernel_rfl) (fun _ _ _ h => h) (Or.inl ⟨by rfl, ?_⟩) trivial ?_
  · intro w' hSw
    go_simp
  try simp only [Act.put, List.setIfInBounds_toArray, List.set_cons_zero, List.set_cons_succ]
  refine wpAnyK_go (i := 4) (m' := 31) (some 13) (v := .int .i64 (e : Int)) rfl rfl (by kernel_rfl) (by kernel_rfl) (by kernel_rfl) (by kernel_rfl) (by kernel_rfl) (fun _ _ _ h => h) (Or.inl ⟨by rfl, ?_⟩) trivial ?_
  · intro w' hSw
    go_simp
  try simp only [Act.put, List.setIfInBounds_toArray, List.set_cons_zero, List.set_cons_succ]
  refine wpAnyK_go (i := 5) (m' := 63) (some 14) (v := .slice (some ⟨g, o, none⟩) e cap) rfl rfl (by kernel_rfl) (by kernel_rfl) (by kernel_rfl) (by kernel_rfl) (by kernel_rfl) (fun _ _ _ h => h) (Or.inl ⟨by rfl, ?_⟩) trivial ?_
  · intro w' hSw
    go_simp
  try simp only [Act.put, List.setIfInBounds_toArray, List.set_cons_zero, List.set_cons_succ]
  refine wpAnyK_go (i := 7) (m' := 191) (some 16) (v := .slice (some ⟨g, o, none⟩) (e + 4) cap) rfl rfl (by kernel_rfl) (by kernel_rfl) (by kernel_rfl) (by kernel_rfl) (by kernel_rfl) (fun _ _ _ h => h) (Or.inl ⟨by rfl, ?_⟩) trivial ?_
  · intro w' hSw
    go_simp
  try simp only [Act.put, List.setIfInBounds_toArray, List.set_cons_zero, List.set_cons_succ]
  refine wpAnyK_go (i := 8) (m' := 447) (some 17) (v := .int .i64 (e : Int)) rfl rfl (by kernel_rfl) (by kernel_rfl) (by kernel_rfl) (by kernel_rfl) (by kernel_rfl) (fun _ _ _ h => h) (Or.inl ⟨by rfl, ?_⟩) trivial ?_
  · intro w' hSw
    go_simp
  try simp only [Act.put, List.setIfInBounds_toArray, List.set_cons_zero, List.set_cons_succ]
  refine wpAnyK_go (i := 9) (m' := 959) (some 18) (v := .slice (some ⟨g, o + e, none⟩) 4 (cap - e)) rfl rfl (by kernel_rfl) (by kernel_rfl) (by kernel_rfl) (by kernel_rfl) (by kernel_rfl) (fun _ _ _ h => h) (Or.inl ⟨by rfl, ?_⟩) trivial ?_
  · intro w' hSw
    go_simp
  try simp only [Act.put, List.setIfInBounds_toArray, List.set_cons_zero, List.set_cons_succ]
  refine wpAnyK_only (i := 6) (m' := 1023) (by kernel_rfl) rfl (by kernel_rfl) fun K hK => ?_
  go_simp
  (with_reducible refine Calls.mono CS ?_)
  rintro e5 w5 ⟨rfl, H5⟩
  obtain rfl := H5.out
  go_simp
  refine hK.out _ _ (fun _ => trivial) ?_
  clear hK K H5
  try simp only [Act.put, List.setIfInBounds_toArray, List.set_cons_zero, List.set_cons_succ]
  refine wpAnyK_only (i := 10) (m' := 2047) (by kernel_rfl) rfl (by kernel_rfl) fun K hK => ?_
  go_simp
  (with_reducible refine Calls.mono CE ?_)
  rintro e6 w6 ⟨rfl, hw⟩
  obtain rfl := hw.symm
  clear hw
  go_simp
  refine hK.out _ _ (fun _ => trivial) ?_
  clear hK K
  try simp only [Act.put, List.setIfInBounds_toArray, List.set_cons_zero, List.set_cons_succ]
  generalize D.alloc (.cells ys.toArray 5) = W at *
  refine wpAnyK_only (i := 11) (m' := 4095) (by kernel_rfl) rfl (by kernel_rfl) fun K hK => ?_
  go_simp
  refine hK.out _ _ (fun _ => trivial) ?_
  clear hK K
  try simp only [Act.put, List.setIfInBounds_toArray, List.set_cons_zero, List.set_cons_succ]
  refine wpAnyK_only (i := 12) (m' := 8191) (by kernel_rfl) rfl (by kernel_rfl) fun K hK => ?_
  go_simp
  refine hK.out _ _ (fun _ => trivial) ?_
  clear hK K
  try simp only [Act.put, List.setIfInBounds_toArray, List.set_cons_zero, List.set_cons_succ]
  refine wpAnyK_done (by kernel_rfl) ?_ _
  have HWS : Hid (w.heap.size ≤ W.heap.size) := HBT.out.2.size
  by_cases hs : sumP (b.take e) = b.drop e
  · have qs : (sumP (b.take e) == b.drop e) = true := by rw [hs]; exact beq_self_eq_true _
    rw [qs]
    clear qs
    obtain ⟨A, hA⟩ : ∃ A, A = b.take e := ⟨_, rfl⟩
    have hAl : A.length = e := by rw [hA, List.length_take]; have := HEL.out; omega
    have hW2 : Below W.heap.size W (W.alloc (.cells #[.int .u8 83, .int .u8 76, .int .u8 84, .int .u8 72] 5 (4, 5))) := (Below.refl _ _).alloc (Nat.le_refl _) _
    have qc := mark_conv W
    have hb1 : Bts (W.alloc (.cells #[.int .u8 83, .int .u8 76, .int .u8 84, .int .u8 72] 5 (4, 5))) (.slice (some ⟨g, o, none⟩) A.length cap) A := by rw [hAl, hA]; exact HBT.out.1.on hW2
    have hb2 : Bts (W.alloc (.cells #[.int .u8 83, .int .u8 76, .int .u8 84, .int .u8 72] 5 (4, 5))) (.slice (some ⟨W.heap.size, 0, none⟩) 4 4) markP := bts_row (new_blk _ _) 4 rfl
    have HW2 : Hid (Below W.heap.size W (W.alloc (.cells #[.int .u8 83, .int .u8 76, .int .u8 84, .int .u8 72] 5 (4, 5)))) := hW2
    clear hW2
    cases hm : A.take 4 == markP with
    | false =>
      have CC := cut_no hb1 hb2 (by decide) (by have := HEL.out; omega) hm
      rw [hAl] at CC
      have HNO : Hid (bodyR b = none) := by
        show _ = _
        rw [HBR.out, if_pos]
        by_cases h8 : 4 ≤ e
        · refine .inr (.inr fun h => ?_)
          have hm2 := beq_eq_false_iff_ne.1 hm
          rw [hA, List.take_take, Nat.min_eq_left h8] at hm2
          exact hm2 h
        · exact .inl (by have := HEL.out; omega)
      clear hb1 hb2 hm hs
      go_wp2_with (first | (go_at_call 98; (with_reducible refine Calls.mono CC ?_); rintro e6 w6 ⟨rfl, hw⟩; obtain rfl := hw.symm; clear hw) | (go_at_call 90; (with_reducible refine Calls.mono (CG _) ?_); rintro e7 w7 ⟨rfl, hw⟩; obtain rfl := hw.symm; clear hw))
      refine ⟨rfl, HFN.out _ _ HNO.out rfl ?_⟩
      exact HBT.out.2.trans (HW2.out.mono HWS.out)
    | true =>
      have CC := cut_yes hb1 hb2 (by decide) (by have := HEL.out; omega) (by have := HEL.out; omega) hm
      rw [hAl] at CC
      clear hb2
      go_upto_region 7 with (go_at_call 98; (with_reducible refine Calls.mono CC ?_); rintro e6 w6 ⟨⟨o', rfl, HO'⟩, hw⟩; obtain rfl := hw.symm; clear hw)
      have hb3 := hb1.drop (k := 4) (o' := o') (n := e - 4) (by rw [hAl]) (by
        rcases HO' with h | h
        · exact .inl h
        · refine .inr ?_
          have h5 : cap = 4 := h
          omega)
      have hmp : markP.length = 4 := rfl
      rw [hmp] at HO' ⊢
      have HYES : Hid (bodyR b = some (A.drop 4)) := by
        have h8 : 4 ≤ e := by
          rcases Nat.lt_or_ge A.length markP.length with h | h
          · rw [show (4 : Nat) = markP.length from rfl, take_ne h] at hm
            cases hm
          · rw [hAl] at h; exact h
        have hm2 : A.take 4 = markP := eq_of_beq hm
        show _ = _
        rw [HBR.out, if_neg, hA]
        rintro (h | h | h)
        · have := HEL.out
          omega
        · exact h hs
        · rw [hA, List.take_take, Nat.min_eq_left h8] at hm2
          exact h hm2
      go_wp2
      refine HFS.out _ _ (A.drop 4) (W.heap.size + 1) HYES.out rfl ?_ (by have := HWS.out; omega) ?_
      · have h1 := new_blk (W.alloc (.cells #[.int .u8 83, .int .u8 76, .int .u8 84, .int .u8 72] 5 (4, 5))) (.cells #[.slice (some ⟨g, o', none⟩) (e - 4) (cap - 4), .int .i64 200000] 144)
        rw [World.size_alloc] at h1
        have hb4 := hb3.on (w' := (W.alloc (.cells #[.int .u8 83, .int .u8 76, .int .u8 84, .int .u8 72] 5 (4, 5))).alloc (.cells #[.slice (some ⟨g, o', none⟩) (e - 4) (cap - 4), .int .i64 200000] 144)) ((Below.refl _ _).alloc (Nat.le_refl _) _)
        obtain ⟨ad, c, e9, h9⟩ := hb4
        obtain ⟨rfl, -, rfl⟩ := Value.slice.inj e9
        refine ⟨g, o', cap - 4, by rw [List.length_drop, hAl]; exact h1, by rw [List.length_drop, hAl]; have := HEL.out; omega, by have := HWS.out; omega, fun i hi => ?_⟩
        obtain ⟨g2, o2, e2, _, _, h2⟩ := h9 i hi
        cases e2
        exact h2
      · exact (HBT.out.2.trans (HW2.out.mono HWS.out)).trans ((Below.refl _ _).alloc (by rw [World.size_alloc]; have := HWS.out; omega) _)
  · have qs : (sumP (b.take e) == b.drop e) = false := beq_eq_false_iff_ne.2 hs
    rw [qs]
    clear qs
    go_wp2_with (go_at_call 90; (with_reducible refine Calls.mono (CG _) ?_); rintro e7 w7 ⟨rfl, hw⟩; obtain rfl := hw.symm; clear hw)
    exact ⟨rfl, HFN.out _ _ (by rw [HBR.out, if_pos (.inr (.inl hs))]) rfl HBT.out.2⟩
end Go.Proofs.YtlpnegnpejpdkaaGreatDoor
