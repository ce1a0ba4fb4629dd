/- The four calls in one form each: an answer and a number, whatever it is. CodeEnds' walk. -/
import Derived.Test.YtlpnegnpejpdkabGreatDoorMpx
import Derived.Test.YtlpnegnpejpdkabGreatDoorPl
import Derived.Test.YtlpnegnpejpdkabGreatDoorMcx
import Derived.Test.YtlpnegnpejpdkabGreatDoorMax
import Derived.Test.YtlpnegnpejpdkabGreatDoorKn
import Derived.Test.YtlpnegnpejpdkabGreatDoorKz
namespace Go.Proofs.YtlpnegnpejpdkabGreatDoor
open Go.RowKit

theorem small_nil : Small ([], []) := fun g hg => by cases hg
theorem load_size {b : Byt} {x : Tab} (h : loadP b = some x) : x.1.length < 140737488355328 ∧ x.2.length < 140737488355328 ∧ (∀ g ∈ x.2, g.2.2.length < 140737488355328) ∧ Small x := by
  rw [load_body] at h
  split at h
  · split at h
    · rename_i m hm t ht
      split at h
      · cases h
        obtain ⟨t1, t2, t3⟩ := tab_lens ht
        exact ⟨by omega, by omega, fun g hg => by have := t3 g hg; omega, tab_small ht⟩
      · cases h
    · cases h
  · cases h
theorem tab_nil (w : World) (S : Nat → Prop) : TabV w S (.slice none 0 0) (.slice none 0 0) ([], []) := ⟨.inl ⟨rfl, none, 0, rfl⟩, .inl ⟨rfl, none, 0, rfl⟩, by decide, by decide⟩
theorem print_u {w : World} {sv gv : Value} {t : Tab} (h : PB w sv gv t) : Calls Tryz.prog 15 #[.agg #[sv, gv]] w fun r w' => ∃ (s : Byt) (e : Int), r = .returned (.tuple #[.string ⟨s.toArray⟩, .int .i64 e]) ∧ s.length ≤ 8388608 ∧ (e = 0 → checkP t = 0 ∧ s = textT t) ∧ Hid (Below w.heap.size w w') :=
  (print_any h).mono fun r w' hp => by
    by_cases hc : checkP t = 0
    · by_cases hl : 8388608 < (textT t).length
      · exact ⟨[], 4, hp.long hc hl, Nat.zero_le _, fun e => (by omega), hp.bel⟩
      · exact ⟨textT t, 0, hp.good hc hl, by omega, fun _ => ⟨hc, rfl⟩, hp.bel⟩
    · exact ⟨[], checkP t, hp.bad hc, Nat.zero_le _, fun e => absurd e hc, hp.bel⟩
theorem read_u {w : World} {s : Byt} (h : RdS w) (hs : s.length < 140737488355328) : Calls Tryz.prog 16 #[.string ⟨s.toArray⟩] w fun r w' => ∃ (sa : Option Addr) (sc : Nat) (ga : Option Addr) (gc : Nat) (f : Int) (x : Tab), r = .returned (.tuple #[.agg #[.slice sa x.1.length sc, .slice ga x.2.length gc], .int .i64 f]) ∧ (f = 0 → tableQ s = some x) ∧ (s.length ≤ 8388608 → ∀ y, tableQ s = some y → bigP y = false → f = 0) ∧ Hid (TabV w' (fun y => y < w'.heap.size) (.slice sa x.1.length sc) (.slice ga x.2.length gc) x ∧ Below w.heap.size w w' ∧ Small x) :=
  (read_any h hs).mono fun r w' hp => by
    by_cases hl : 8388608 < s.length
    · exact ⟨none, 0, none, 0, 2, ([], []), hp.long hl, fun e => (by omega), fun h => (by omega), tab_nil _ _, hp.bel, small_nil⟩
    · cases ht : tableQ s with
      | none => exact ⟨none, 0, none, 0, 170, ([], []), hp.bad hl ht, fun e => (by omega), fun _ y e => (by cases e), tab_nil _ _, hp.bel, small_nil⟩
      | some x =>
        cases hb : bigP x with
        | true => exact ⟨none, 0, none, 0, 4, ([], []), hp.big hl x ht hb, fun e => (by omega), fun _ y e h => (by cases e; rw [hb] at h; cases h), tab_nil _ _, hp.bel, small_nil⟩
        | false =>
          obtain ⟨sv, gv, raws, Bt, h1, _, h2⟩ := hp.good hl x ht hb
          obtain ⟨z1, z2, z3⟩ := table_q_size ht
          have h3 := h2.out.tabV (by omega) (by omega) fun g hg => by have := z3 g hg; omega
          obtain ⟨sa, sc, rfl⟩ := RowK.len h3.shp
          obtain ⟨ga, gc, rfl⟩ := RowK.len h3.glb
          exact ⟨sa, sc, ga, gc, 0, x, h1, fun _ => rfl, fun _ _ _ _ => rfl, h3, hp.bel, table_small ht (by omega)⟩
theorem bytes_u {w : World} {sv gv : Value} {t : Tab} (h : CkIn w sv gv t) : Calls Tryz.prog 6 #[.agg #[sv, gv]] w fun r w' => ∃ (ba : Option Addr) (bc : Nat) (c : Byt) (g : Int), r = .returned (.tuple #[.slice ba c.length bc, .int .i64 g]) ∧ c.length ≤ 8388608 ∧ (g = 0 → checkP t = 0 ∧ c = bytesW t) ∧ (checkP t = 0 → (bytesW t).length ≤ 8388608 → g = 0) ∧ Hid (Bts w' (.slice ba c.length bc) c ∧ Below w.heap.size w w') :=
  (bytes_any h).mono fun r w' hp => by
    obtain ⟨h0, h1, h2, h3⟩ := hp
    have hnil : Bts w' (.slice none 0 0) [] := ⟨none, 0, rfl, fun i h => by simp at h⟩
    by_cases hc : checkP t = 0
    · by_cases hl : 8388608 < (bytesW t).length
      · exact ⟨none, 0, [], 4, h2 hc hl, Nat.zero_le _, fun e => (by omega), fun _ h => (by omega), hnil, h0.out⟩
      · obtain ⟨v, h4, h5⟩ := h3 hc hl
        have h6 := own_bts h5.out
        obtain ⟨ad, cap, rfl, h7⟩ := id h6
        exact ⟨ad, cap, bytesW t, 0, h4, by omega, fun _ => ⟨hc, rfl⟩, fun _ _ => rfl, h6, h0.out⟩
    · exact ⟨none, 0, [], checkP t, h1 hc, Nat.zero_le _, fun e => absurd e hc, fun e => absurd e hc, hnil, h0.out⟩
theorem load_u {w : World} {u : Value} {b : Byt} (h : LdIn w u b) : Calls Tryz.prog 7 #[u] w fun r w' => ∃ (sa : Option Addr) (sc : Nat) (ga : Option Addr) (gc : Nat) (f : Int) (x : Tab), r = .returned (.tuple #[.agg #[.slice sa x.1.length sc, .slice ga x.2.length gc], .int .i64 f]) ∧ (f = 0 → loadP b = some x ∧ b.length ≤ 8388608) ∧ (b.length ≤ 8388608 → ∀ y, loadP b = some y → f = 0) ∧ Hid (TabV w' (fun y => y < w'.heap.size) (.slice sa x.1.length sc) (.slice ga x.2.length gc) x ∧ Below w.heap.size w w' ∧ Small x) :=
  (load_any h).mono fun r w' hp => by
    by_cases hl : 8388608 < b.length
    · exact ⟨none, 0, none, 0, 2, ([], []), hp.long hl, fun e => (by omega), fun h => (by omega), tab_nil _ _, hp.bel, small_nil⟩
    · cases ht : loadP b with
      | none => exact ⟨none, 0, none, 0, 171, ([], []), hp.bad hl ht, fun e => (by omega), fun _ y e => (by cases e), tab_nil _ _, hp.bel, small_nil⟩
      | some x =>
        obtain ⟨sv, gv, raws, Bt, h1, _, h2⟩ := hp.good hl x ht
        obtain ⟨sa, sc, rfl⟩ := h2.out.shp.len
        obtain ⟨ga, gc, rfl⟩ := h2.out.glb.len
        rw [h2.out.len] at h1
        obtain ⟨k1, k2, k3, k4⟩ := load_size ht
        have h3 := h2.out.tabV k1 k2 k3
        rw [h2.out.len] at h3
        exact ⟨sa, sc, ga, gc, 0, x, h1, fun _ => ⟨rfl, by omega⟩, fun _ _ _ => rfl, h3, hp.bel, k4⟩
end Go.Proofs.YtlpnegnpejpdkabGreatDoor

namespace Go.Proofs.YtlpnegnpejpdkabGreatDoor
open Go.RowKit

/-- A row of so many bools. -/
def Bls (w : World) (v : Value) (n : Nat) : Prop := ∃ ad cap, v = .slice ad n cap ∧ ∀ i, i < n → ∃ g o b, ad = some ⟨g, o, none⟩ ∧ n ≤ cap ∧ g < w.heap.size ∧ w.cell? ⟨g, o + i, none⟩ = some (.bool b)
set_option maxHeartbeats 16000000 in
set_option maxRecDepth 10000 in
theorem ends_any {w : World} {S : Nat → Prop} {sv gv u : Value} {t : Tab} {at_ : Int} {nw : Nat} (hA : AwIn w) (hS : ∀ b, S b → b < w.heap.size) (hT : TabV w S sv gv t) (hs : Small t) (hat : -9223372036854775808 ≤ at_ ∧ at_ ≤ 9223372036854775807) (hm : Bls w u nw) (hml : nw < 140737488355328) :
    Calls Tryz.prog 4 #[.agg #[sv, gv], .int .i64 at_, u] w fun r w' => r = .returned (.bool true) ∧ Hid (Below w.heap.size w w') := by
  have HA : Hid (∀ wr, Below w.heap.size w wr → AwIn wr) := fun wr hb => hA.below hb
  obtain ⟨F, hF⟩ : ∃ F : Ending → World → Prop, F = fun r w' => r = .returned (.bool true) ∧ Hid (Below w.heap.size w w') := ⟨_, rfl⟩
  rw [← hF]
  have HF : Hid (∀ wr, Below w.heap.size w wr → F (.returned (.bool true)) wr) := fun wr hb => by rw [hF]; exact ⟨rfl, hb⟩
  obtain ⟨sa, sc, rfl⟩ := RowK.len hT.shp
  obtain ⟨ga, gc, rfl⟩ := RowK.len hT.glb
  obtain ⟨ua, uc, rfl, hmm⟩ := hm
  obtain ⟨Z, hZ⟩ : ∃ Z, Z = w.heap.size := ⟨_, rfl⟩
  obtain ⟨V, hV⟩ : ∃ V, V = w.alloc (.cells #[.slice sa t.1.length sc, .slice ga t.2.length gc] 25) := ⟨_, rfl⟩
  have bV : Below w.heap.size w V := by rw [hV]; exact (Below.refl _ _).alloc (Nat.le_refl _) _
  have mV : V.heap[Z]? = some (.cells #[.slice sa t.1.length sc, .slice ga t.2.length gc] 25 (0, 0)) := by rw [hV, hZ]; exact new_blk _ _
  have HT : Hid (∀ wr, Below w.heap.size w wr → CkIn wr (.slice sa t.1.length sc) (.slice ga t.2.length gc) t) := fun wr hb => by
    have h1 := hT.on (Keeps.of hb hS)
    exact ⟨h1.up fun b hb2 => Nat.lt_of_lt_of_le (hS b hb2) hb.size, (HA.out wr hb).first, (HA.out wr hb).rd.rows, hs⟩
  have HZ : Hid (∀ wr, Below V.heap.size V wr → (wr.cell? ⟨Z, 0, none⟩ = some (.slice sa t.1.length sc) ∧ wr.cell? ⟨Z, 1, none⟩ = some (.slice ga t.2.length gc)) ∧ Below w.heap.size w wr) := fun wr hb => ⟨⟨heap_cl ((hb.block Z (lt_heap mV)).trans mV) rfl, heap_cl ((hb.block Z (lt_heap mV)).trans mV) rfl⟩, bV.trans (hb.mono bV.size)⟩
  have HM : Hid (∀ wr, Below w.heap.size w wr → ∀ i, i < nw → ∃ g o b, ua = some ⟨g, o, none⟩ ∧ nw ≤ uc ∧ wr.cell? ⟨g, o + i, none⟩ = some (.bool b)) := fun wr hb i hi => by
    obtain ⟨g, o, b, h1, h2, h3, h4⟩ := hmm i hi
    exact ⟨g, o, b, h1, h2, (hb.cell (p := ⟨g, o + i, none⟩) h3).trans h4⟩
  have HZE : Hid (Z = w.heap.size) := hZ
  have CA := awake_any (HA.out V bV)
  have hng2 := hT.lg
  clear hF hA hT hS mV hZ hmm
  go_enter Tryz.func4, Tryz.ntmps4
  go_upto_region 1 with fail
  rw [← hV, ← HZE.out]
  clear hV
  go_upto_region 2 with (go_at_call 5; (with_reducible refine Calls.mono CA ?_); rintro e1 w1 ⟨rfl, H1⟩)
  obtain ⟨⟨x0, x1⟩, hw1⟩ := HZ.out w1 H1.out
  have CK := check_any (HT.out w1 hw1)
  obtain ⟨e, he⟩ : ∃ e, e = checkP t := ⟨_, rfl⟩
  rw [← he] at CK
  have HE : Hid (e = checkP t) := he
  clear he
  clear CA
  go_upto_region 3 with (go_at_call 8; (with_reducible refine Calls.mono CK ?_); rintro e2 w2 ⟨rfl, H2⟩; have HB2 : Hid (Below V.heap.size V w2) := H1.out.trans (H2.out.mono H1.out.size))
  clear CK x0 x1 hw1 H1 H2
  obtain ⟨⟨x0, x1⟩, HW2⟩ := HZ.out w2 HB2.out
  obtain ⟨n2, hn2⟩ : ∃ n, n = t.2.length := ⟨_, rfl⟩
  rw [← hn2] at x1 HZ HT ⊢
  have HN2 : Hid (n2 = t.2.length) := hn2
  clear hn2
  by_cases q2 : e = 0
  case neg =>
    go_wp2
    exact HF.out _ HW2
  subst q2
  by_cases q3 : n2 = 0
  case pos =>
    go_wp2
    exact HF.out _ HW2
  obtain ⟨m, hmx⟩ : ∃ m : Nat, max 0 at_ = (m : Int) := ⟨(max 0 at_).toNat, by omega⟩
  obtain ⟨i0, hii⟩ : ∃ i : Nat, i = m % n2 := ⟨_, rfl⟩
  have hi0 : i0 < n2 := by rw [hii]; exact Nat.mod_lt _ (by omega)
  have HMX : Hid (max 0 at_ = (m : Int)) := hmx
  have HRM : Hid ((m : Int).tmod (n2 : Int) = (i0 : Int)) := by show _ = _; rw [hii]; exact (Int.ofNat_tmod _ _).symm
  have hi2 : i0 < t.2.length := by have := HN2.out; omega
  obtain ⟨⟨nm, ar, code⟩, hge⟩ : ∃ g : Glb, g = t.2[i0] := ⟨_, rfl⟩
  obtain ⟨Dp, HR⟩ : ∃ Dp, Hid (Runs t (nm, ar, code) Dp) := runs_of HE.out.symm (by rw [hge]; exact List.getElem_mem hi2)
  have HSM : Hid (∀ x ∈ code, x.2.1 < 9223372036854775808 ∧ x.2.2 < 9223372036854775808) := fun x hx => hs (nm, ar, code) (by rw [hge]; exact List.getElem_mem hi2) x hx
  clear hmx hii hs HE
  go_upto_region 5 with fail
  clear x0 x1 HW2
  obtain ⟨D, hD⟩ : ∃ D : World, D = w2.drew := ⟨_, rfl⟩
  have HDB : Hid (Below V.heap.size V D) := by rw [hD]; exact HB2.out.drew
  obtain ⟨⟨x0, x1⟩, hw2⟩ := HZ.out D HDB.out
  obtain ⟨ad, cap, eg, hrow⟩ := glb_at (HT.out D hw2).tab.glb
  rw [← HN2.out] at eg
  obtain ⟨rfl, -, rfl⟩ := Value.slice.inj eg
  obtain ⟨gg, go, cv, rfl, -, hcap, c0, c1, c2, -, hcl, hins⟩ := hrow i0 hi2
  rw [← hge] at c0 c1 hcl hins
  simp only at c0 c1 hcl hins
  obtain ⟨ca, cc, ecv, hci⟩ := ins_at hins
  obtain ⟨n, hn⟩ : ∃ n, n = code.length := ⟨_, rfl⟩
  rw [← hn] at ecv
  subst ecv
  have hcap2 : n2 ≤ gc := by have := HN2.out; omega
  have HINS : Hid (RowE EIns D (fun y => y < D.heap.size) (fun _ => False) (.slice ca n cc) code) := hins
  have HN : Hid (n = code.length) := hn
  clear hrow eg hcap hins hci hn hw2 hcl hge
  have hS0 : (fun w' : World => w'.cell? ⟨Z, 1, none⟩ = some (.slice (some ⟨gg, go, none⟩) n2 gc) ∧ w'.cell? ⟨gg, go + i0 * 3, none⟩ = some (.string ⟨nm.toArray⟩) ∧ w'.cell? ⟨gg, go + i0 * 3 + 1, none⟩ = some (.int .i64 ar) ∧ w'.cell? ⟨gg, go + i0 * 3 + 2, none⟩ = some (.slice ca n cc)) D := ⟨x1, c0, c1, c2⟩
  have i1 : (0 : Int) ≤ (i0 : Int) := by omega
  have i2 : (i0 : Int) < (n2 : Int) := by omega
  refine wp_region_M (S := (fun w' : World => w'.cell? ⟨Z, 1, none⟩ = some (.slice (some ⟨gg, go, none⟩) n2 gc) ∧ w'.cell? ⟨gg, go + i0 * 3, none⟩ = some (.string ⟨nm.toArray⟩) ∧ w'.cell? ⟨gg, go + i0 * 3 + 1, none⟩ = some (.int .i64 ar) ∧ w'.cell? ⟨gg, go + i0 * 3 + 2, none⟩ = some (.slice ca n cc))) (L := 11) (n := 12) (by kernel_rfl) rfl (by kernel_rfl) ?_
  rw [← hD]
  clear hD x0 x1 c0 c1 c2
  refine wpAnyK_go (i := 0) (m' := 1) (some 38) (v := .pointer (some ⟨Z, 1, none⟩)) rfl rfl (by kernel_rfl) (by kernel_rfl) (by kernel_rfl) (by kernel_rfl) (by kernel_rfl) (fun _ _ _ h => h) (Or.inl ⟨by rfl, ?_⟩) hS0 ?_
  · intro w' hSw
    go_simp
  simp only [Act.put, List.setIfInBounds_toArray, List.set_cons_zero, List.set_cons_succ]
  refine wpAnyK_go (i := 1) (m' := 3) (some 39) (v := .slice (some ⟨gg, go, none⟩) n2 gc) rfl rfl (by kernel_rfl) (by kernel_rfl) (by kernel_rfl) (by kernel_rfl) (by kernel_rfl) (fun _ _ _ h => h) (Or.inl ⟨by rfl, ?_⟩) hS0 ?_
  · intro w' hSw
    obtain ⟨p1, p2, p3, p4⟩ := hSw
    go_simp
  simp only [Act.put, List.setIfInBounds_toArray, List.set_cons_zero, List.set_cons_succ]
  refine wpAnyK_go (i := 2) (m' := 7) (some 40) (v := .int .i64 at_) rfl rfl (by kernel_rfl) (by kernel_rfl) (by kernel_rfl) (by kernel_rfl) (by kernel_rfl) (fun _ _ _ h => h) (Or.inl ⟨by rfl, ?_⟩) hS0 ?_
  · intro w' hSw
    go_simp
  simp only [Act.put, List.setIfInBounds_toArray, List.set_cons_zero, List.set_cons_succ]
  refine wpAnyK_go (i := 3) (m' := 15) (some 41) (v := .int .i64 (m : Int)) rfl rfl (by kernel_rfl) (by kernel_rfl) (by kernel_rfl) (by kernel_rfl) (by kernel_rfl) (fun _ _ _ h => h) (Or.inl ⟨by rfl, ?_⟩) hS0 ?_
  · intro w' hSw
    go_simp
    exact HMX.out
  simp only [Act.put, List.setIfInBounds_toArray, List.set_cons_zero, List.set_cons_succ]
  refine wpAnyK_go (i := 4) (m' := 31) (some 42) (v := .pointer (some ⟨Z, 1, none⟩)) rfl rfl (by kernel_rfl) (by kernel_rfl) (by kernel_rfl) (by kernel_rfl) (by kernel_rfl) (fun _ _ _ h => h) (Or.inl ⟨by rfl, ?_⟩) hS0 ?_
  · intro w' hSw
    go_simp
  simp only [Act.put, List.setIfInBounds_toArray, List.set_cons_zero, List.set_cons_succ]
  refine wpAnyK_go (i := 5) (m' := 63) (some 43) (v := .slice (some ⟨gg, go, none⟩) n2 gc) rfl rfl (by kernel_rfl) (by kernel_rfl) (by kernel_rfl) (by kernel_rfl) (by kernel_rfl) (fun _ _ _ h => h) (Or.inl ⟨by rfl, ?_⟩) hS0 ?_
  · intro w' hSw
    obtain ⟨p1, p2, p3, p4⟩ := hSw
    go_simp
  simp only [Act.put, List.setIfInBounds_toArray, List.set_cons_zero, List.set_cons_succ]
  refine wpAnyK_go (i := 6) (m' := 127) (some 44) (v := .int .i64 (n2 : Int)) rfl rfl (by kernel_rfl) (by kernel_rfl) (by kernel_rfl) (by kernel_rfl) (by kernel_rfl) (fun _ _ _ h => h) (Or.inl ⟨by rfl, ?_⟩) hS0 ?_
  · intro w' hSw
    go_simp
  simp only [Act.put, List.setIfInBounds_toArray, List.set_cons_zero, List.set_cons_succ]
  refine wpAnyK_go (i := 7) (m' := 255) (some 45) (v := .int .i64 (i0 : Int)) rfl rfl (by kernel_rfl) (by kernel_rfl) (by kernel_rfl) (by kernel_rfl) (by kernel_rfl) (fun _ _ _ h => h) (Or.inl ⟨by rfl, ?_⟩) hS0 ?_
  · intro w' hSw
    go_simp
    exact HRM.out
  simp only [Act.put, List.setIfInBounds_toArray, List.set_cons_zero, List.set_cons_succ]
  refine wpAnyK_go (i := 8) (m' := 511) (some 46) (v := .pointer (some ⟨gg, go + i0 * 3, none⟩)) rfl rfl (by kernel_rfl) (by kernel_rfl) (by kernel_rfl) (by kernel_rfl) (by kernel_rfl) (fun _ _ _ h => h) (Or.inl ⟨by rfl, ?_⟩) hS0 ?_
  · intro w' hSw
    go_simp
  simp only [Act.put, List.setIfInBounds_toArray, List.set_cons_zero, List.set_cons_succ]
  refine wpAnyK_go (i := 9) (m' := 1023) (some 47) (v := .agg #[.string ⟨nm.toArray⟩, .int .i64 ar, .slice ca n cc]) rfl rfl (by kernel_rfl) (by kernel_rfl) (by kernel_rfl) (by kernel_rfl) (by kernel_rfl) (fun _ _ _ h => h) (Or.inl ⟨by rfl, ?_⟩) hS0 ?_
  · intro w' hSw
    obtain ⟨p1, p2, p3, p4⟩ := hSw
    go_simp
  simp only [Act.put, List.setIfInBounds_toArray, List.set_cons_zero, List.set_cons_succ]
  refine wpAnyK_only (i := 10) (m' := 2047) (by kernel_rfl) rfl (by kernel_rfl) fun K hK => ?_
  go_simp
  have hb1 : Below D.heap.size D (D.alloc (.cells #[.string ⟨#[]⟩, .int .i64 0, .slice none 0 0] 38)) := (Below.refl _ _).alloc (Nat.le_refl _) _
  have hh1 : (D.alloc (.cells #[.string ⟨#[]⟩, .int .i64 0, .slice none 0 0] 38)).heap[D.heap.size]? = some (.cells #[.string ⟨#[]⟩, .int .i64 0, .slice none 0 0] 38 (0, 0)) := new_blk _ _
  have hS1 : (fun w' : World => w'.cell? ⟨Z, 1, none⟩ = some (.slice (some ⟨gg, go, none⟩) n2 gc) ∧ w'.cell? ⟨gg, go + i0 * 3, none⟩ = some (.string ⟨nm.toArray⟩) ∧ w'.cell? ⟨gg, go + i0 * 3 + 1, none⟩ = some (.int .i64 ar) ∧ w'.cell? ⟨gg, go + i0 * 3 + 2, none⟩ = some (.slice ca n cc)) (D.alloc (.cells #[.string ⟨#[]⟩, .int .i64 0, .slice none 0 0] 38)) := by
    obtain ⟨p1, p2, p3, p4⟩ := hS0
    exact ⟨(hb1.cell (World.block_lt_of_cell? _ _ p1)).trans p1, (hb1.cell (World.block_lt_of_cell? _ _ p2)).trans p2, (hb1.cell (World.block_lt_of_cell? _ _ p3)).trans p3, (hb1.cell (World.block_lt_of_cell? _ _ p4)).trans p4⟩
  refine hK.out _ _ (fun _ => hS1) ?_
  clear hK K hS0
  obtain ⟨G, hG⟩ : ∃ G, G = D.heap.size := ⟨_, rfl⟩
  obtain ⟨D1, hD1⟩ : ∃ X, X = D.alloc (.cells #[.string ⟨#[]⟩, .int .i64 0, .slice none 0 0] 38) := ⟨_, rfl⟩
  rw [← hD1] at hh1 hb1 hS1 ⊢
  rw [← hG] at hh1 ⊢
  refine wpAnyK_only (i := 11) (m' := 4095) (by kernel_rfl) rfl (by kernel_rfl) fun K hK => ?_
  have p0 : D1.cell? ⟨G, 0, none⟩ = some (.string ⟨#[]⟩) := heap_cl hh1 rfl
  have p1 : D1.cell? ⟨G, 1, none⟩ = some (.int .i64 0) := heap_cl hh1 rfl
  have p2 : D1.cell? ⟨G, 2, none⟩ = some (.slice none 0 0) := heap_cl hh1 rfl
  have f0 : D1.frozen? ⟨G, 0, none⟩ = false := heap_frozen hh1
  have f1 : D1.frozen? ⟨G, 1, none⟩ = false := heap_frozen hh1
  have f2 : D1.frozen? ⟨G, 2, none⟩ = false := heap_frozen hh1
  go_simp
  refine hK.out _ _ (fun h => absurd rfl h) ?_
  clear hK K p0 p1 p2 f0 f1 f2 hh1 hS1 hb1 hD1
  clear D1
  refine wpAnyK_done (by kernel_rfl) ?_ _
  rename_i K5 a5
  refine a5 _ _ ?_
  clear a5 K5
  rw [← hG]
  obtain ⟨W5, hW5⟩ : ∃ X, X = D.alloc (.cells #[.string ⟨nm.toArray⟩, .int .i64 ar, .slice ca n cc] 38) := ⟨_, rfl⟩
  rw [← hW5]
  have b5 : Below D.heap.size D W5 := by rw [hW5]; exact (Below.refl _ _).alloc (Nat.le_refl _) _
  have mG : W5.heap[G]? = some (.cells #[.string ⟨nm.toArray⟩, .int .i64 ar, .slice ca n cc] 38 (0, 0)) := by rw [hW5, hG]; exact new_blk _ _
  have HV5 : Hid (Below V.heap.size V W5) := HDB.out.trans (b5.mono HDB.out.size)
  have HGG : Hid (∀ wr, Below W5.heap.size W5 wr → wr.cell? ⟨G, 1, none⟩ = some (.int .i64 ar) ∧ wr.cell? ⟨G, 2, none⟩ = some (.slice ca n cc)) := fun wr hb => ⟨heap_cl ((hb.block G (lt_heap mG)).trans mG) rfl, heap_cl ((hb.block G (lt_heap mG)).trans mG) rfl⟩
  have HIN : Hid (∀ wr, Below W5.heap.size W5 wr → ∀ i (h : i < code.length), ∃ g o, ca = some ⟨g, o, none⟩ ∧ n ≤ cc ∧ wr.cell? ⟨g, o + i * 3, none⟩ = some (.int .i64 code[i].1) ∧ wr.cell? ⟨g, o + i * 3 + 1, none⟩ = some (.int .i64 code[i].2.1) ∧ wr.cell? ⟨g, o + i * 3 + 2, none⟩ = some (.int .i64 code[i].2.2)) := fun wr hb i hi => by
    obtain ⟨ad, cap, e, hh⟩ := ins_at (HINS.out.on (Keeps.of (b5.trans (hb.mono b5.size)) fun _ h => h) (fun _ h => h.elim) (fun _ h => h) fun _ h => h)
    obtain ⟨rfl, -, rfl⟩ := Value.slice.inj e
    obtain ⟨g, o, q1, _, q2, q3, q4, q5⟩ := hh i hi
    exact ⟨g, o, q1, by have := HN.out; omega, q3, q4, q5⟩
  have hn0 : ¬ n = 0 := by have h1 := HR.out.ne; have h2 := HN.out; simp only at h1; omega
  have hn8 : n ≤ 8000 := by have h1 := HR.out.len; have h2 := HN.out; simp only at h1; omega
  have e0 : ((n : Int) == 0) = false := by simpa using hn0
  have qmk := make_ints n hn8
  clear hG hW5 b5 mG HINS HDB HB2
  obtain ⟨s1, s2⟩ := HGG.out W5 (Below.refl _ _)
  go_upto_region 12 with fail
  clear s1 s2 qmk
  obtain ⟨Q, hQ⟩ : ∃ Q, Q = W5.heap.size := ⟨_, rfl⟩
  obtain ⟨W6, hW6⟩ : ∃ X, X = W5.alloc (.cells (Array.replicate n (.int .i64 0)) 3) := ⟨_, rfl⟩
  have HQE : Hid (Q = W5.heap.size) := hQ
  have HD6 : Hid (Below Q W5 W6 ∧ DepAt W6 Q (List.replicate n 0)) := ⟨by rw [hW6, hQ]; exact (Below.refl _ _).alloc (Nat.le_refl _) _, by unfold DepAt; rw [rep_ints, hW6, hQ]; exact new_blk _ _⟩
  rw [← hQ, ← hW6]
  rw [← hQ] at HGG HIN
  have HBW : Hid (∀ wr, Below Q W5 wr → (wr.cell? ⟨Z, 0, none⟩ = some (.slice sa t.1.length sc) ∧ wr.cell? ⟨Z, 1, none⟩ = some (.slice (some ⟨gg, go, none⟩) n2 gc)) ∧ Below w.heap.size w wr) := fun wr hb => HZ.out wr (HV5.out.trans (hb.mono (by rw [HQE.out]; exact HV5.out.size)))
  clear hQ hW6 HV5
  go_loopw [13] (fun tv wr => ∃ (tn : Nat) (ds : List Int), tn ≤ 3 ∧ tv = .int .i64 tn ∧ Hid (Below Q W5 wr ∧ DepAt wr Q ds ∧ ds.length = n ∧ ∀ j, ds.getD j 0 = 0 ∨ ds.getD j 0 = Dp.getD j 0)) (fun tv _ => 3 - (intOf tv).toNat)
  case atStart => exact ⟨0, List.replicate n 0, by omega, by go_num, HD6.out.1, HD6.out.2, by simp, fun j => Or.inl (by simp only [List.getD]; by_cases hl : j < n <;> simp [hl])⟩
  case round =>
    clear HD6
    obtain ⟨tn, ds, ht3, rfl, HM1⟩ := hrel
    by_cases htn : tn < 3
    · have i3 : (tn : Int) < 3 := by omega
      obtain ⟨s1, s2⟩ := HGG.out wr HM1.out.1
      obtain ⟨har0, har1⟩ : 0 ≤ ar ∧ ar ≤ 24 := HR.out.ar
      go_upto_region 17 with fail
      clear s1 s2
      have HD0 : Hid (Dp.getD 0 0 = ar + 1) := HR.out.d0
      obtain ⟨wo, hwo⟩ : ∃ wo, wo = wr := ⟨_, rfl⟩
      subst hwo
      go_loopw [14, 15, 16] (fun iv dv kv wi => ∃ (i k : Nat) (d : Int) (ds : List Int), i < n ∧ k ≤ i ∧ iv = .int .i64 i ∧ dv = .int .i64 d ∧ kv = .int .i64 k ∧ 1 ≤ d ∧ d ≤ 8000 ∧ Hid (Dp.getD i 0 = d ∧ Below Q W5 wi ∧ DepAt wi Q ds ∧ ds.length = n ∧ ∀ j, ds.getD j 0 = 0 ∨ ds.getD j 0 = Dp.getD j 0)) (fun _ _ kv _ => n - (intOf kv).toNat)
      case atStart => exact ⟨0, 0, ar + 1, ds, by omega, Nat.le_refl _, by go_num, by go_num, by go_num, by omega, by omega, HD0.out, HM1.out⟩
      case round =>
        clear HM1 HD0 har0 har1
        obtain ⟨i, k, d, ds, hi, hki, rfl, rfl, rfl, hd1, hd8, HM2⟩ := hrel
        have hic : i < code.length := by have := HN.out; omega
        obtain ⟨x, hx⟩ : ∃ x, x = code[i] := ⟨_, rfl⟩
        obtain ⟨op, a, b⟩ := x
        have hnum := HR.out.num i hic
        have hdep := HR.out.dep i hic
        have hnx := fun (he : ¬ (op = 16 ∨ op = 17)) => HR.out.next hic (a := a) (b := b) hx.symm he
        simp only at hnum hdep hnx
        rw [← hx] at hnum hdep
        rw [HM2.out.1] at hnx
        have hb2 : (behindP (t.1.map fun s => s.2) (op, a, b) d).2 = true := by rw [← HM2.out.1]; exact hdep.2.1
        have hb8 : (behindP (t.1.map fun s => s.2) (op, a, b) d).1 ≤ 8000 := by rw [← HM2.out.1]; exact hdep.2.2.1
        have hb1 : 1 ≤ (behindP (t.1.map fun s => s.2) (op, a, b) d).1 := by rw [← HM2.out.1]; exact hdep.2.2.2.1
        have hsm : a < 9223372036854775808 := by have h := (HSM.out code[i] (List.getElem_mem hic)).1; rw [← hx] at h; exact h
        have HNX : Hid (¬ (op = 16 ∨ op = 17) → _) := hnx
        have HNU : Hid (numP t.1.length t.2.length code.length i (op, a, b) = 0) := hnum
        have HBH : Hid (∃ bd, bd = (behindP (t.1.map fun s => s.2) (op, a, b) d).1 ∧ 1 ≤ bd ∧ bd ≤ 8000) := ⟨_, rfl, hb1, hb8⟩
        have HB2 : Hid ((behindP (t.1.map fun s => s.2) (op, a, b) d).2 = true) := hb2
        clear hnx hnum hdep hb1 hb8 hb2
        obtain ⟨s1, s2⟩ := HGG.out wr HM2.out.2.1
        obtain ⟨g, o, rfl, hcc, c0, c1, c2⟩ := HIN.out wr HM2.out.2.1 i hic
        rw [← hx] at c0 c1 c2
        simp only at c0 c1 c2
        have i1 : (0 : Int) ≤ (i : Int) := by omega
        have i2 : (i : Int) < (n : Int) := by omega
        have k1 : (k : Int) ≤ (n : Int) := by omega
        have k2 : ¬ (k : Int) = (n : Int) := by omega
        have k3 : ((k : Int) == (n : Int)) = false := by simpa using k2
        clear hx
        go_upto_region 22 with fail
        clear s1 s2 c0 c1 c2
        obtain ⟨X, hX⟩ : ∃ X, X = wr.heap.size := ⟨_, rfl⟩
        obtain ⟨W7, hW7⟩ : ∃ W, W = wr.alloc (.cells #[.int .i64 op, .int .i64 a, .int .i64 b] 41) := ⟨_, rfl⟩
        rw [← hX, ← hW7]
        have b7 : Below wr.heap.size wr W7 := by rw [hW7]; exact (Below.refl _ _).alloc (Nat.le_refl _) _
        have hQr : Q < wr.heap.size := HM2.out.2.2.1.lt
        have hQX : X ≠ Q := by omega
        have M7 : Hid (W7.heap[X]? = some (.cells #[.int .i64 op, .int .i64 a, .int .i64 b] 41 (0, 0)) ∧ Below Q W5 W7 ∧ DepAt W7 Q ds) := ⟨by rw [hW7, hX]; exact new_blk _ _, HM2.out.2.1.trans (b7.mono (Nat.le_of_lt hQr)), HM2.out.2.2.1.on (b7.block Q hQr)⟩
        have HRS : Hid (Dp.getD i 0 = d ∧ ds.length = n ∧ ∀ j, ds.getD j 0 = 0 ∨ ds.getD j 0 = Dp.getD j 0) := ⟨HM2.out.1, HM2.out.2.2.2.1, HM2.out.2.2.2.2⟩
        have hnu : numP t.1.length n2 n i (op, a, b) = 0 := by rw [HN2.out, HN.out]; exact HNU.out
        have HNV : Hid (numP t.1.length n2 n i (op, a, b) = 0) := hnu
        clear hX hW7 b7 HM2 HNU hQr
        have CN := numbers_ok (w := W7) (sa := sa) (ga := some ⟨gg, go, none⟩) (sc := sc) (gc := gc) hnu
        obtain ⟨⟨z0, z1⟩, hwv⟩ := HBW.out W7 M7.out.2.1
        have y0 : W7.cell? ⟨X, 0, none⟩ = some (.int .i64 op) := heap_cl M7.out.1 rfl
        have y1 : W7.cell? ⟨X, 1, none⟩ = some (.int .i64 a) := heap_cl M7.out.1 rfl
        have y2 : W7.cell? ⟨X, 2, none⟩ = some (.int .i64 b) := heap_cl M7.out.1 rfl
        clear hnu hwv
        go_upto_region 23 with (go_at_call 9; (with_reducible refine Calls.mono CN ?_); rintro e8 w8 ⟨rfl, H8⟩)
        have hQ7 : Q < W7.heap.size := M7.out.2.2.lt
        have M8 : Hid (w8.heap[X]? = some (.cells #[.int .i64 op, .int .i64 a, .int .i64 b] 41 (0, 0)) ∧ Below Q W5 w8 ∧ DepAt w8 Q ds) := ⟨(H8.out.block X (lt_heap M7.out.1)).trans M7.out.1, M7.out.2.1.trans (H8.out.mono (Nat.le_of_lt hQ7)), M7.out.2.2.on (H8.out.block Q hQ7)⟩
        clear CN H8 hQ7 M7 z0 z1 y0 y1 y2
        obtain ⟨⟨z0, z1⟩, hwv⟩ := HBW.out w8 M8.out.2.1
        have y0 : w8.cell? ⟨X, 0, none⟩ = some (.int .i64 op) := heap_cl M8.out.1 rfl
        have y1 : w8.cell? ⟨X, 1, none⟩ = some (.int .i64 a) := heap_cl M8.out.1 rfl
        have y2 : w8.cell? ⟨X, 2, none⟩ = some (.int .i64 b) := heap_cl M8.out.1 rfl
        have CD := needs_ok (w := w8) (sa := sa) (ga := some ⟨gg, go, none⟩) (sc := sc) (gc := gc) (HT.out w8 hwv).tab.shp HR.out.fs HNV.out hd1 hd8 HB2.out hsm
        clear hwv
        go_upto_region 26 with (go_at_call 10; (with_reducible refine Calls.mono CD ?_); rintro e9 w9 ⟨rfl, H9⟩)
        have hQ8 : Q < w8.heap.size := M8.out.2.2.lt
        have M9 : Hid (w9.heap[X]? = some (.cells #[.int .i64 op, .int .i64 a, .int .i64 b] 41 (0, 0)) ∧ Below Q W5 w9 ∧ DepAt w9 Q ds) := ⟨(H9.out.block X (lt_heap M8.out.1)).trans M8.out.1, M8.out.2.1.trans (H9.out.mono (Nat.le_of_lt hQ8)), M8.out.2.2.on (H9.out.block Q hQ8)⟩
        clear CD H9 hQ8 M8 z0 z1 y0 y1 y2
        obtain ⟨v, hv⟩ : ∃ v, v = ds.getD i 0 := ⟨_, rfl⟩
        have q0 : w9.cell? ⟨Q, i, none⟩ = some (.int .i64 v) := by rw [hv]; exact M9.out.2.2.cell (by rw [HRS.out.2.1]; exact hi)
        have hvd : v = 0 ∨ (¬ v = 0 ∧ v = d) := by
          rcases HRS.out.2.2 i with h | h
          · exact Or.inl (by rw [hv]; exact h)
          · by_cases h0 : v = 0
            · exact Or.inl h0
            · exact Or.inr ⟨h0, by rw [hv, h]; exact HRS.out.1⟩
        have f0 : w9.frozen? ⟨Q, i, none⟩ = false := M9.out.2.2.frozen
        have M10 : Hid ((w9.setCell ⟨Q, i, none⟩ (.int .i64 d)).heap[X]? = some (.cells #[.int .i64 op, .int .i64 a, .int .i64 b] 41 (0, 0)) ∧ Below Q W5 (w9.setCell ⟨Q, i, none⟩ (.int .i64 d)) ∧ DepAt (w9.setCell ⟨Q, i, none⟩ (.int .i64 d)) Q (ds.set i d) ∧ (ds.set i d).length = n ∧ ∀ j, (ds.set i d).getD j 0 = 0 ∨ (ds.set i d).getD j 0 = Dp.getD j 0) := by
          refine ⟨(Below.heap_setCell _ _ _ _ hQX).trans M9.out.1, M9.out.2.1.setCell (Nat.le_refl _) _, M9.out.2.2.put i d, by rw [List.length_set]; exact HRS.out.2.1, fun j => ?_⟩
          by_cases hj : j = i
          · subst hj
            exact Or.inr (by rw [getD_set_eq' (by rw [HRS.out.2.1]; exact hi)]; exact HRS.out.1.symm)
          · rw [getD_set_ne' hj]
            exact HRS.out.2.2 j
        have d1 : ¬ d < 1 := by omega
        have d2 : ¬ d > 8000 := by omega
        clear hv M9 HRS
        rcases hvd with rfl | ⟨hv0, hvd⟩
        case' inr => obtain rfl := hvd.symm
        all_goals
          go_upto_region 29 with fail
          obtain ⟨W10, hW10⟩ : ∃ W, W = w9.setCell ⟨Q, i, none⟩ (.int .i64 d) := ⟨_, rfl⟩
          rw [← hW10] at M10 ⊢
          clear hW10 q0 f0
          have y0 : W10.cell? ⟨X, 0, none⟩ = some (.int .i64 op) := heap_cl M10.out.1 rfl
          have y1 : W10.cell? ⟨X, 1, none⟩ = some (.int .i64 a) := heap_cl M10.out.1 rfl
          have y2 : W10.cell? ⟨X, 2, none⟩ = some (.int .i64 b) := heap_cl M10.out.1 rfl
          have CE := ends_ok (w := W10) HNV.out
          go_upto_region 30 with (go_at_call 11; (with_reducible refine Calls.mono CE ?_); rintro e11 w11 ⟨rfl, H11⟩)
          have hQ10 : Q < W10.heap.size := M10.out.2.2.1.lt
          obtain ⟨es, hes⟩ : ∃ es, es = ds.set i d := ⟨_, rfl⟩
          rw [← hes] at M10
          have M11 : Hid (w11.heap[X]? = some (.cells #[.int .i64 op, .int .i64 a, .int .i64 b] 41 (0, 0)) ∧ Below Q W5 w11 ∧ DepAt w11 Q es ∧ es.length = n ∧ ∀ j, es.getD j 0 = 0 ∨ es.getD j 0 = Dp.getD j 0) := ⟨(H11.out.block X (lt_heap M10.out.1)).trans M10.out.1, M10.out.2.1.trans (H11.out.mono (Nat.le_of_lt hQ10)), M10.out.2.2.1.on (H11.out.block Q hQ10), M10.out.2.2.2⟩
          clear CE H11 hQ10 M10 y0 y1 y2 hes
          by_cases hend : op = 16 ∨ op = 17
          case pos =>
            have e2 : decide (op = 16 ∨ op = 17) = true := decide_eq_true hend
            clear HNX
            go_wp2
            go_roundw
            case rel => exact ⟨tn + 1, es, by omega, by go_num, M11.out.2⟩
            case measure => simp [intOf]; omega
          have e2 : decide (op = 16 ∨ op = 17) = false := decide_eq_false hend
          have HNX2 := HNX.out hend
          obtain ⟨bd, hbd, hbd1, hbd8⟩ := HBH.out
          rw [← hbd] at HNX2
          obtain ⟨⟨z0, z1⟩, hwv⟩ := HBW.out w11 M11.out.2.1
          have y0 : w11.cell? ⟨X, 0, none⟩ = some (.int .i64 op) := heap_cl M11.out.1 rfl
          have y1 : w11.cell? ⟨X, 1, none⟩ = some (.int .i64 a) := heap_cl M11.out.1 rfl
          have y2 : w11.cell? ⟨X, 2, none⟩ = some (.int .i64 b) := heap_cl M11.out.1 rfl
          have CB := behind_ok (w := w11) (sa := sa) (ga := some ⟨gg, go, none⟩) (sc := sc) (gc := gc) (HT.out w11 hwv).tab.shp HR.out.fs HNV.out hd1 hd8 HB2.out hsm
          rw [← hbd] at CB
          clear hwv hbd HBH HNX
          go_upto_region 32 with (go_at_call 12; (with_reducible refine Calls.mono CB ?_); rintro e12 w12 ⟨rfl, H12⟩)
          have hQ11 : Q < w11.heap.size := M11.out.2.2.1.lt
          have M12 : Hid (w12.heap[X]? = some (.cells #[.int .i64 op, .int .i64 a, .int .i64 b] 41 (0, 0)) ∧ Below Q W5 w12 ∧ DepAt w12 Q es ∧ es.length = n ∧ ∀ j, es.getD j 0 = 0 ∨ es.getD j 0 = Dp.getD j 0) := ⟨(H12.out.block X (lt_heap M11.out.1)).trans M11.out.1, M11.out.2.1.trans (H12.out.mono (Nat.le_of_lt hQ11)), M11.out.2.2.1.on (H12.out.block Q hQ11), M11.out.2.2.2⟩
          clear CB H12 hQ11 M11 z0 z1 y0 y1 y2
          have y0 : w12.cell? ⟨X, 0, none⟩ = some (.int .i64 op) := heap_cl M12.out.1 rfl
          have y1 : w12.cell? ⟨X, 1, none⟩ = some (.int .i64 a) := heap_cl M12.out.1 rfl
          have y2 : w12.cell? ⟨X, 2, none⟩ = some (.int .i64 b) := heap_cl M12.out.1 rfl
          have CT := target_ok (w := w12) HNV.out
          obtain ⟨to, hto⟩ : ∃ to, to = (targetP (op, a, b)).getD (-1) := ⟨_, rfl⟩
          rw [← hto] at CT HNX2
          clear hto
          go_upto_region 33 with (go_at_call 13; (with_reducible refine Calls.mono CT ?_); rintro e13 w13 ⟨rfl, H13⟩)
          have hQ12 : Q < w12.heap.size := M12.out.2.2.1.lt
          have M13 : Hid (w13.heap[X]? = some (.cells #[.int .i64 op, .int .i64 a, .int .i64 b] 41 (0, 0)) ∧ Below Q W5 w13 ∧ DepAt w13 Q es ∧ es.length = n ∧ ∀ j, es.getD j 0 = 0 ∨ es.getD j 0 = Dp.getD j 0) := ⟨(H13.out.block X (lt_heap M12.out.1)).trans M12.out.1, M12.out.2.1.trans (H13.out.mono (Nat.le_of_lt hQ12)), M12.out.2.2.1.on (H13.out.block Q hQ12), M12.out.2.2.2⟩
          clear CT H13 hQ12 M12 y0 y1 y2
          have HNX3 : Hid _ := HNX2
          clear HNX2
          have y0 : w13.cell? ⟨X, 0, none⟩ = some (.int .i64 op) := heap_cl M13.out.1 rfl
          by_cases hw0 : nw = 0
          · have e3 : ¬ ((nw : Int) > 0) := by omega
            go_upto_region 34 with fail
            rcases HNX3.out with ⟨h13, k2, hk2, hik, hkn, hdk⟩ | ⟨h13, ⟨hn1, hdn⟩, hto | ⟨k2, hk2, hik, hkn, hdk⟩⟩
            · subst hk2
              have e4 : (op == 13) = true := by simp [h13]
              clear HNX3
              go_wp2
              go_roundw
              case rel => exact ⟨k2, k + 1, bd, es, by have := HN.out; omega, by omega, by go_num, by go_num, by go_num, hbd1, hbd8, hdk, M13.out.2⟩
              case measure => simp [intOf]; omega
            · subst hto
              have e4 : (op == 13) = false := by simpa using h13
              clear HNX3
              go_wp2
              go_roundw
              case rel => exact ⟨i + 1, k + 1, bd, es, by have := HN.out; omega, by omega, by go_num, by go_num, by go_num, hbd1, hbd8, hdn, M13.out.2⟩
              case measure => simp [intOf]; omega
            · subst hk2
              have e4 : (op == 13) = false := by simpa using h13
              have e5 : ((k2 : Int) ≥ 0) := by omega
              clear HNX3
              go_wp2
              go_roundw
              case rel => exact ⟨i + 1, k + 1, bd, es, by have := HN.out; omega, by omega, by go_num, by go_num, by go_num, hbd1, hbd8, hdn, M13.out.2⟩
              case measure => simp [intOf]; omega
          · have e3 : ((nw : Int) > 0) := by omega
            obtain ⟨r, hr⟩ : ∃ r : Nat, r = (tn + k) % nw := ⟨_, rfl⟩
            have hrl : r < nw := by rw [hr]; exact Nat.mod_lt _ (by omega)
            have hrm : ((tn : Int) + (k : Int)).tmod (nw : Int) = (r : Int) := by rw [hr]; exact (Int.ofNat_tmod _ _).symm
            obtain ⟨g2, o2, bv, hua, hnu2, hcb⟩ := HM.out w13 (HBW.out w13 M13.out.2.1).2 r hrl
            subst hua
            have r1 : (0 : Int) ≤ (r : Int) := by omega
            have r2 : (r : Int) < (nw : Int) := by omega
            clear hr
            obtain ⟨tb, htb⟩ : ∃ tb, ((tn : Int) == 2) = tb := ⟨_, rfl⟩
            cases bv <;> cases tb
            · go_upto_region 34 with fail
              rcases HNX3.out with ⟨h13, k2, hk2, hik, hkn, hdk⟩ | ⟨h13, ⟨hn1, hdn⟩, hto | ⟨k2, hk2, hik, hkn, hdk⟩⟩
              · subst hk2
                have e4 : (op == 13) = true := by simp [h13]
                clear HNX3
                go_wp2
                go_roundw
                case rel => exact ⟨k2, k + 1, bd, es, by have := HN.out; omega, by omega, by go_num, by go_num, by go_num, hbd1, hbd8, hdk, M13.out.2⟩
                case measure => simp [intOf]; omega
              · subst hto
                have e4 : (op == 13) = false := by simpa using h13
                clear HNX3
                go_wp2
                go_roundw
                case rel => exact ⟨i + 1, k + 1, bd, es, by have := HN.out; omega, by omega, by go_num, by go_num, by go_num, hbd1, hbd8, hdn, M13.out.2⟩
                case measure => simp [intOf]; omega
              · subst hk2
                have e4 : (op == 13) = false := by simpa using h13
                have e5 : ((k2 : Int) ≥ 0) := by omega
                clear HNX3
                go_wp2
                go_roundw
                case rel => exact ⟨i + 1, k + 1, bd, es, by have := HN.out; omega, by omega, by go_num, by go_num, by go_num, hbd1, hbd8, hdn, M13.out.2⟩
                case measure => simp [intOf]; omega
            · go_upto_region 34 with fail
              rcases HNX3.out with ⟨h13, k2, hk2, hik, hkn, hdk⟩ | ⟨h13, ⟨hn1, hdn⟩, hto | ⟨k2, hk2, hik, hkn, hdk⟩⟩
              · subst hk2
                have e4 : (op == 13) = true := by simp [h13]
                clear HNX3
                go_wp2
                go_roundw
                case rel => exact ⟨k2, k + 1, bd, es, by have := HN.out; omega, by omega, by go_num, by go_num, by go_num, hbd1, hbd8, hdk, M13.out.2⟩
                case measure => simp [intOf]; omega
              · subst hto
                have e4 : (op == 13) = false := by simpa using h13
                clear HNX3
                go_wp2
                go_roundw
                case rel => exact ⟨i + 1, k + 1, bd, es, by have := HN.out; omega, by omega, by go_num, by go_num, by go_num, hbd1, hbd8, hdn, M13.out.2⟩
                case measure => simp [intOf]; omega
              · subst hk2
                have e4 : (op == 13) = false := by simpa using h13
                have e5 : ((k2 : Int) ≥ 0) := by omega
                clear HNX3
                go_wp2
                go_roundw
                case rel => exact ⟨k2, k + 1, bd, es, by have := HN.out; omega, by omega, by go_num, by go_num, by go_num, hbd1, hbd8, hdk, M13.out.2⟩
                case measure => simp [intOf]; omega
            · go_upto_region 34 with fail
              rcases HNX3.out with ⟨h13, k2, hk2, hik, hkn, hdk⟩ | ⟨h13, ⟨hn1, hdn⟩, hto | ⟨k2, hk2, hik, hkn, hdk⟩⟩
              · subst hk2
                have e4 : (op == 13) = true := by simp [h13]
                clear HNX3
                go_wp2
                go_roundw
                case rel => exact ⟨k2, k + 1, bd, es, by have := HN.out; omega, by omega, by go_num, by go_num, by go_num, hbd1, hbd8, hdk, M13.out.2⟩
                case measure => simp [intOf]; omega
              · subst hto
                have e4 : (op == 13) = false := by simpa using h13
                clear HNX3
                go_wp2
                go_roundw
                case rel => exact ⟨i + 1, k + 1, bd, es, by have := HN.out; omega, by omega, by go_num, by go_num, by go_num, hbd1, hbd8, hdn, M13.out.2⟩
                case measure => simp [intOf]; omega
              · subst hk2
                have e4 : (op == 13) = false := by simpa using h13
                have e5 : ((k2 : Int) ≥ 0) := by omega
                clear HNX3
                go_wp2
                go_roundw
                case rel => exact ⟨k2, k + 1, bd, es, by have := HN.out; omega, by omega, by go_num, by go_num, by go_num, hbd1, hbd8, hdk, M13.out.2⟩
                case measure => simp [intOf]; omega
            · go_upto_region 34 with fail
              rcases HNX3.out with ⟨h13, k2, hk2, hik, hkn, hdk⟩ | ⟨h13, ⟨hn1, hdn⟩, hto | ⟨k2, hk2, hik, hkn, hdk⟩⟩
              · subst hk2
                have e4 : (op == 13) = true := by simp [h13]
                clear HNX3
                go_wp2
                go_roundw
                case rel => exact ⟨k2, k + 1, bd, es, by have := HN.out; omega, by omega, by go_num, by go_num, by go_num, hbd1, hbd8, hdk, M13.out.2⟩
                case measure => simp [intOf]; omega
              · subst hto
                have e4 : (op == 13) = false := by simpa using h13
                clear HNX3
                go_wp2
                go_roundw
                case rel => exact ⟨i + 1, k + 1, bd, es, by have := HN.out; omega, by omega, by go_num, by go_num, by go_num, hbd1, hbd8, hdn, M13.out.2⟩
                case measure => simp [intOf]; omega
              · subst hk2
                have e4 : (op == 13) = false := by simpa using h13
                have e5 : ((k2 : Int) ≥ 0) := by omega
                clear HNX3
                go_wp2
                go_roundw
                case rel => exact ⟨i + 1, k + 1, bd, es, by have := HN.out; omega, by omega, by go_num, by go_num, by go_num, hbd1, hbd8, hdn, M13.out.2⟩
                case measure => simp [intOf]; omega
    · have htn3 : tn = 3 := by omega
      have e3 : ¬ ((tn : Int) < 3) := by omega
      go_wp2
      exact HF.out _ (HBW.out _ HM1.out.1).2
end Go.Proofs.YtlpnegnpejpdkabGreatDoor
