/- byteWriter: the numbers of an instruction. eachNumber: the numbers of an instruction, one by one. byteWriter.table: what is needed for its walk. byteWriter.table: a table's bytes. -/
import Derived.Test.YtlpnegnpejpdkaaGreatDoorMfx
import Derived.Test.YtlpnegnpejpdkaaGreatDoorKz
namespace Go.Proofs.YtlpnegnpejpdkaaGreatDoor
open Go.RowKit

def manyP (op : Int) : Int := if kindB op ≠ 0 then 2 else if kindA op ≠ 0 then 1 else 0
set_option maxRecDepth 10000 in
theorem numbers_any {w : World} {rd : Option Addr} {rcap : Nat} (hR : RowsAt w rd rcap) (op : Int) (hx : isOpP op = true) : Calls Tryz.prog 118 #[.int .i64 op] w fun r w' => r = .returned (.int .i64 (manyP op)) ∧ w' = w := by
  have hop := op_range hx
  obtain ⟨k, rfl⟩ : ∃ k : Nat, op = (k : Int) := ⟨op.toNat, by omega⟩
  have r0 := hR.cell
  obtain ⟨g, o, rfl, hc, hg, q1, q2, q3⟩ := hR.row k (by omega)
  obtain ⟨e1, e2⟩ := kinds_at (i := k) rfl
  rw [← e1] at q2
  rw [← e2] at q3
  have HM : Hid (manyP (k : Int) = if kindB (k : Int) ≠ 0 then 2 else if kindA (k : Int) ≠ 0 then 1 else 0) := rfl
  have k1 : (0 : Int) ≤ (k : Int) := by omega
  have k2 : (k : Int) < 18 := by omega
  clear e1 e2 hR hx
  generalize manyP (k : Int) = r at *
  generalize kindA (k : Int) = ka at *
  generalize kindB (k : Int) = kb at *
  go_enter Tryz.func118, Tryz.ntmps118
  by_cases hb : kb = 0
  · have e1 : ((kb : Int) != 0) = false := by simp [hb]
    by_cases ha : ka = 0
    · have e2 : ((ka : Int) != 0) = false := by simp [ha]
      go_wp2
      go_ret
      exact ⟨by rw [HM.out, if_neg (by simp [hb]), if_neg (by simp [ha])]; rfl, rfl⟩
    · have e2 : ((ka : Int) != 0) = true := by simp; omega
      go_wp2
      go_ret
      exact ⟨by rw [HM.out, if_neg (by simp [hb]), if_pos ha]; rfl, rfl⟩
  · have e1 : ((kb : Int) != 0) = true := by simp; omega
    go_wp2
    go_ret
    exact ⟨by rw [HM.out, if_pos hb]; rfl, rfl⟩
set_option maxRecDepth 10000 in
theorem folded_any (n : Int) (h1 : -4611686018427387904 ≤ n) (h2 : n ≤ 4611686018427387903) (w : World) : Calls Tryz.prog 119 #[.int .i64 n] w fun r w' => r = .returned (.int .i64 (foldP n : Nat)) ∧ w' = w := by
  have HF : Hid ((n < 0 → ((foldP n : Nat) : Int) = -2 * (n + 1) + 1) ∧ (¬ n < 0 → ((foldP n : Nat) : Int) = 2 * n)) := by
    unfold foldP
    refine ⟨fun h => ?_, fun h => ?_⟩
    · rw [if_pos h]; omega
    · rw [if_neg h]; omega
  generalize ((foldP n : Nat) : Int) = r at *
  go_enter Tryz.func119, Tryz.ntmps119
  by_cases h0 : n < 0
  · go_wp2
    go_ret
    exact ⟨by rw [HF.out.1 h0]; rfl, rfl⟩
  · go_wp2
    go_ret
    exact ⟨by rw [HF.out.2 h0]; rfl, rfl⟩
set_option maxRecDepth 10000 in
theorem warg_any {w : World} {P : Nat} {l : Byt} (h : BW w P l) (hl : l.length ≤ 50000000) (kind : Nat) (n : Int) (ho : argOk kind n) : Calls Tryz.prog 95 #[.pointer (some ⟨P, 0, none⟩), .int .i64 kind, .int .i64 n] w fun r w' => BWo w P (l ++ argW kind n) r w' := by
  obtain ⟨_, h3, hn3, hlt⟩ := ho
  by_cases hk : kind = 3
  · obtain ⟨a1, a2⟩ := h3 hk
    have CF := folded_any n a1 a2 w
    have CN := wnum_any h (fold_back n a1 a2).2 hl
    have HA : Hid (argW kind n = numW (foldP n)) := by unfold argW; rw [if_pos hk]; exact rfl
    rw [HA.out]
    have e1 : ((kind : Int) == 3) = true := by simp [hk]
    clear h HA
    go_enter Tryz.func95, Tryz.ntmps95
    go_wp2_with (first | (go_at_call 119; (with_reducible refine Calls.mono CF ?_); rintro e2 w2 ⟨rfl, hw⟩; obtain rfl := hw.symm; clear hw) | (go_at_call 92; (with_reducible refine Calls.mono CN ?_); rintro e3 w3 ⟨rfl, HH⟩))
    refine bodyPost_end (v := .tuple #[]) (by simp [results, Tryz.results95, go_sem]) rfl ?_
    exact ⟨rfl, HH.out⟩
  · have h0 := hn3 hk
    obtain ⟨m, rfl⟩ : ∃ m : Nat, n = (m : Int) := ⟨n.toNat, by omega⟩
    have CN := wnum_any h (n := m) (by omega) hl
    have HA : Hid (argW kind (m : Int) = numW m) := by unfold argW; rw [if_neg hk, Int.toNat_natCast]; exact rfl
    rw [HA.out]
    have e1 : ((kind : Int) == 3) = false := by simp; omega
    clear h HA
    go_enter Tryz.func95, Tryz.ntmps95
    go_wp2_with (first | (go_at_call 92; (with_reducible refine Calls.mono CN ?_); rintro e3 w3 ⟨rfl, HH⟩))
    refine bodyPost_end (v := .tuple #[]) (by simp [results, Tryz.results95, go_sem]) rfl ?_
    exact ⟨rfl, HH.out⟩
end Go.Proofs.YtlpnegnpejpdkaaGreatDoor

namespace Go.Proofs.YtlpnegnpejpdkaaGreatDoor
open Go.RowKit

def restW (x : Ins) : Byt := if kindB x.1 ≠ 0 then argW (kindA x.1) x.2.1 ++ argW (kindB x.1) x.2.2 else if kindA x.1 ≠ 0 then argW (kindA x.1) x.2.1 else []
theorem insW_rest (x : Ins) : insW x = numW x.1.toNat ++ restW x := rfl
theorem RowsAt.under {w w' : World} {rd : Option Addr} {rcap P : Nat} (h : RowsAt w rd rcap) (h1 : 1 < P) (hP : ∀ g o, rd = some ⟨g, o, none⟩ → g < P) (hb : Below P w w') (hs : w.heap.size ≤ w'.heap.size) : RowsAt w' rd rcap := by
  refine ⟨(hb.cell (p := ⟨1, 0, none⟩) h1).trans h.cell, fun i hi => ?_⟩
  obtain ⟨g, o, e, hc, hg, q1, q2, q3⟩ := h.row i hi
  have hgP := hP g o e
  exact ⟨g, o, e, hc, Nat.lt_of_lt_of_le hg hs, (hb.cell (p := ⟨g, o + i * 3, none⟩) hgP).trans q1, (hb.cell (p := ⟨g, o + i * 3 + 1, none⟩) hgP).trans q2, (hb.cell (p := ⟨g, o + i * 3 + 2, none⟩) hgP).trans q3⟩
theorem BK.size {w w' : World} {P : Nat} {l : Byt} (h : BK w P w') (hw : BW w P l) : w.heap.size ≤ w'.heap.size := by
  obtain ⟨v, h1, _⟩ := hw
  obtain ⟨_, _, h2, _⟩ := h v h1
  exact h2
theorem BW.own_lt {w : World} {P : Nat} {l : Byt} (h : BW w P l) : ∀ v, w.heap[P]? = some (.cells #[v] 97 (0, 0)) → ∀ g, v.ownBlock = some g → g < w.heap.size := fun v hv g e => by
  obtain ⟨u, h1, h2⟩ := h
  rw [h1] at hv
  have e2 : u = v := by simpa using hv
  subst e2
  exact (h2.lt g e).2
theorem arg_len (k : Nat) (n : Int) : (argW k n).length ≤ 9 := num_len _
set_option maxHeartbeats 16000000 in
set_option maxRecDepth 10000 in
theorem each_any {w : World} {rd : Option Addr} {rcap P : Nat} {l : Byt} (hR : RowsAt w rd rcap) (h : BW w P l) (h1P : 1 < P) (hgP : ∀ g o, rd = some ⟨g, o, none⟩ → g < P) (hl : l.length ≤ 40000000) (x : Ins) (hx : insOk x) :
    Calls Tryz.prog 94 #[.agg #[.int .i64 x.1, .int .i64 x.2.1, .int .i64 x.2.2], .func (.func 95) #[.pointer (some ⟨P, 0, none⟩)] #[]] w fun r w' => BWo w P (l ++ restW x) r w' := by
  obtain ⟨op, a, b⟩ := x
  obtain ⟨hop, oa, ob⟩ := hx
  have hop2 := op_range hop
  simp only at hop oa ob
  obtain ⟨i, rfl⟩ : ∃ i : Nat, op = (i : Int) := ⟨op.toNat, by omega⟩
  obtain ⟨X, hX⟩ : ∃ X, X = w.heap.size := ⟨_, rfl⟩
  obtain ⟨W, hW⟩ : ∃ W, W = w.alloc (.cells #[.int .i64 (i : Int), .int .i64 a, .int .i64 b] 53) := ⟨_, rfl⟩
  have hBW : Below w.heap.size w W := by rw [hW]; exact (Below.refl _ _).alloc (Nat.le_refl _) _
  have hXW : W.heap[X]? = some (.cells #[.int .i64 (i : Int), .int .i64 a, .int .i64 b] 53 (0, 0)) := by rw [hW, hX]; exact new_blk _ _
  have hPX : P < X := by rw [hX]; exact h.lt
  have HM : Hid (manyP (i : Int) = if kindB (i : Int) ≠ 0 then 2 else if kindA (i : Int) ≠ 0 then 1 else 0) := rfl
  obtain ⟨R, hRR⟩ : ∃ R, R = restW ((i : Int), a, b) := ⟨_, rfl⟩
  rw [← hRR]
  have HRW : Hid (R = if kindB (i : Int) ≠ 0 then argW (kindA (i : Int)) a ++ argW (kindB (i : Int)) b else if kindA (i : Int) ≠ 0 then argW (kindA (i : Int)) a else []) := hRR
  clear hRR
  obtain ⟨k1, k2⟩ := kinds_at (i := i) rfl
  have HALL : Hid (∀ w2 : World, Below P w w2 → w.heap.size ≤ w2.heap.size → w2.heap[X]? = some (.cells #[.int .i64 (i : Int), .int .i64 a, .int .i64 b] 53 (0, 0)) →
      w2.cell? ⟨X, 0, none⟩ = some (.int .i64 (i : Int)) ∧ w2.cell? ⟨X, 1, none⟩ = some (.int .i64 a) ∧ w2.cell? ⟨X, 2, none⟩ = some (.int .i64 b) ∧ w2.cell? ⟨1, 0, none⟩ = some (.slice rd 18 rcap) ∧ (∃ g o, rd = some ⟨g, o, none⟩ ∧ 18 ≤ rcap ∧ w2.cell? ⟨g, o + i * 3 + 1, none⟩ = some (.int .i64 (kindA (i : Int) : Nat)) ∧ w2.cell? ⟨g, o + i * 3 + 2, none⟩ = some (.int .i64 (kindB (i : Int) : Nat))) ∧ Calls Tryz.prog 118 #[.int .i64 (i : Int)] w2 fun r w' => r = .returned (.int .i64 (manyP (i : Int))) ∧ w' = w2) := fun w2 hb hs hx => by
    have hr := hR.under h1P hgP hb hs
    obtain ⟨g, o, e1, e2, _, _, e3, e4⟩ := hr.row i (by omega)
    rw [← k1] at e3
    rw [← k2] at e4
    exact ⟨heap_cl hx rfl, heap_cl hx rfl, heap_cl hx rfl, hr.cell, ⟨g, o, e1, e2, e3, e4⟩, numbers_any hr _ hop⟩
  have HST : Hid (BW W.drew P l ∧ Below P w W.drew ∧ BK w P W.drew ∧ w.heap.size ≤ W.drew.heap.size ∧ W.drew.heap[X]? = some (.cells #[.int .i64 (i : Int), .int .i64 a, .int .i64 b] 53 (0, 0)) ∧ ∀ v, W.drew.heap[P]? = some (.cells #[v] 97 (0, 0)) → v.ownBlock ≠ some X) := by
    have hb := hBW.drew
    refine ⟨h.on hb, hb.mono (Nat.le_of_lt h.lt), BK.on hb, hb.size, hXW, fun v hv e => ?_⟩
    have hv2 : w.heap[P]? = some (.cells #[v] 97 (0, 0)) := (hb.block P h.lt).symm.trans hv
    have := h.own_lt v hv2 X e
    omega
  have HSW : Hid (Below P w W ∧ w.heap.size ≤ W.heap.size ∧ W.heap[X]? = some (.cells #[.int .i64 (i : Int), .int .i64 a, .int .i64 b] 53 (0, 0))) := ⟨hBW.mono (Nat.le_of_lt h.lt), hBW.size, hXW⟩
  obtain ⟨x0, x1, x2, r0, ⟨g, o, rfl, hc, q1, q2⟩, CN0⟩ := HALL.out W HSW.out.1 HSW.out.2.1 HSW.out.2.2
  obtain ⟨y0, y1, y2, s0, _, CN⟩ := HALL.out W.drew HST.out.2.1 HST.out.2.2.2.1 HST.out.2.2.2.2.1
  have HXE : Hid (X = w.heap.size) := hX
  have i1 : (0 : Int) ≤ (i : Int) := by omega
  have i2 : (i : Int) < 18 := by omega
  have HOA : Hid (argOk (kindA (i : Int)) a) := oa
  have HOB : Hid (argOk (kindB (i : Int)) b) := ob
  clear hX hXW hBW hR h k1 k2 hop hop2 HSW CN0 oa ob
  go_enter Tryz.func94, Tryz.ntmps94
  go_upto_region 1 with fail
  rw [← hW, ← HXE.out]
  clear hW
  go_region
  all_goals
    go_upto_region 3 with (go_at_call 118; (with_reducible refine Calls.mono CN ?_); rintro e2 w2 ⟨rfl, hw⟩; obtain rfl := hw.symm; clear hw)
    have HAR : Hid (∀ (w1 : World) (l1 : Byt), BW w1 P l1 → l1.length ≤ 50000000 → Calls Tryz.prog 95 #[.pointer (some ⟨P, 0, none⟩), .int .i64 (kindA (i : Int) : Nat), .int .i64 a] w1 fun r w' => BWo w1 P (l1 ++ argW (kindA (i : Int)) a) r w') := fun w1 l1 h1 h2 => warg_any h1 h2 _ _ HOA.out
    have HBR : Hid (∀ (w1 : World) (l1 : Byt), BW w1 P l1 → l1.length ≤ 50000000 → Calls Tryz.prog 95 #[.pointer (some ⟨P, 0, none⟩), .int .i64 (kindB (i : Int) : Nat), .int .i64 b] w1 fun r w' => BWo w1 P (l1 ++ argW (kindB (i : Int)) b) r w') := fun w1 l1 h1 h2 => warg_any h1 h2 _ _ HOB.out
    have HAL : Hid ((argW (kindA (i : Int)) a).length ≤ 9) := arg_len _ _
    clear HOA HOB CN q1 q2 x0 x1 x2 r0 y0 y1 y2 s0
    generalize W.drew = V at *
    clear W
    generalize argW (kindA (i : Int)) a = la at *
    generalize argW (kindB (i : Int)) b = lb at *
    generalize manyP (i : Int) = M at *
    generalize kindA (i : Int) = ka at *
    generalize kindB (i : Int) = kb at *
    have CA := HAR.out V l HST.out.1 (by omega)
    by_cases hb : kb = 0
    · by_cases ha : ka = 0
      · have hM : M = 0 := by rw [HM.out, if_neg (by simp [hb]), if_neg (by simp [ha])]
        have HRE : Hid (l ++ R = l) := by show _ = _; rw [HRW.out, if_neg (by simp [hb]), if_neg (by simp [ha]), List.append_nil]
        subst hM
        clear HM HRW CA
        go_wp2
        refine bodyPost_end (v := .tuple #[]) (by simp [results, Tryz.results94, go_sem]) rfl ?_
        rw [HRE.out]
        exact ⟨rfl, HST.out.1, HST.out.2.1, HST.out.2.2.1⟩
      · have hM : M = 1 := by rw [HM.out, if_neg (by simp [hb]), if_pos ha]
        have HRE : Hid (l ++ R = l ++ la) := by show _ = _; rw [HRW.out, if_neg (by simp [hb]), if_pos ha]
        subst hM
        clear HM HRW
        go_wp2_with (go_at_call 95; (with_reducible refine Calls.mono CA ?_); rintro e3 w3 ⟨rfl, HH⟩)
        refine bodyPost_end (v := .tuple #[]) (by simp [results, Tryz.results94, go_sem]) rfl ?_
        rw [HRE.out]
        exact ⟨rfl, HH.out.1, HST.out.2.1.trans HH.out.2.1, HST.out.2.2.1.trans HH.out.2.2⟩
    · have hM : M = 2 := by rw [HM.out, if_pos hb]
      have HRE : Hid (l ++ R = l ++ la ++ lb) := by show _ = _; rw [HRW.out, if_pos hb, List.append_assoc]
      subst hM
      clear HM HRW
      go_upto_region 6 with (go_at_call 95; (with_reducible refine Calls.mono CA ?_); rintro e3 w3 ⟨rfl, HH⟩)
      have hs3 := HH.out.2.2.size HST.out.1
      have hX3 : w3.heap[X]? = some (.cells #[.int .i64 (i : Int), .int .i64 a, .int .i64 b] 53 (0, 0)) := (HH.out.2.2.block HST.out.1 (lt_heap HST.out.2.2.2.2.1) (by omega) HST.out.2.2.2.2.2).trans HST.out.2.2.2.2.1
      have hb3 : Below P w w3 := HST.out.2.1.trans HH.out.2.1
      obtain ⟨x0, x1, x2, r0, ⟨g2, o2, e, _, q1, q2⟩, _⟩ := HALL.out w3 hb3 (Nat.le_trans HST.out.2.2.2.1 hs3) hX3
      obtain ⟨rfl, rfl⟩ : g = g2 ∧ o = o2 := by simpa using e
      have CB := HBR.out w3.drew (l ++ la) (HH.out.1.on (Below.refl _ _).drew) (by have := HAL.out; rw [List.length_append]; omega)
      have HF : Hid (BK w P w3.drew ∧ Below P w w3.drew) := ⟨(HST.out.2.2.1.trans HH.out.2.2).trans (BK.on (Below.refl _ _).drew), hb3.drew⟩
      clear hs3 hX3 hb3 HALL HST CA e HAR HBR
      go_region
      all_goals
        go_wp2_with (go_at_call 95; (with_reducible refine Calls.mono CB ?_); rintro e4 w4 ⟨rfl, H4⟩)
        refine bodyPost_end (v := .tuple #[]) (by simp [results, Tryz.results94, go_sem]) rfl ?_
        rw [HRE.out]
        exact ⟨rfl, H4.out.1, HF.out.2.trans H4.out.2.1, HF.out.1.trans H4.out.2.2⟩
end Go.Proofs.YtlpnegnpejpdkaaGreatDoor

namespace Go.Proofs.YtlpnegnpejpdkaaGreatDoor
open Go.RowKit

theorem ins_len (x : Ins) : (insW x).length ≤ 27 := by
  rw [insW_rest, List.length_append]
  have h1 := num_len x.1.toNat
  have h2 := arg_len (kindA x.1) x.2.1
  have h3 := arg_len (kindB x.1) x.2.2
  unfold restW
  split
  · rw [List.length_append]; omega
  · split
    · omega
    · simp; omega
theorem shp_len {s : Shp} (h : s.1.length ≤ 4096) : (shpW s).length ≤ 4114 := by
  unfold shpW nameW
  rw [List.length_append, List.length_append]
  have := num_len s.1.length
  have := num_len s.2.toNat
  omega
theorem flat_le {α : Type} {g : α → Byt} {n : Nat} : ∀ (l : List α), (∀ a ∈ l, (g a).length ≤ n) → ((l.map g).flatten).length ≤ l.length * n
  | [], _ => by simp
  | a :: l, h => by
    have h1 := h a (List.mem_cons_self ..)
    have h2 := flat_le l fun b hb => h b (List.mem_cons_of_mem _ hb)
    simp only [List.map_cons, List.flatten_cons, List.length_append, List.length_cons, Nat.add_mul]
    omega
theorem glb_len {g : Glb} (h : g.1.length ≤ 4096) : (glbW g).length ≤ 4123 + g.2.2.length * 27 := by
  unfold glbW nameW
  simp only [List.length_append]
  have h1 := num_len g.1.length
  have h2 := num_len g.2.1.toNat
  have h3 := num_len g.2.2.length
  have h4 := flat_le (g := insW) (n := 27) g.2.2 fun x _ => ins_len x
  omega
theorem glbs_len : ∀ (l : List Glb), (∀ g ∈ l, g.1.length ≤ 4096) → ((l.map glbW).flatten).length ≤ l.length * 4123 + instrsP l * 27
  | [], _ => by simp
  | g :: l, h => by
    have h1 := glb_len (h g (List.mem_cons_self ..))
    have h2 := glbs_len l fun b hb => h b (List.mem_cons_of_mem _ hb)
    have h3 : instrsP (g :: l) = g.2.2.length + instrsP l := by simp [instrsP]
    simp only [List.map_cons, List.flatten_cons, List.length_append, List.length_cons, Nat.add_mul]
    rw [h3, Nat.add_mul]
    omega
theorem body_len {t : Tab} (h : TabOk t) : (markP ++ bodyW t).length ≤ 30000000 := by
  unfold bodyW
  simp only [List.length_append]
  have a1 := flat_le (g := shpW) (n := 4114) t.1 fun s hs => shp_len (h.shp s hs).1
  have a2 := glbs_len t.2 fun g hg => (h.glb g hg).1
  have k1 := h.shapes
  have k2 := h.globals
  have k3 := h.all
  have a3 := num_len t.1.length
  have a4 := num_len t.2.length
  have : markP.length = 4 := rfl
  omega
/-- The bytes of a text behind a writer's own. -/
theorem str_put {w2 : World} {P : Nat} {v : Value} {L : Byt} (hP : w2.heap[P]? = some (.cells #[v] 97 (0, 0))) (hO : w2.ownsRow (P + 1) 5 1 v L.length (L.map byteV)) (s : Byt) (v' : Value) (w' : World) (h1 : w'.ownsRow (P + 1) 5 1 v' (L.length + s.length) (L.map byteV ++ s.map byteV)) (h2 : w2.grownBy w' v.ownBlock) (h3 : v'.ownBlock = v.ownBlock ∨ ∃ g, v'.ownBlock = some g ∧ w2.heap.size ≤ g) :
    w'.heap[P]? = some (.cells #[v] 97 (0, 0)) ∧ Hid (BW (w'.setCell ⟨P, 0, none⟩ v') P (L ++ s) ∧ Below P w2 (w'.setCell ⟨P, 0, none⟩ v') ∧ BK w2 P (w'.setCell ⟨P, 0, none⟩ v')) ∧ ∃ a2 c2, v' = .slice a2 (L.length + s.length) c2 := by
  have hb : Below (P + 1) w2 w' := (Below.refl _ _).grown h2 (lt_heap hP) fun k hk => (hO.lt k hk).1
  rw [← List.map_append, ← List.length_append] at h1
  have O2 := bytes_own h1
  have hPw : w'.heap[P]? = some (.cells #[v] 97 (0, 0)) := (hb.block P (Nat.lt_succ_self P)).trans hP
  obtain ⟨a2, c2, e⟩ := O2.len
  exact ⟨hPw, ⟨BW.put hPw O2, (hb.mono (Nat.le_succ P)).setCell (show P ≤ P from Nat.le_refl P) _, BK.put hP hPw h2.size (fun y hy hne => h2.block y hy fun e => hne e.symm) h3⟩, a2, c2, by rw [e, List.length_append]⟩
/-- append(x, y...) of bytes, at a step of a region that draws its order. -/
theorem step_bytes {ops : Array Oper} {o : Oper} {a : Act} {K : Act → World → Prop} {Q : Exit → Act → World → Prop} {E : Prop} {w : World} (hgd : o.guard = none) (s x : Operand)
    (ho : o.op = .call { callee := .builtin .append, args := #[s, x], argTypes := #[40, 40] }) {base n : Nat} {v : Value} {xs ys : List Value} {g c : Nat} (hs : a.eval s = v) (hown : w.ownsRow base 5 1 v n xs) (hx : a.eval x = .slice (some ⟨g, 0, none⟩) ys.length c)
    (hlie : ∀ j (h : j < ys.length), w.cell? ⟨g, j, none⟩ = some ys[j]) (h0 : 0 < ys.length) (h1 : ∀ u ∈ ys, u.oneCell' = true) (hl : n + ys.length ≤ 100000000) (hbase : base ≤ w.heap.size)
    (h : ∀ v' w', w'.ownsRow base 5 1 v' (n + ys.length) (xs ++ ys) → w.grownBy w' v.ownBlock → (v'.ownBlock = v.ownBlock ∨ ∃ g, v'.ownBlock = some g ∧ w.heap.size ≤ g) → K (a.put o.dst v') w') :
    if Region.wanted o (yielded ops a.tmps) = true then Oper.wp Tryz.prog o a w K Q else E := by
  have T := Tryz.ty40
  obtain ⟨i, z, hi, hz, hk, hby, hzs⟩ := T.info
  refine step_append_lies w hgd s x 40 ho base 5 i z 1 1 T.slice hi hz hk hby hzs (by decide) v n xs hs hown ⟨g, 0, none⟩ ys.length c ys hx (by omega) (fun j u hu => ?_) h1 h0 (by unfold maxLen; omega) (by omega) hbase _ rfl ?_
  · have hj : j < ys.length := by
      rcases Nat.lt_or_ge j ys.length with h | h
      · exact h
      · rw [List.getElem?_eq_none h] at hu; cases hu
    rw [List.getElem?_eq_getElem hj] at hu
    have := hlie j hj
    rw [Option.some.inj hu] at this
    by_cases ej : j = 0
    · subst ej
      simpa [Addr.add] using this
    · simpa [Addr.add, ej] using this
  · intro g' cap' w' k1 k2 k3 _
    refine h _ w' k1 k2 ?_
    rcases k3 with k3 | k3
    · exact .inl k3.symm
    · exact .inr ⟨g', rfl, Nat.le_of_eq k3.symm⟩
end Go.Proofs.YtlpnegnpejpdkaaGreatDoor

namespace Go.Proofs.YtlpnegnpejpdkaaGreatDoor
open Go.RowKit

/-- Where a writer stands: its bytes and what follows are T. -/
def At (W wr : World) (P : Nat) (T rest : Byt) : Prop := ∃ l, l ++ rest = T ∧ BW wr P l ∧ Below P W wr ∧ BK W P wr
/-- A block that is none of the writer's. -/
def Free (w : World) (P Y : Nat) : Prop := Y < w.heap.size ∧ Y ≠ P ∧ ∀ v, w.heap[P]? = some (.cells #[v] 97 (0, 0)) → v.ownBlock ≠ some Y
def Kpt (w w' : World) (P : Nat) : Prop := ∀ Y, Free w P Y → Free w' P Y ∧ w'.heap[Y]? = w.heap[Y]?
theorem Kpt.trans {a b c : World} {P : Nat} (h : Kpt a b P) (k : Kpt b c P) : Kpt a c P := fun Y f => ⟨(k Y (h Y f).1).1, (k Y (h Y f).1).2.trans (h Y f).2⟩
theorem BK.kpt {w w' : World} {P : Nat} {l : Byt} (h : BK w P w') (hw : BW w P l) : Kpt w w' P := fun Y f => by
  obtain ⟨v, h1, h2⟩ := id hw
  obtain ⟨v', k1, k2, k3, k4⟩ := h v h1
  refine ⟨⟨Nat.lt_of_lt_of_le f.1 k2, f.2.1, fun u hu e => ?_⟩, k4 Y f.1 f.2.1 (f.2.2 v h1)⟩
  rw [k1] at hu
  have e2 : v' = u := by simpa using hu
  subst e2
  rcases k3 with k3 | ⟨g, k3, hg⟩
  · rw [k3] at e
    exact f.2.2 v h1 e
  · rw [k3] at e
    injection e with e
    have := f.1
    omega
theorem At.len {W wr : World} {P : Nat} {T rest : Byt} (h : At W wr P T rest) : ∃ l, l ++ rest = T ∧ l.length ≤ T.length ∧ BW wr P l ∧ Below P W wr ∧ BK W P wr := by
  obtain ⟨l, h1, h2, h3, h4⟩ := h
  exact ⟨l, h1, by rw [← h1, List.length_append]; omega, h2, h3, h4⟩
theorem At.below {W wr w2 : World} {P : Nat} {T rest : Byt} (h : At W wr P T rest) (hb : Below wr.heap.size wr w2) : At W w2 P T rest ∧ Kpt wr w2 P := by
  obtain ⟨l, h1, h2, h3, h4⟩ := h
  exact ⟨⟨l, h1, h2.on hb, h3.trans (hb.mono (Nat.le_of_lt h2.lt)), h4.trans (BK.on hb)⟩, (BK.on hb).kpt h2⟩
/-- A box that was just laid. -/
theorem At.box {W wr : World} {P : Nat} {T rest : Byt} (h : At W wr P T rest) (o : Obj) : At W (wr.alloc o) P T rest ∧ Kpt wr (wr.alloc o) P ∧ Free (wr.alloc o) P wr.heap.size := by
  obtain ⟨h1, h2⟩ := h.below ((Below.refl _ _).alloc (Nat.le_refl _) o)
  obtain ⟨l, _, h3, _⟩ := h
  refine ⟨h1, h2, by rw [World.size_alloc]; omega, by have := h3.lt; omega, fun v hv e => ?_⟩
  have hv2 : wr.heap[P]? = some (.cells #[v] 97 (0, 0)) := (Below.heap_alloc _ _ _ h3.lt).symm.trans hv
  have := h3.own_lt v hv2 _ e
  omega
/-- A number is written. -/
theorem at_num {W wr : World} {P n : Nat} {T rest : Byt} (h : At W wr P T (numW n ++ rest)) (hT : T.length ≤ 40000000) (hn : n < 9223372036854775808) : Calls Tryz.prog 92 #[.pointer (some ⟨P, 0, none⟩), .int .i64 n] wr fun r w' => r = .returned (.tuple #[]) ∧ Hid (At W w' P T rest ∧ Kpt wr w' P) := by
  obtain ⟨l, h1, h2, h3, h4, h5⟩ := h.len
  refine Calls.mono (wnum_any h3 hn (by omega)) ?_
  rintro r w' ⟨rfl, HH⟩
  exact ⟨rfl, ⟨l ++ numW n, by rw [List.append_assoc]; exact h1, HH.out.1, h4.trans HH.out.2.1, h5.trans HH.out.2.2⟩, HH.out.2.2.kpt h3⟩
theorem at_name {W wr : World} {P : Nat} {T rest s : Byt} (h : At W wr P T (nameW s ++ rest)) (hT : T.length ≤ 40000000) (hs : s.length ≤ 4096) : Calls Tryz.prog 93 #[.pointer (some ⟨P, 0, none⟩), .string ⟨s.toArray⟩] wr fun r w' => r = .returned (.tuple #[]) ∧ Hid (At W w' P T rest ∧ Kpt wr w' P) := by
  obtain ⟨l, h1, h2, h3, h4, h5⟩ := h.len
  refine Calls.mono (wname_any h3 hs (by omega)) ?_
  rintro r w' ⟨rfl, HH⟩
  exact ⟨rfl, ⟨l ++ nameW s, by rw [List.append_assoc]; exact h1, HH.out.1, h4.trans HH.out.2.1, h5.trans HH.out.2.2⟩, HH.out.2.2.kpt h3⟩
theorem at_each {W wr : World} {rd : Option Addr} {rcap P : Nat} {T rest : Byt} {x : Ins} (h : At W wr P T (restW x ++ rest)) (hT : T.length ≤ 40000000) (hR : RowsAt wr rd rcap) (h1P : 1 < P) (hgP : ∀ g o, rd = some ⟨g, o, none⟩ → g < P) (hx : insOk x) : Calls Tryz.prog 94 #[.agg #[.int .i64 x.1, .int .i64 x.2.1, .int .i64 x.2.2], .func (.func 95) #[.pointer (some ⟨P, 0, none⟩)] #[]] wr fun r w' => r = .returned (.tuple #[]) ∧ Hid (At W w' P T rest ∧ Kpt wr w' P) := by
  obtain ⟨l, h1, h2, h3, h4, h5⟩ := h.len
  refine Calls.mono (each_any hR h3 h1P hgP (by omega) x hx) ?_
  rintro r w' ⟨rfl, HH⟩
  exact ⟨rfl, ⟨l ++ restW x, by rw [List.append_assoc]; exact h1, HH.out.1, h4.trans HH.out.2.1, h5.trans HH.out.2.2⟩, HH.out.2.2.kpt h3⟩
/-- What stands of the table wherever the writer is. -/
structure Wt (wr : World) (rd : Option Addr) (rcap P X : Nat) (sa bd : Option Addr) (scap bcap : Nat) (t : Tab) : Prop where
  x0 : wr.cell? ⟨X, 0, none⟩ = some (.slice sa t.1.length scap)
  x1 : wr.cell? ⟨X, 1, none⟩ = some (.slice bd t.2.length bcap)
  rows : RowsAt wr rd rcap
  shp : RowE EShp wr (fun y => y < P) (fun y => y < P) (.slice sa t.1.length scap) t.1
  glb : RowE EGlb wr (fun y => y < P) (fun y => y < P) (.slice bd t.2.length bcap) t.2
end Go.Proofs.YtlpnegnpejpdkaaGreatDoor
