/- find, where the results are whole. find: one result more, each that may come. -/
import Derived.Test.YtgdflaapgfpdeaaDoorMhx
namespace Go.Proofs.YtgdflaapgfpdeaaDoor
open Go.RowKit

set_option maxHeartbeats 8000000 in
set_option maxRecDepth 10000 in
theorem find_leaf {P Q B pf pt : Nat} {fa ta bg : List Nat} {b : Value} {rs : List (List Nat)} {w : World} (h : FdW P Q B pf pt fa ta bg b rs w) (hl : bg.length = fa.length) (hn : fa.length ≤ 40) (hr : rs.length ≤ 40) :
    Calls Tryd.prog 53 #[.pointer (some ⟨P, 0, none⟩), .slice (some ⟨Q, 0, none⟩) bg.length bg.length] w fun r w' => r = .returned (.bool (decide (rs.length + 1 ≤ 40))) ∧ Hid (Below P w w') ∧ Hid (rs.length + 1 ≤ 40 → ∃ b', FdW P Q B pf pt fa ta bg b' (rs ++ [bg]) w') := by
  have CS := size_any (w := w) (h.fr.on (S' := fun _ => True) (Keeps.refl _ _) fun _ _ => trivial)
  rw [← hl] at CS
  have c1 : w.cell? ⟨P, 1, none⟩ = some (.pointer (some ⟨pf, 0, none⟩)) := heap_cl h.blk rfl
  have H : Hid (FdW P Q B pf pt fa ta bg b rs w.drew) := h.on ((Below.refl _ _).drew)
  have hPlt : P < w.drew.heap.size := lt_heap H.out.blk
  have hQlt : Q < w.drew.heap.size := (H.out.beg.lt Q rfl).2
  have CC : Calls Tryd.prog 61 #[.slice (some ⟨Q, 0, none⟩) bg.length bg.length] w.drew fun r w' => ∃ v, r = .returned v ∧ Below w.drew.heap.size w.drew w' ∧ OwnN ENat 3 w.drew.heap.size (fun _ => False) w' v bg := by
    have h1 := H.out.beg
    rw [← hl] at h1
    exact clone_any (beg_nts h1) (fun y e => by rw [show y = Q from e]; exact hQlt) (by omega)
  have hbP := H.out.bP.1
  have HL : Hid (bg.length = fa.length) := hl
  clear h hl
  go_enter Tryd.func53, Tryd.ntmps53
  go_upto_region 2 with (first | (go_at_call 16; (with_reducible refine Calls.mono CS ?_); rintro e' w2 ⟨rfl, hw2⟩; subst hw2))
  clear CS c1
  have hS0 : (fun w' : World => w'.cell? ⟨P, 3, none⟩ = some b) w2.drew := heap_cl H.out.blk rfl
  refine wp_region_M (S := (fun w' : World => w'.cell? ⟨P, 3, none⟩ = some b)) (L := 11) (n := 12) (by kernel_rfl) rfl (by kernel_rfl) ?_
  refine wpAnyK_go (i := 0) (m' := 1) (some 15) (v := .pointer (some ⟨P, 0, none⟩)) rfl rfl (by kernel_rfl) (by kernel_rfl) (by kernel_rfl) (by kernel_rfl) (by kernel_rfl) (fun _ _ _ h => h) (Or.inl ⟨by rfl, ?_⟩) hS0 ?_
  · intro w' hSw
    go_simp
  simp only [Act.put, List.setIfInBounds_toArray, List.set_cons_zero, List.set_cons_succ]
  refine wpAnyK_go (i := 1) (m' := 3) (some 16) (v := .pointer (some ⟨P, 0, none⟩)) rfl rfl (by kernel_rfl) (by kernel_rfl) (by kernel_rfl) (by kernel_rfl) (by kernel_rfl) (fun _ _ _ h => h) (Or.inl ⟨by rfl, ?_⟩) hS0 ?_
  · intro w' hSw
    go_simp
  simp only [Act.put, List.setIfInBounds_toArray, List.set_cons_zero, List.set_cons_succ]
  refine wpAnyK_go (i := 2) (m' := 7) (some 17) (v := .pointer (some ⟨P, 0, none⟩)) rfl rfl (by kernel_rfl) (by kernel_rfl) (by kernel_rfl) (by kernel_rfl) (by kernel_rfl) (fun _ _ _ h => h) (Or.inl ⟨by rfl, ?_⟩) hS0 ?_
  · intro w' hSw
    go_simp
  simp only [Act.put, List.setIfInBounds_toArray, List.set_cons_zero, List.set_cons_succ]
  refine wpAnyK_go (i := 3) (m' := 15) (some 18) (v := .pointer (some ⟨P, 3, none⟩)) rfl rfl (by kernel_rfl) (by kernel_rfl) (by kernel_rfl) (by kernel_rfl) (by kernel_rfl) (fun _ _ _ h => h) (Or.inl ⟨by rfl, ?_⟩) hS0 ?_
  · intro w' hSw
    go_simp
  simp only [Act.put, List.setIfInBounds_toArray, List.set_cons_zero, List.set_cons_succ]
  refine wpAnyK_go (i := 4) (m' := 31) (some 19) (v := b) rfl rfl (by kernel_rfl) (by kernel_rfl) (by kernel_rfl) (by kernel_rfl) (by kernel_rfl) (fun _ _ _ h => h) (Or.inl ⟨by rfl, ?_⟩) hS0 ?_
  · intro w' hSw
    replace hSw : w'.cell? ⟨P, 3, none⟩ = some b := hSw
    go_simp
  simp only [Act.put, List.setIfInBounds_toArray, List.set_cons_zero, List.set_cons_succ]
  refine wpAnyK_go (i := 5) (m' := 63) (some 20) (v := .slice (some ⟨Q, 0, none⟩) bg.length bg.length) rfl rfl (by kernel_rfl) (by kernel_rfl) (by kernel_rfl) (by kernel_rfl) (by kernel_rfl) (fun _ _ _ h => h) (Or.inl ⟨by rfl, ?_⟩) hS0 ?_
  · intro w' hSw
    go_simp
  simp only [Act.put, List.setIfInBounds_toArray, List.set_cons_zero, List.set_cons_succ]
  refine wpAnyK_only (i := 6) (m' := 127) (by kernel_rfl) rfl (by kernel_rfl) fun K hK => ?_
  go_simp
  (with_reducible refine Calls.mono CC ?_)
  rintro e' w3 ⟨v, rfl, hb3, ho3⟩
  obtain ⟨ad, cap, rfl⟩ := ho3.len
  have hnt : Nts w3 (Nwr (fun _ => False) B w3 b) (.slice ad bg.length cap) bg := (RowE.toNts ho3.rowE).on (Keeps.refl _ _) fun y hy => .inr ⟨Nat.le_trans H.out.bw hy.1, hy.2, fun e => by have := (H.out.own.lt y e).2; have := hy.1; omega⟩
  have hS3 : (fun w' : World => w'.cell? ⟨P, 3, none⟩ = some b) w3 := (hb3.cell (p := ⟨P, 3, none⟩) hPlt).trans hS0
  have hP3 : w3.heap[P]? = some (.cells #[.slice none 0 0, .pointer (some ⟨pf, 0, none⟩), .pointer (some ⟨pt, 0, none⟩), b] 62 (0, 0)) := (hb3.block P hPlt).trans H.out.blk
  go_simp
  refine hK.out _ _ (fun _ => hS3) ?_
  clear hK K CC
  refine wpAnyK_only (i := 7) (m' := 255) (by kernel_rfl) rfl (by kernel_rfl) fun K hK => ?_
  go_simp
  refine hK.out _ _ (fun _ => ((Below.refl _ _).alloc (Nat.le_refl _) _ |>.cell (p := ⟨P, 3, none⟩) (lt_heap hP3)).trans hS3) ?_
  clear hK K
  refine wpAnyK_only (i := 8) (m' := 511) (by kernel_rfl) rfl (by kernel_rfl) fun K hK => ?_
  refine step_append_N1 (E := ERs) (w1 := w2.drew) (w2 := w3) (cs := [.slice ad bg.length cap]) (p := bg) (cap := 1) Tryd.ty45 rfl _ _ rfl rfl H.out.own (fun _ h => h.elim) H.out.bw hb3 w3.heap.size rfl rfl ⟨ad, cap, rfl, hnt⟩ (by omega) ?_
  intro g1 cap1 w4 O4 HK4
  have hblk4 : w4.heap[P]? = some (.cells #[.slice none 0 0, .pointer (some ⟨pf, 0, none⟩), .pointer (some ⟨pt, 0, none⟩), b] 62 (0, 0)) := (HK4.out.2 P (lt_heap hP3) hbP).trans hP3
  obtain ⟨q1, q2⟩ := put_cell (j := 3) (Nat.lt_trans H.out.pq H.out.qb) hP3 O4 HK4.out.2 hbP
  have hS4 : (fun w' : World => w'.cell? ⟨P, 3, none⟩ = some b) w4 := heap_cl hblk4 rfl
  have z1 := heap_frozen (o := 3) hblk4
  refine hK.out _ _ (fun _ => hS4) ?_
  clear hK K
  simp only [Act.put, List.setIfInBounds_toArray]
  refine wpAnyK_only (i := 9) (m' := 1023) (by kernel_rfl) rfl (by kernel_rfl) fun K hK => ?_
  go_simp
  refine hK.out _ _ (fun _ => hS4) ?_
  clear hK K
  refine wpAnyK_only (i := 10) (m' := 2047) (by kernel_rfl) rfl (by kernel_rfl) fun K hK => ?_
  go_simp
  refine hK.out _ _ (fun _ => hS4) ?_
  clear hK K
  refine wpAnyK_only (i := 11) (m' := 4095) (by kernel_rfl) rfl (by kernel_rfl) fun K hK => ?_
  have y1 : w4.cell? ⟨P, 3, none⟩ = some b := hS4
  go_simp
  refine hK.out _ _ (fun h => absurd rfl h) ?_
  clear hK K
  refine wpAnyK_done (by kernel_rfl) ?_ _
  have hpq := H.out.pq
  have hqb := H.out.qb
  have hB4 : Below B w2.drew w4 := HK4.out.1
  have HB : Hid (Below P w2 (w4.setCell ⟨P, 3, none⟩ (.slice (some ⟨g1, 0, none⟩) (rs.length + 1) cap1))) := (Below.trans ((Below.refl _ _).drew) (hB4.mono (by omega))).setCell (show P ≤ (⟨P, 3, none⟩ : Addr).block from Nat.le_refl _) _
  have hk5 : ∀ y, y < w2.drew.heap.size → y ≠ P → b.ownBlock ≠ some y → (w4.setCell ⟨P, 3, none⟩ (.slice (some ⟨g1, 0, none⟩) (rs.length + 1) cap1)).heap[y]? = w2.drew.heap[y]? := fun y h1 h2 h3 => by
    rw [Below.heap_setCell _ _ _ _ (by show y ≠ P; exact h2), HK4.out.2 y (Nat.lt_of_lt_of_le h1 hb3.size) h3, hb3.block y h1]
  have hbQ := H.out.bP.2
  have HF : Hid (FdW P Q B pf pt fa ta bg (.slice (some ⟨g1, 0, none⟩) (rs.length + 1) cap1) (rs ++ [bg]) (w4.setCell ⟨P, 3, none⟩ (.slice (some ⟨g1, 0, none⟩) (rs.length + 1) cap1))) := by
    have hkP : Keeps (fun y => y < P) w2.drew (w4.setCell ⟨P, 3, none⟩ (.slice (some ⟨g1, 0, none⟩) (rs.length + 1) cap1)) := fun y hy => HB.out.block y hy
    exact ⟨hpq, hqb, by rw [World.size_setCell]; exact Nat.le_trans H.out.bw hB4.size, q1, owns_on H.out.beg (fun y e => by
      obtain rfl : Q = y := by injection e
      exact hk5 Q hQlt (by omega) hbQ), q2, H.out.fr.on hkP fun _ h => h, H.out.tt.on hkP fun _ h => h⟩
  have hcell : (w4.setCell ⟨P, 3, none⟩ (.slice (some ⟨g1, 0, none⟩) (rs.length + 1) cap1)).cell? ⟨P, 3, none⟩ = some (.slice (some ⟨g1, 0, none⟩) (rs.length + 1) cap1) := heap_cl q1 rfl
  clear q1 q2 y1 z1 hS4 hblk4 O4 HK4 hS3 hP3 hnt hS0 hb3 ho3 hB4 hk5
  generalize w4.setCell ⟨P, 3, none⟩ (.slice (some ⟨g1, 0, none⟩) (rs.length + 1) cap1) = w5 at *
  by_cases h40 : rs.length + 1 ≤ 40
  · have i1 : ((rs.length + 1 : Nat) : Int) ≤ 40 := by omega
    replace h40 : Hid (rs.length < 40) := h40
    generalize (rs.length + 1 : Nat) = l1 at *
    go_wp2
    go_ret
    exact ⟨by rw [decide_eq_true (show rs.length + 1 ≤ 40 from h40.out)]; rfl, HB.out, fun _ => ⟨_, HF.out⟩⟩
  · have i1 : ¬ ((rs.length + 1 : Nat) : Int) ≤ 40 := by omega
    replace h40 : Hid (¬ rs.length < 40) := h40
    generalize (rs.length + 1 : Nat) = l1 at *
    go_wp2
    go_ret
    exact ⟨by rw [decide_eq_false (show ¬ rs.length ≤ 39 by have := h40.out; omega)]; rfl, HB.out, fun h => absurd h (by have := h40.out; omega)⟩
end Go.Proofs.YtgdflaapgfpdeaaDoor

namespace Go.Proofs.YtgdflaapgfpdeaaDoor
open Go.RowKit

/-- The results whose next one is below i. -/
def partP (fa ta : List Nat) (k : Nat) (bg : List Nat) (i : Nat) : List (List Nat) := (List.range i).flatMap fun v => if (nextP fa ta bg).testBit v then allP fa ta k (bg ++ [v]) else []
theorem part_all (fa ta : List Nat) (k : Nat) (bg : List Nat) : allP fa ta (k + 1) bg = partP fa ta k bg ta.length := rfl
theorem part_succ (fa ta : List Nat) (k : Nat) (bg : List Nat) (i : Nat) : partP fa ta k bg (i + 1) = partP fa ta k bg i ++ if (nextP fa ta bg).testBit i then allP fa ta k (bg ++ [i]) else [] := by
  unfold partP
  rw [List.range_succ, List.flatMap_append]
  simp
theorem part_le (fa ta : List Nat) (k : Nat) (bg : List Nat) (i : Nat) : ∀ d, (partP fa ta k bg i).length ≤ (partP fa ta k bg (i + d)).length
  | 0 => Nat.le_refl _
  | d + 1 => by
    rw [← Nat.add_assoc, part_succ, List.length_append]
    exact Nat.le_trans (part_le fa ta k bg i d) (Nat.le_add_right _ _)
theorem FdW.push {P Q B pf pt : Nat} {fa ta bg : List Nat} {b : Value} {rs : List (List Nat)} {w : World} (h : FdW P Q B pf pt fa ta bg b rs w) (i : Nat) (hr : bg.length < fa.length) :
    ∃ w', (Builtin.append_ #[28, 28] 28 #[.slice (some ⟨Q, 0, none⟩) bg.length fa.length, .slice (some ⟨w.heap.size, 0, none⟩) 1 1]).run Tryd.prog (w.alloc (.cells #[.int .i64 (i : Int)] 3)) = .ok (.slice (some ⟨Q, 0, none⟩) (bg.length + 1) fa.length) w' ∧ FdW P Q B pf pt fa ta (bg ++ [i]) b rs w' ∧ Below P w w' := by
  obtain ⟨ti, z, hi, hz, hk, hby, hzs⟩ := Tryd.ty28.info
  have hpq := h.pq
  have hqb := h.qb
  have hbw := h.bw
  have hBa : Below w.heap.size w (w.alloc (.cells #[.int .i64 (i : Int)] 3)) := (Below.refl _ _).alloc (Nat.le_refl _) _
  have ha := h.on hBa
  obtain ⟨w', h1, h2, h3⟩ := run_append_fits (P := Tryd.prog) (w.alloc (.cells #[.int .i64 (i : Int)] 3)) Q 28 28 3 ti 1 Tryd.underlying28 hi hk Q bg.length fa.length (bgC bg) ha.beg ⟨w.heap.size, 0, none⟩ 1 1 [.int .i64 (i : Int)] rfl (World.news_of_block (new_blk _ _)) (fun u hu => by rw [List.mem_singleton.1 hu]; rfl) hr
  refine ⟨w', h1, ?_, ?_⟩
  · have hs : (w.alloc (.cells #[.int .i64 (i : Int)] 3)).heap.size ≤ w'.heap.size := h3.size
    have hne : ∀ y, y < (w.alloc (.cells #[.int .i64 (i : Int)] 3)).heap.size → y ≠ Q → w'.heap[y]? = (w.alloc (.cells #[.int .i64 (i : Int)] 3)).heap[y]? := fun y hy hn => h3.block y hy fun e => hn (by injection e)
    have hkP : Keeps (fun y => y < P) (w.alloc (.cells #[.int .i64 (i : Int)] 3)) w' := fun y hy => hne y (by have : y < P := hy; have := ha.bw; omega) (by have : y < P := hy; omega)
    have hla := lt_heap ha.blk
    have hO := ha.own
    have hO1 : Own ERs 28 B w' (Nwr (fun _ => False) B (w.alloc (.cells #[.int .i64 (i : Int)] 3)) b) b rs := Own.on hO (fun y hy => by
      rcases hy with hy | hy
      · exact hy.elim
      · exact hne y hy.2.1 (by have := hy.1; omega)) fun g e => hne g (hO.lt g e).2 (by have := (hO.lt g e).1; omega)
    refine ⟨hpq, hqb, Nat.le_trans ha.bw hs, (hne P hla (by omega)).trans ha.blk, ?_, Own.up hO1 (fun y hy => hy.imp id fun q => ⟨q.1, Nat.lt_of_lt_of_le q.2.1 hs, q.2.2⟩) (fun y hy e => ?_), ha.fr.on hkP fun _ h => h, ha.tt.on hkP fun _ h => h⟩
    · rw [List.length_append, List.length_singleton, show bgC (bg ++ [i]) = bgC bg ++ [.int .i64 (i : Int)] by simp [bgC]]
      exact h2
    · rcases hy with hy | hy
      · exact hy
      · exact hy.2.2 e
  · exact (hBa.mono (by omega)).grown h3 (by have := ha.bw; omega) fun k e => by
      have : Q = k := by injection e
      omega
theorem FdW.less {P Q B pf pt : Nat} {fa ta bg : List Nat} {v : Nat} {b : Value} {rs : List (List Nat)} {w : World} (h : FdW P Q B pf pt fa ta (bg ++ [v]) b rs w) : FdW P Q B pf pt fa ta bg b rs w := ⟨h.pq, h.qb, h.bw, h.blk, beg_less h.beg, h.own, h.fr, h.tt⟩
theorem wpList_append_wanted {P : Program} {w : World} {ops : Array Oper} {rest : List Oper} {o : Oper} {a : Act} {Q : Exit → Act → World → Prop} (hw : Region.wanted o (yielded ops a.tmps) = true) (s x : Operand) (t tn : TypeId)
    (ho : o.op = .call { callee := .builtin .append, args := #[s, x], argTypes := #[t, tn] }) (vs vx : Value) (hs : a.eval s = vs) (hx : a.eval x = vx)
    (v' : Value) (w' : World) (hr : (Builtin.append_ #[t, tn] o.type #[vs, vx]).run P w = .ok v' w') (h : wpList P ops Q rest (a.put o.dst v') w') : wpList P ops Q (o :: rest) a w :=
  wpList_step fun K hK => by
    rw [if_pos hw]
    exact Lib.wp_append_run w s x t tn ho vs vx hs hx v' w' hr (hK _ _ h)
set_option maxHeartbeats 8000000 in
set_option maxRecDepth 10000 in
theorem find_step {P Q B pf pt : Nat} {fa ta : List Nat} (hf : Lat fa) (ht : Lat ta) (k : Nat) (ih : FindC P Q B pf pt fa ta k) : FindC P Q B pf pt fa ta (k + 1) := by
  intro bg b rs w h hk hv hr
  have hlt : bg.length < fa.length := by omega
  have hfl : fa.length ≤ 40 := hf.few
  have htl : ta.length ≤ 40 := ht.few
  have CS := size_any (w := w) (h.fr.on (S' := fun _ => True) (Keeps.refl _ _) fun _ _ => trivial)
  have CT := size_any (w := w) (h.tt.on (S' := fun _ => True) (Keeps.refl _ _) fun _ _ => trivial)
  have CN := next_any (h.fn hf ht) ((beg_nts h.beg).on (S' := fun _ => True) (Keeps.refl _ _) fun _ _ => trivial) hlt hv
  have c1 : w.cell? ⟨P, 1, none⟩ = some (.pointer (some ⟨pf, 0, none⟩)) := heap_cl h.blk rfl
  have c2 : w.cell? ⟨P, 2, none⟩ = some (.pointer (some ⟨pt, 0, none⟩)) := heap_cl h.blk rfl
  have hne : ((bg.length : Int) == (fa.length : Int)) = false := by simp; omega
  have H : Hid (FdW P Q B pf pt fa ta bg b rs w) := h
  have HNL : Hid (nextP fa ta bg < 18446744073709551616) := nextQ_lt fa ta bg (by omega) _
  have HALL : Hid (∀ i, allP fa ta (k + 1) bg = partP fa ta k bg ta.length ∧ (i ≤ ta.length → (partP fa ta k bg i).length ≤ (allP fa ta (k + 1) bg).length)) := fun i => ⟨rfl, fun hi => by
    have := part_le fa ta k bg i (ta.length - i)
    rwa [Nat.add_sub_cancel' hi] at this⟩
  have HSUC : Hid (∀ i, partP fa ta k bg (i + 1) = partP fa ta k bg i ++ if (nextP fa ta bg).testBit i then allP fa ta k (bg ++ [i]) else []) := part_succ fa ta k bg
  have HP0 : Hid (partP fa ta k bg 0 = []) := rfl
  have HIH : Hid (∀ (i : Nat) (b : Value) (rs2 : List (List Nat)) (w : World), i < ta.length → FdW P Q B pf pt fa ta (bg ++ [i]) b rs2 w → rs2.length ≤ 40 → Calls Tryd.prog 53 #[.pointer (some ⟨P, 0, none⟩), .slice (some ⟨Q, 0, none⟩) (bg.length + 1) fa.length] w fun r w' => r = .returned (.bool (decide (rs2.length + (allP fa ta k (bg ++ [i])).length ≤ 40))) ∧ Hid (Below P w w') ∧ Hid (rs2.length + (allP fa ta k (bg ++ [i])).length ≤ 40 → ∃ b', FdW P Q B pf pt fa ta bg b' (rs2 ++ allP fa ta k (bg ++ [i])) w')) := fun i b2 rs2 w2 hi h2 hr2 => by
    have := ih (bg ++ [i]) b2 rs2 w2 h2 (by simp; omega) (fun v hm => by
      rcases List.mem_append.1 hm with hm | hm
      · exact hv v hm
      · rw [List.mem_singleton.1 hm]; exact hi) hr2
    rw [show (bg ++ [i]).length = bg.length + 1 by simp] at this
    exact this.mono fun r w' ⟨q1, q2, q3⟩ => ⟨q1, q2, fun hq => by
      obtain ⟨b', hb'⟩ := q3.out hq
      exact ⟨b', hb'.less⟩⟩
  have HR : Hid (rs.length ≤ 40) := hr
  have HLT : Hid (bg.length < fa.length) := hlt
  clear h hk hv hf ht ih hr hlt
  generalize partP fa ta k bg = part at *
  generalize allP fa ta (k + 1) bg = all at *
  generalize nextP fa ta bg = mx at *
  go_enter Tryd.func53, Tryd.ntmps53
  go_upto_region 6 with (first
    | (go_at_call 62; (with_reducible refine Calls.mono CN ?_); rintro e' w2 ⟨rfl, hw2⟩; subst hw2)
    | (go_at_call 16; (with_reducible refine Calls.mono CS ?_); rintro e' w3 ⟨rfl, hw3⟩; subst hw3)
    | (go_at_call 16; (with_reducible refine Calls.mono CT ?_); rintro e' w4 ⟨rfl, hw4⟩; subst hw4))
  clear CS CT CN c1 c2 hne
  go_loopw [40] (fun iv wr => ∃ (i : Nat) (b2 : Value), i ≤ ta.length ∧ iv = .int .i64 i ∧ Hid (Below P w4 wr) ∧ Hid (FdW P Q B pf pt fa ta bg b2 (rs ++ part i) wr) ∧ Hid (rs.length + (part i).length ≤ 40)) (fun iv _ => ta.length - (intOf iv).toNat)
  case atStart => exact ⟨0, b, by omega, by go_num, Below.refl _ _, by rw [HP0.out, List.append_nil]; exact H.out, by rw [HP0.out]; exact HR.out⟩
  case round =>
    clear H
    obtain ⟨i, b2, hi, rfl, HB, HF, HL⟩ := hrel
    by_cases hil : i < ta.length
    · have CB := has_any (w := wr) mx i HNL.out (by omega)
      have i1 : (0 : Int) ≤ (i : Int) := by omega
      have i2 : (i : Int) < (ta.length : Int) := by omega
      cases hb : mx.testBit i with
      | true =>
        rw [hb] at CB
        have HS2 : Hid (part (i + 1) = part i ++ allP fa ta k (bg ++ [i])) := by
          have := HSUC.out i
          rw [hb, if_pos rfl] at this
          exact this
        clear hb
        obtain ⟨w5, hap, hF5, hB5⟩ := HF.out.push i HLT.out
        have CI := HIH.out i b2 _ w5 hil hF5 (by rw [List.length_append]; exact HL.out)
        rw [List.length_append] at CI
        have HB5 : Hid (Below P w4 w5) := HB.out.trans hB5
        clear hF5 hB5
        by_cases h40 : rs.length + (part i).length + (allP fa ta k (bg ++ [i])).length ≤ 40
        · rw [decide_eq_true h40] at CI
          replace h40 : Hid (rs.length + (part i).length + (allP fa ta k (bg ++ [i])).length ≤ 40) := h40
          go_wp2_with (first | (go_at_call 27; (with_reducible refine Calls.mono CB ?_); rintro e' w3 ⟨rfl, hw3⟩; subst hw3) | (go_at_call 53; (with_reducible refine Calls.mono CI ?_); rintro e' w6 ⟨rfl, hB6, hF6⟩) | (at_builtin; refine wpList_append_wanted (by rfl) _ _ _ _ rfl _ _ rfl rfl _ _ hap ?_))
          have HF6 : Hid (∃ b', FdW P Q B pf pt fa ta bg b' (rs ++ part (i + 1)) w6) := by
            obtain ⟨b', h⟩ := hF6.out h40.out
            rw [List.append_assoc, ← HS2.out] at h
            exact ⟨b', h⟩
          have HL6 : Hid (rs.length + (part (i + 1)).length ≤ 40) := by
            show _ ≤ _
            rw [HS2.out, List.length_append]
            have := h40.out
            omega
          obtain ⟨b3, HF7⟩ := HF6.out
          replace HF7 : Hid _ := HF7
          go_roundw
          case rel => exact ⟨i + 1, b3, hil, by go_num, HB5.out.trans hB6.out, HF7.out, HL6.out⟩
          case measure => simp [intOf]; omega
        · rw [decide_eq_false h40] at CI
          have HNO : Hid (¬ rs.length + all.length ≤ 40) := fun hq => h40 (by
            have h1 := (HALL.out (i + 1)).2 hil
            rw [HS2.out, List.length_append] at h1
            omega)
          clear h40
          go_wp2_with (first | (go_at_call 27; (with_reducible refine Calls.mono CB ?_); rintro e' w3 ⟨rfl, hw3⟩; subst hw3) | (go_at_call 53; (with_reducible refine Calls.mono CI ?_); rintro e' w6 ⟨rfl, hB6, hF6⟩) | (at_builtin; refine wpList_append_wanted (by rfl) _ _ _ _ rfl _ _ rfl rfl _ _ hap ?_))
          go_ret
          exact ⟨by rw [decide_eq_false HNO.out]; rfl, HB5.out.trans hB6.out, fun hq => absurd hq HNO.out⟩
      | false =>
        rw [hb] at CB
        have HS2 : Hid (part (i + 1) = part i) := by
          have := HSUC.out i
          rw [hb, if_neg (by decide), List.append_nil] at this
          exact this
        clear hb
        go_wp2_with (first | (go_at_call 27; (with_reducible refine Calls.mono CB ?_); rintro e' w3 ⟨rfl, hw3⟩; subst hw3))
        go_roundw
        case rel => exact ⟨i + 1, b2, hil, by go_num, HB.out, by rw [HS2.out]; exact HF.out, by rw [HS2.out]; exact HL.out⟩
        case measure => simp [intOf]; omega
    · obtain rfl : i = ta.length := by omega
      have HA : Hid (all = part ta.length) := (HALL.out 0).1
      go_wp2
      go_ret
      exact ⟨by rw [decide_eq_true (show rs.length + all.length ≤ 40 by rw [HA.out]; exact HL.out)]; rfl, HB.out, fun _ => ⟨b2, by rw [HA.out]; exact HF.out⟩⟩
theorem find_any {P Q B pf pt : Nat} {fa ta : List Nat} (hf : Lat fa) (ht : Lat ta) : ∀ k, FindC P Q B pf pt fa ta k
  | 0 => fun bg b rs w h hk _ hr => by
    have := find_leaf h (by omega) hf.few hr
    rw [show allP fa ta 0 bg = [bg] from rfl, ← show bg.length = fa.length by omega]
    exact this
  | k + 1 => find_step hf ht k (find_any hf ht k)
end Go.Proofs.YtgdflaapgfpdeaaDoor
