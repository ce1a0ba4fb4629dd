/- A table that was handed in, with what its rows weigh. -/
import Derived.Test.YtlpnegnpejpdkaaGreatDoorVf
import Derived.Test.YtlpnegnpejpdkaaGreatDoorMsx
namespace Go.Proofs.YtlpnegnpejpdkaaGreatDoor
open Go.ChangeShapes Go.WideShapes Go.RowKit Go.ChangeMaps

set_option maxRecDepth 100000

theorem row_room {H : Type} {enc : TypeId × Value → H} {W : World} {t e_ : TypeId} (k bytes : Nat) (ht : Tryz.prog.underlying t = some (.slice e_)) (hk : Tryz.prog.cellsOf e_ = k) (hk0 : 0 < k) (hb : Tryz.prog.bytesOf e_ = bytes) {fuel : Nat} {cs : List Value} {x : DataW H × List MemPlace} (h : DataW.trod enc Tryz.prog W 0 (fun _ => true) true fuel t cs = some x) (hz : ∀ y ∈ x.1.weights Tryz.prog t, y ≤ reachBytes) {ad : Option Addr} {n cap : Nat} (hc : cs = [.slice ad n cap]) : n * bytes ≤ reachBytes := by
  rcases open_elems k ht hk hk0 h with ⟨ad', cap', hcs, _⟩ | ⟨g, o, len, cap', m, es, rest, hcs, h0, hlc, hg, hd, hel, hn, hx⟩
  · rw [hc] at hcs
    have e : n = 0 := by
      simp only [List.cons.injEq, Value.slice.injEq, and_true] at hcs
      exact hcs.2.1
    rw [e, Nat.zero_mul]
    exact Nat.zero_le _
  · rw [hc] at hcs
    have e : n = len := by
      simp only [List.cons.injEq, Value.slice.injEq, and_true] at hcs
      exact hcs.2.1
    rw [e]
    have h1 := hz ((es.length + rest.length) * Tryz.prog.bytesOf e_) (by
      rw [hd]
      unfold DataW.weights
      rw [ht]
      exact List.mem_cons_self)
    rw [hb, hel] at h1
    refine Nat.le_trans (Nat.mul_le_mul_right _ ?_) h1
    omega
theorem open_glbsR {H : Type} {enc : TypeId × Value → H} {W : World} {fuel : Nat} {cs : List Value} {x : DataW H × List MemPlace} (h : DataW.trod enc Tryz.prog W 0 (fun _ => true) true fuel 23 cs = some x) (hz : ∀ y ∈ x.1.weights Tryz.prog 23, y ≤ reachBytes) :
    ∃ ad cap l, cs = [.slice ad l.length cap] ∧ RowE EGlb W (fun y => y < W.heap.size) (fun y => y < W.heap.size) (.slice ad l.length cap) l ∧ l.length < 140737488355328 ∧ ∀ g ∈ l, (∀ x ∈ g.2.2, x.2.1 < 9223372036854775808 ∧ x.2.2 < 9223372036854775808) ∧ g.2.2.length * 24 ≤ reachBytes := by
  obtain ⟨ad, cap, l, h1, h2, h3⟩ := open_row (α := Glb) 3 48 (fun g o x => (g < W.heap.size ∧ ∃ cs, EGlb.C W (fun y => y < W.heap.size) cs x ∧ ∀ j, j < 3 → W.cell? ⟨g, o + j, none⟩ = cs[j]?) ∧ (∀ i ∈ x.2.2, i.2.1 < 9223372036854775808 ∧ i.2.2 < 9223372036854775808) ∧ x.2.2.length * 24 ≤ reachBytes) Tryz.underlying23 Tryz.cellsOf51 (by decide) Tryz.bytesOf51 (by decide) h hz (fun n cs' x' h1 h2 h3 g o hg hc => by
    obtain ⟨xs, m, hm, hx, hlen, hxl, hf⟩ := DataW.trod_struct Tryz.underlying51 h1
    obtain ⟨c0, c1, c2, rfl⟩ := inl3 h3
    obtain ⟨y0, y1, y2, rfl⟩ := inl3 (show xs.length = 3 from hxl)
    have g0 : DataW.trod enc Tryz.prog W 0 (fun _ => true) true m 9 (([c0, c1, c2].drop 0).take (Tryz.prog.cellsOf 9)) = some y0 := hf 0 _ rfl
    have g1 : DataW.trod enc Tryz.prog W 0 (fun _ => true) true m 3 (([c0, c1, c2].drop 1).take (Tryz.prog.cellsOf 3)) = some y1 := hf 1 _ rfl
    have g2 : DataW.trod enc Tryz.prog W 0 (fun _ => true) true m 49 (([c0, c1, c2].drop 2).take (Tryz.prog.cellsOf 49)) = some y2 := hf 2 _ rfl
    rw [Tryz.cellsOf9] at g0
    rw [Tryz.cellsOf3] at g1
    rw [Tryz.cellsOf49] at g2
    have hw : ∀ (j : Nat) (t' : TypeId) (d : DataW H), [9, 3, 49][j]? = some t' → [y0.1, y1.1, y2.1][j]? = some d → ∀ y ∈ d.weights Tryz.prog t', y ≤ reachBytes := by
      intro j t' d h4 h5 y hy
      refine h2 _ ?_
      subst hx
      show y ∈ DataW.weights Tryz.prog 51 (.agg [y0.1, y1.1, y2.1])
      unfold DataW.weights
      rw [Tryz.underlying51]
      exact DataW.weights_mem_each (j := j) (t := t') h4 h5 _ hy
    obtain ⟨s, rfl, hs⟩ := open_text1 g0 (hw 0 9 y0.1 rfl rfl)
    obtain ⟨k1, rfl, _, _⟩ := open_int1 g1
    obtain ⟨a2, cap2, l2, e2, hr, hl, hsm⟩ := open_code g2 (hw 2 49 y2.1 rfl rfl)
    have e2 : c2 = .slice a2 l2.length cap2 := by simpa using e2
    subst e2
    have hrm := row_room 3 24 Tryz.underlying49 Tryz.cellsOf53 (by decide) Tryz.bytesOf53 g2 (hw 2 49 y2.1 rfl rfl) rfl
    exact ⟨(s, k1, l2), ⟨hg, _, ⟨_, rfl, hs, hl, hr⟩, hc⟩, hsm, hrm⟩)
  obtain ⟨h4, h5⟩ := in_each h2
  exact ⟨ad, cap, l, h1, h4, h3, h5⟩
theorem open_tableR {H : Type} {enc : TypeId × Value → H} {W : World} {r : Reach} {b0 : Nat} {v : Value} {d : DataW H} {ps : List MemPlace} (hval : Value.okWide Tryz.prog W r b0 25 v) (h : DataW.Trod enc Tryz.prog W 0 (fun _ => true) true 25 v d ps) (hz : ∀ x ∈ d.weights Tryz.prog 25, x ≤ reachBytes) :
    ∃ sv gv t, v = .agg #[sv, gv] ∧ TabV W (fun y => y < W.heap.size) sv gv t ∧ Small t ∧ Room t := by
  obtain ⟨cs, rfl, _⟩ := okWide_struct Tryz.underlying25 hval
  obtain ⟨fuel, hf⟩ := h
  have hf : DataW.trod enc Tryz.prog W 0 (fun _ => true) true fuel 25 cs.toList = some (d, ps) := hf
  obtain ⟨xs, m, hm, hx, hlen, hxl, hff⟩ := DataW.trod_struct Tryz.underlying25 hf
  obtain ⟨c0, c1, e⟩ := inl2 (show cs.toList.length = 2 by rw [hlen]; kernel_rfl)
  rw [e] at hff
  obtain ⟨y0, y1, rfl⟩ := inl2 (show xs.length = 2 from hxl)
  have g0 : DataW.trod enc Tryz.prog W 0 (fun _ => true) true m 22 (([c0, c1].drop 0).take (Tryz.prog.cellsOf 22)) = some y0 := hff 0 _ rfl
  have g1 : DataW.trod enc Tryz.prog W 0 (fun _ => true) true m 23 (([c0, c1].drop 1).take (Tryz.prog.cellsOf 23)) = some y1 := hff 1 _ rfl
  rw [Tryz.cellsOf22] at g0
  rw [Tryz.cellsOf23] at g1
  have hd : d = .agg [y0.1, y1.1] := congrArg Prod.fst hx
  have hw : ∀ (j : Nat) (t' : TypeId) (d' : DataW H), [22, 23][j]? = some t' → [y0.1, y1.1][j]? = some d' → ∀ y ∈ d'.weights Tryz.prog t', y ≤ reachBytes := by
    intro j t' d' h4 h5 y hy
    refine hz _ ?_
    rw [hd]
    unfold DataW.weights
    rw [Tryz.underlying25]
    exact DataW.weights_mem_each (j := j) (t := t') h4 h5 _ hy
  obtain ⟨a0, k0, l0, e0, r0, n0⟩ := open_shps g0 (hw 0 22 y0.1 rfl rfl)
  obtain ⟨a1, k1, l1, e1, r1, n1, s1⟩ := open_glbsR g1 (hw 1 23 y1.1 rfl rfl)
  have u0 : c0 = .slice a0 l0.length k0 := by simpa using e0
  have u1 : c1 = .slice a1 l1.length k1 := by simpa using e1
  have q0 := row_room 2 24 Tryz.underlying22 Tryz.cellsOf48 (by decide) Tryz.bytesOf48 g0 (hw 0 22 y0.1 rfl rfl) e0
  have q1 := row_room 3 48 Tryz.underlying23 Tryz.cellsOf51 (by decide) Tryz.bytesOf51 g1 (hw 1 23 y1.1 rfl rfl) e1
  clear e0 e1
  subst u0 u1
  refine ⟨_, _, (l0, l1), ?_, ⟨r0, r1, n0, n1⟩, fun g hg => (s1 g hg).1, ⟨by unfold reachBytes at q0; show l0.length ≤ _; omega, by unfold reachBytes at q1; show l1.length ≤ _; omega, fun g hg => by have := (s1 g hg).2; unfold reachBytes at this; omega, fun s hs => ?_, fun g hg => ?_⟩⟩
  rotate_left
  · obtain ⟨_, _, _, hh⟩ := shp_at r0
    obtain ⟨j, hj, rfl⟩ := List.getElem_of_mem hs
    obtain ⟨_, _, _, _, _, _, _, z⟩ := hh j hj
    exact z
  · obtain ⟨_, _, _, hh⟩ := glb_at r1
    obtain ⟨j, hj, rfl⟩ := List.getElem_of_mem hg
    obtain ⟨_, _, _, _, _, _, _, _, _, z, _⟩ := hh j hj
    exact z
  have h3 : cs = cs.toList.toArray := by simp
  rw [h3, e]
end Go.Proofs.YtlpnegnpejpdkaaGreatDoor
