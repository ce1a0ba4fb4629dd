/- The law's own small functions: sameTree, of trees that are the same; sameCoverage. -/
import Derived.Test.YtpdmkhnonbbhnaaVh
import Derived.Test.YtpdmkhnonbbhnaaMbx
namespace Go.Proofs.Ytpdmkhnonbbhnaa
open Go.RowKit Go.Maps

theorem Nats.ints {w : World} {S : Nat → Prop} {v : Value} {l : List Nat} (h : Nats w S v l) : Ints w S v (l.map fun (n : Nat) => (n : Int)) := RowP.map (fun (n : Nat) => (n : Int)) (fun _ _ _ h => h) h
theorem nats_same {w : World} {S : Nat → Prop} (v u : Value) (l : List Nat) (hS : ∀ b, S b → b < w.heap.size) (h : Nats w S v l) (h' : Nats w S u l) (hb : l.length < 140737488355328) : Calls Try.prog 16 #[v, u] w fun r w' => r = .returned (.bool true) ∧ Below w.heap.size w w' := by
  refine Calls.mono (ints_same v u _ _ w S hS h.ints h'.ints (by simpa using hb)) ?_
  rintro r w' ⟨rfl, hb⟩
  exact ⟨by simp, hb⟩
/-- All paths of a tree are short. -/
def Short : (f : Nat) → Tr f → Prop
  | 0, _ => True
  | f + 1, t => t.1.2.2.length < 140737488355328 ∧ (∀ c ∈ t.2.1, Short f c.2) ∧ ∀ e ∈ t.2.2, Short f e
def SameC (f : Nat) (t : Tr f) : Prop := ∀ (w : World) (S : Nat → Prop) (x y : Value), (∀ b, S b → b < w.heap.size) → TrV w S f x t → TrV w S f y t → Calls Try.prog 13 #[x, y] w fun r w' => r = .returned (.bool true) ∧ Below w.heap.size w w'
def ElseT (w : World) (S : Nat → Prop) (f : Nat) (g o : Nat) (e : Tr f) : Prop := S g ∧ ∃ v0 v1 v2 v3 v4, w.cell? ⟨g, o, none⟩ = some v0 ∧ w.cell? ⟨g, o + 1, none⟩ = some v1 ∧ w.cell? ⟨g, o + 2, none⟩ = some v2 ∧ w.cell? ⟨g, o + 3, none⟩ = some v3 ∧ w.cell? ⟨g, o + 4, none⟩ = some v4 ∧ TrV w S f (.agg #[v0, v1, v2, v3, v4]) e
theorem ElseT.on {w w' : World} {S : Nat → Prop} {f g o : Nat} {e : Tr f} (h : ElseT w S f g o e) (hb : Keeps S w w') : ElseT w' S f g o e := by
  obtain ⟨k0, v0, v1, v2, v3, v4, c0, c1, c2, c3, c4, ht⟩ := h
  exact ⟨k0, v0, v1, v2, v3, v4, (hb.cell (p := ⟨g, o, none⟩) k0).trans c0, (hb.cell (p := ⟨g, o + 1, none⟩) k0).trans c1, (hb.cell (p := ⟨g, o + 2, none⟩) k0).trans c2, (hb.cell (p := ⟨g, o + 3, none⟩) k0).trans c3, (hb.cell (p := ⟨g, o + 4, none⟩) k0).trans c4, TrV.below hb (fun _ h => h) f _ _ ht⟩
set_option maxHeartbeats 8000000 in
set_option maxRecDepth 10000 in
theorem same_step {f : Nat} (t : Tr (f + 1)) (hSm : t.2.1.length ≤ 200 ∧ t.2.2.length ≤ 1) (hpl : t.1.2.2.length < 140737488355328) (hC : ∀ c, (c ∈ t.2.1.map (·.2) ∨ c ∈ t.2.2) → SameC f c) : SameC (f + 1) t := by
  intro w S x y hS hx hy
  obtain ⟨pa, pc, ca, cc, ea, ec, rfl, hN, hCs, hEs⟩ := hx
  obtain ⟨pa2, pc2, ca2, cc2, ea2, ec2, rfl, hN2, hCs2, hEs2⟩ := hy
  obtain ⟨_, _, he1, hrow1⟩ := RowP.open hCs
  injection he1 with he1 hx1 hcc1
  subst he1 hcc1
  obtain ⟨_, _, he2, hrow2⟩ := RowP.open hEs
  injection he2 with he2 hx2 hcc2
  subst he2 hcc2
  obtain ⟨_, _, he3, hrow3⟩ := RowP.open hCs2
  injection he3 with he3 hx3 hcc3
  subst he3 hcc3
  obtain ⟨_, _, he4, hrow4⟩ := RowP.open hEs2
  injection he4 with he4 hx4 hcc4
  subst he4 hcc4
  clear hx1 hx2 hx3 hx4
  have HC1 : Hid (∀ i (h : i < t.2.1.length), SameC f t.2.1[i].2) := fun i h => hC _ (.inl (List.mem_map.2 ⟨_, List.getElem_mem h, rfl⟩))
  have HC2 : Hid (∀ i (h : i < t.2.2.length), SameC f t.2.2[i]) := fun i h => hC _ (.inr (List.getElem_mem h))
  obtain ⟨hs1, hs2⟩ := hSm
  generalize t.1.1 = t0 at *
  generalize t.1.2.1 = t1 at *
  generalize t.1.2.2 = path at *
  clear hCs hEs hCs2 hEs2 hC
  generalize t.2.1 = l1 at *
  generalize t.2.2 = l2 at *
  have HR1 : Hid (l1 ≠ [] → (∃ g o, ca = some ⟨g, o, none⟩ ∧ l1.length ≤ cc ∧ ∀ j (h : j < l1.length), CaseT w S f g (o + j * 7) l1[j]) ∧ ∃ g o, ca2 = some ⟨g, o, none⟩ ∧ l1.length ≤ cc2 ∧ ∀ j (h : j < l1.length), CaseT w S f g (o + j * 7) l1[j]) := fun h => ⟨hrow1 h, hrow3 h⟩
  have HR2 : Hid (l2 ≠ [] → (∃ g o, ea = some ⟨g, o, none⟩ ∧ l2.length ≤ ec ∧ ∀ j (h : j < l2.length), ElseT w S f g (o + j * 5) l2[j]) ∧ ∃ g o, ea2 = some ⟨g, o, none⟩ ∧ l2.length ≤ ec2 ∧ ∀ j (h : j < l2.length), ElseT w S f g (o + j * 5) l2[j]) := fun h => ⟨hrow2 h, hrow4 h⟩
  have HS : Hid (∀ b, S b → b < w.heap.size) := hS
  have hW : ∃ W, W = (w.alloc (Obj.cells #[.int .i64 t0, .int .i64 t1, .slice pa path.length pc, .slice ca l1.length cc, .slice ea l2.length ec] 32)).alloc (Obj.cells #[.int .i64 t0, .int .i64 t1, .slice pa2 path.length pc2, .slice ca2 l1.length cc2, .slice ea2 l2.length ec2] 32) ∧ Below w.heap.size w W ∧ W.heap.size = w.heap.size + 2 ∧ W.heap[w.heap.size]? = some (.cells #[.int .i64 t0, .int .i64 t1, .slice pa path.length pc, .slice ca l1.length cc, .slice ea l2.length ec] 32 (0, 0)) ∧ W.heap[w.heap.size + 1]? = some (.cells #[.int .i64 t0, .int .i64 t1, .slice pa2 path.length pc2, .slice ca2 l1.length cc2, .slice ea2 l2.length ec2] 32 (0, 0)) := by
    refine ⟨_, rfl, ((Below.refl _ _).alloc (Nat.le_refl _) _).alloc (by simp) _, by simp, ?_, ?_⟩
    · rw [Below.heap_alloc _ _ _ (by simp)]
      exact new_block w _
    · have := new_block (w.alloc (Obj.cells #[.int .i64 t0, .int .i64 t1, .slice pa path.length pc, .slice ca l1.length cc, .slice ea l2.length ec] 32)) (Obj.cells #[.int .i64 t0, .int .i64 t1, .slice pa2 path.length pc2, .slice ca2 l1.length cc2, .slice ea2 l2.length ec2] 32)
      simpa using this
  obtain ⟨W, hW, hbW, hsW, hA, hB⟩ := hW
  have CI := nats_same (w := W) (S := S) _ _ path (fun b hb => by have := hS b hb; omega) (hN.on (Keeps.of hbW hS)) (hN2.on (Keeps.of hbW hS)) hpl
  generalize path.length = pl at *
  have HW : Hid (Below w.heap.size w W ∧ W.heap.size = w.heap.size + 2 ∧ W.heap[w.heap.size]? = some (.cells #[.int .i64 t0, .int .i64 t1, .slice pa pl pc, .slice ca l1.length cc, .slice ea l2.length ec] 32 (0, 0)) ∧ W.heap[w.heap.size + 1]? = some (.cells #[.int .i64 t0, .int .i64 t1, .slice pa2 pl pc2, .slice ca2 l1.length cc2, .slice ea2 l2.length ec2] 32 (0, 0))) := ⟨hbW, hsW, hA, hB⟩
  have HCEL : Hid (∀ V, Below W.heap.size W V → (V.cell? ⟨w.heap.size, 0, none⟩ = some (.int .i64 t0) ∧ V.cell? ⟨w.heap.size, 1, none⟩ = some (.int .i64 t1) ∧ V.cell? ⟨w.heap.size, 3, none⟩ = some (.slice ca l1.length cc) ∧ V.cell? ⟨w.heap.size, 4, none⟩ = some (.slice ea l2.length ec)) ∧ V.cell? ⟨w.heap.size + 1, 0, none⟩ = some (.int .i64 t0) ∧ V.cell? ⟨w.heap.size + 1, 1, none⟩ = some (.int .i64 t1) ∧ V.cell? ⟨w.heap.size + 1, 3, none⟩ = some (.slice ca2 l1.length cc2) ∧ V.cell? ⟨w.heap.size + 1, 4, none⟩ = some (.slice ea2 l2.length ec2)) := fun V hV => by
    have e1 := (hV.block w.heap.size (by omega)).trans hA
    have e2 := (hV.block (w.heap.size + 1) (by omega)).trans hB
    exact ⟨⟨heap_cell' e1 rfl, heap_cell' e1 rfl, heap_cell' e1 rfl, heap_cell' e1 rfl⟩, heap_cell' e2 rfl, heap_cell' e2 rfl, heap_cell' e2 rfl, heap_cell' e2 rfl⟩
  have a2 := heap_cell' (i := 2) hA rfl
  have b2 := heap_cell' (i := 2) hB rfl
  clear hrow1 hrow2 hrow3 hrow4 hS hbW hsW hA hB hN hN2
  go_enter Try.func13, Try.ntmps13
  go_upto_region 1 with fail
  rw [← hW]
  clear hW
  go_upto_region 2 with (first | (go_at_call 16; (with_reducible refine Calls.mono CI ?_); rintro e' w2 ⟨rfl, hb2⟩))
  obtain ⟨⟨p0, p1, p3, p4⟩, q0, q1, q3, q4⟩ := HCEL.out w2 hb2
  have HB2 : Hid (Below W.heap.size W w2) := hb2
  clear hb2 a2 b2 CI
  go_wp2
  clear p0 p1 p3 p4 q0 q1 q3 q4
  go_loopw [6] (fun iv wr => ∃ i : Nat, i ≤ l1.length ∧ iv = .int .i64 i ∧ Hid (Below W.heap.size W wr)) (fun iv _ => l1.length - (intOf iv).toNat)
  case atStart => exact ⟨0, by omega, by go_num, HB2.out⟩
  case round =>
    obtain ⟨i, hi, rfl, HT⟩ := hrel
    have HBw : Hid (Below w.heap.size w wr) := HW.out.1.trans (HT.out.mono (by have := HW.out.2.1; omega))
    obtain ⟨⟨p0, p1, p3, p4⟩, q0, q1, q3, q4⟩ := HCEL.out wr HT.out
    by_cases hil : i < l1.length
    · obtain ⟨⟨g, o, rfl, hc, hr⟩, g2, o2, rfl, hc2, hr2⟩ := HR1.out (fun e => by rw [e] at hil; simp at hil)
      have hk := Keeps.of HBw.out HS.out
      have hcs1 := (hr i hil).on hk
      have hcs2 := (hr2 i hil).on hk
      obtain ⟨s0, r0, r1, hnl, v0, v1, v2, v3, v4, r2, r3, r4, r5, r6, ht⟩ := hcs1
      obtain ⟨a, b, pa', pl', pc', ca', cl', cc', ea', el', ec', rfl, rfl, rfl, rfl, rfl⟩ := ht.vals
      obtain ⟨s0', m0, m1, _, v0, v1, v2, v3, v4, m2, m3, m4, m5, m6, ht2⟩ := hcs2
      obtain ⟨a', b', pa'', pl'', pc'', ca'', cl'', cc'', ea'', el'', ec'', rfl, rfl, rfl, rfl, rfl⟩ := ht2.vals
      have hg2 : g2 < wr.heap.size := by have := HS.out _ s0'; have := HBw.out.size; omega
      have hW1 : ∃ W1, W1 = wr.alloc (Obj.cells #[.string ⟨l1[i].1.1.toArray⟩, .int .i64 l1[i].1.2, .int .i64 a, .int .i64 b, .slice pa' pl' pc', .slice ca' cl' cc', .slice ea' el' ec'] 53) ∧ Below wr.heap.size wr W1 ∧ W1.heap.size = wr.heap.size + 1 ∧ W1.heap[wr.heap.size]? = some (.cells #[.string ⟨l1[i].1.1.toArray⟩, .int .i64 l1[i].1.2, .int .i64 a, .int .i64 b, .slice pa' pl' pc', .slice ca' cl' cc', .slice ea' el' ec'] 53 (0, 0)) := ⟨_, rfl, (Below.refl _ _).alloc (Nat.le_refl _) _, by simp, new_block' wr _⟩
      obtain ⟨W1, hW1, hb1, hs1, hn1⟩ := hW1
      have hW2 : ∃ W2, W2 = W1.alloc (Obj.cells #[.string ⟨l1[i].1.1.toArray⟩, .int .i64 l1[i].1.2, .int .i64 a', .int .i64 b', .slice pa'' pl'' pc'', .slice ca'' cl'' cc'', .slice ea'' el'' ec''] 53) ∧ Below W1.heap.size W1 W2 ∧ W2.heap.size = wr.heap.size + 2 ∧ W2.heap[wr.heap.size + 1]? = some (.cells #[.string ⟨l1[i].1.1.toArray⟩, .int .i64 l1[i].1.2, .int .i64 a', .int .i64 b', .slice pa'' pl'' pc'', .slice ca'' cl'' cc'', .slice ea'' el'' ec''] 53 (0, 0)) := ⟨_, rfl, (Below.refl _ _).alloc (Nat.le_refl _) _, by simp [hs1], by have := new_block' W1 (Obj.cells #[.string ⟨l1[i].1.1.toArray⟩, .int .i64 l1[i].1.2, .int .i64 a', .int .i64 b', .slice pa'' pl'' pc'', .slice ca'' cl'' cc'', .slice ea'' el'' ec''] 53); rwa [hs1] at this⟩
      obtain ⟨W2, hW2, hb2, hs2, hn2⟩ := hW2
      have hn1' := (hb2.block _ (by omega)).trans hn1
      have hbr2 : Below wr.heap.size wr W2 := hb1.trans (hb2.mono (by omega))
      have hk2 : Keeps S w W2 := hk.trans (Keeps.of hbr2 fun y hy => by have := HS.out y hy; have := HBw.out.size; omega)
      have hkr : Keeps S wr W2 := Keeps.of hbr2 fun y hy => by have := HS.out y hy; have := HBw.out.size; omega
      have CN := HC1.out i hil W2 S _ _ (fun y hy => by have := HS.out y hy; have := HBw.out.size; omega) (TrV.below hkr (fun _ h => h) f _ _ ht) (TrV.below hkr (fun _ h => h) f _ _ ht2)
      have n0 := (hb1.cell (p := ⟨w.heap.size + 1, 3, none⟩) (by have := HW.out.2.1; have := HT.out.size; show w.heap.size + 1 < _; omega)).trans q3
      have m0 := (hb1.cell (p := ⟨g2, o2 + i * 7, none⟩) hg2).trans m0
      have m1 := (hb1.cell (p := ⟨g2, o2 + i * 7 + 1, none⟩) hg2).trans m1
      have m2 := (hb1.cell (p := ⟨g2, o2 + i * 7 + 2, none⟩) hg2).trans m2
      have m3 := (hb1.cell (p := ⟨g2, o2 + i * 7 + 3, none⟩) hg2).trans m3
      have m4 := (hb1.cell (p := ⟨g2, o2 + i * 7 + 4, none⟩) hg2).trans m4
      have m5 := (hb1.cell (p := ⟨g2, o2 + i * 7 + 5, none⟩) hg2).trans m5
      have m6 := (hb1.cell (p := ⟨g2, o2 + i * 7 + 6, none⟩) hg2).trans m6
      have x2 := heap_cell' (i := 2) hn1' rfl
      have x3 := heap_cell' (i := 3) hn1' rfl
      have x4 := heap_cell' (i := 4) hn1' rfl
      have x5 := heap_cell' (i := 5) hn1' rfl
      have x6 := heap_cell' (i := 6) hn1' rfl
      have y2 := heap_cell' (i := 2) hn2 rfl
      have y3 := heap_cell' (i := 3) hn2 rfl
      have y4 := heap_cell' (i := 4) hn2 rfl
      have y5 := heap_cell' (i := 5) hn2 rfl
      have y6 := heap_cell' (i := 6) hn2 rfl
      have HN : Hid (∀ V, Below W2.heap.size W2 V → (V.cell? ⟨wr.heap.size, 0, none⟩ = some (.string ⟨l1[i].1.1.toArray⟩) ∧ V.cell? ⟨wr.heap.size, 1, none⟩ = some (.int .i64 l1[i].1.2)) ∧ V.cell? ⟨wr.heap.size + 1, 0, none⟩ = some (.string ⟨l1[i].1.1.toArray⟩) ∧ V.cell? ⟨wr.heap.size + 1, 1, none⟩ = some (.int .i64 l1[i].1.2)) := fun V hV => by
        have e1 := (hV.block wr.heap.size (by omega)).trans hn1'
        have e2 := (hV.block (wr.heap.size + 1) (by omega)).trans hn2
        exact ⟨⟨heap_cell' e1 rfl, heap_cell' e1 rfl⟩, heap_cell' e2 rfl, heap_cell' e2 rfl⟩
      have HBB : Hid (Below W.heap.size W W2) := HT.out.trans (hbr2.mono HT.out.size)
      have i1 : (0 : Int) ≤ (i : Int) := by omega
      have i2 : (i : Int) < (l1.length : Int) := by omega
      have HsW : Hid (W1.heap.size = wr.heap.size + 1) := hs1
      clear hk hk2 hkr hr hr2 ht ht2 hb1 hb2 hs2 hn1 hn2 hn1' hbr2 hnl hg2 q0 q1 p0 p1 p4 q4
      generalize l1[i].1.1 = c0 at *
      generalize l1[i].1.2 = c1 at *
      go_upto_region 8 with fail
      rw [← hW1]
      clear hW1 r0 r1 r2 r3 r4 r5 r6 p3 q3
      go_upto_region 9 with fail
      rw [← hW2]
      clear hW2 m0 m1 m2 m3 m4 m5 m6 n0
      go_upto_region 10 with (first | (go_at_call 13; (with_reducible refine Calls.mono CN ?_); rintro e' w3 ⟨rfl, hb3⟩))
      obtain ⟨⟨z0, z1⟩, z2, z3⟩ := HN.out w3 hb3
      clear x2 x3 x4 x5 x6 y2 y3 y4 y5 y6
      go_wp2
      exact ⟨⟨i + 1, hil, by go_num, HBB.out.trans (hb3.mono HBB.out.size)⟩, by simp [intOf]; omega⟩
    · obtain rfl : i = l1.length := by omega
      clear HR1 HC1 hi hil
      generalize l1.length = n1 at *
      have HBT : Hid (Below W.heap.size W wr) := HT
      go_wp2
      clear p0 p1 p3 p4 q0 q1 q3 q4 HT HBw
      go_loopw [10] (fun iv wr => ∃ i : Nat, i ≤ l2.length ∧ iv = .int .i64 i ∧ Hid (Below W.heap.size W wr)) (fun iv _ => l2.length - (intOf iv).toNat)
      case atStart => exact ⟨0, by omega, by go_num, HBT.out⟩
      case round =>
        obtain ⟨i, hi, rfl, HT⟩ := hrel
        have HBw : Hid (Below w.heap.size w wr) := HW.out.1.trans (HT.out.mono (by have := HW.out.2.1; omega))
        obtain ⟨⟨p0, p1, p3, p4⟩, q0, q1, q3, q4⟩ := HCEL.out wr HT.out
        clear p0 p1 p3 q0 q1 q3
        by_cases hil : i < l2.length
        · obtain ⟨⟨g, o, rfl, hc, hr⟩, g2, o2, rfl, hc2, hr2⟩ := HR2.out (fun e => by rw [e] at hil; simp at hil)
          have hk := Keeps.of HBw.out HS.out
          have hcs1 := (hr i hil).on hk
          have hcs2 := (hr2 i hil).on hk
          obtain ⟨s0, v0, v1, v2, v3, v4, r0, r1, r2, r3, r4, ht⟩ := hcs1
          obtain ⟨a, b, pa', pl', pc', ca', cl', cc', ea', el', ec', rfl, rfl, rfl, rfl, rfl⟩ := ht.vals
          obtain ⟨s0', v0, v1, v2, v3, v4, m0, m1, m2, m3, m4, ht2⟩ := hcs2
          obtain ⟨a', b', pa'', pl'', pc'', ca'', cl'', cc'', ea'', el'', ec'', rfl, rfl, rfl, rfl, rfl⟩ := ht2.vals
          have hkd : Keeps S wr wr.drew := Keeps.of (B := wr.heap.size) (Below.refl _ _).drew (fun y hy => by have := HS.out y hy; have := HBw.out.size; omega)
          have CN := HC2.out i hil wr.drew S _ _ (fun y hy => by have := HS.out y hy; have := HBw.out.size; simp; omega) (TrV.below hkd (fun _ h => h) f _ _ ht) (TrV.below hkd (fun _ h => h) f _ _ ht2)
          have HPC : Hid (∀ V, Below wr.heap.size wr V → (V.cell? ⟨w.heap.size, 4, none⟩ = some (.slice (some ⟨g, o, none⟩) l2.length ec) ∧ V.cell? ⟨w.heap.size + 1, 4, none⟩ = some (.slice (some ⟨g2, o2, none⟩) l2.length ec2)) ∧ (V.cell? ⟨g, o + i * 5, none⟩ = some (.int .i64 a) ∧ V.cell? ⟨g, o + i * 5 + 1, none⟩ = some (.int .i64 b) ∧ V.cell? ⟨g, o + i * 5 + 2, none⟩ = some (.slice pa' pl' pc') ∧ V.cell? ⟨g, o + i * 5 + 3, none⟩ = some (.slice ca' cl' cc') ∧ V.cell? ⟨g, o + i * 5 + 4, none⟩ = some (.slice ea' el' ec')) ∧ V.cell? ⟨g2, o2 + i * 5, none⟩ = some (.int .i64 a') ∧ V.cell? ⟨g2, o2 + i * 5 + 1, none⟩ = some (.int .i64 b') ∧ V.cell? ⟨g2, o2 + i * 5 + 2, none⟩ = some (.slice pa'' pl'' pc'') ∧ V.cell? ⟨g2, o2 + i * 5 + 3, none⟩ = some (.slice ca'' cl'' cc'') ∧ V.cell? ⟨g2, o2 + i * 5 + 4, none⟩ = some (.slice ea'' el'' ec'')) := fun V hV => by
            have hg : g < wr.heap.size := by have := HS.out _ s0; have := HBw.out.size; omega
            have hg2 : g2 < wr.heap.size := by have := HS.out _ s0'; have := HBw.out.size; omega
            have hz : w.heap.size + 1 < wr.heap.size := by have := HW.out.2.1; have := HT.out.size; omega
            exact ⟨⟨(hV.cell (p := ⟨w.heap.size, 4, none⟩) (by show w.heap.size < _; omega)).trans p4, (hV.cell (p := ⟨w.heap.size + 1, 4, none⟩) hz).trans q4⟩, ⟨(hV.cell (p := ⟨g, o + i * 5, none⟩) hg).trans r0, (hV.cell (p := ⟨g, o + i * 5 + 1, none⟩) hg).trans r1, (hV.cell (p := ⟨g, o + i * 5 + 2, none⟩) hg).trans r2, (hV.cell (p := ⟨g, o + i * 5 + 3, none⟩) hg).trans r3, (hV.cell (p := ⟨g, o + i * 5 + 4, none⟩) hg).trans r4⟩, (hV.cell (p := ⟨g2, o2 + i * 5, none⟩) hg2).trans m0, (hV.cell (p := ⟨g2, o2 + i * 5 + 1, none⟩) hg2).trans m1, (hV.cell (p := ⟨g2, o2 + i * 5 + 2, none⟩) hg2).trans m2, (hV.cell (p := ⟨g2, o2 + i * 5 + 3, none⟩) hg2).trans m3, (hV.cell (p := ⟨g2, o2 + i * 5 + 4, none⟩) hg2).trans m4⟩
          have i1 : (0 : Int) ≤ (i : Int) := by omega
          have i2 : (i : Int) < (l2.length : Int) := by omega
          clear hk hkd hr hr2 ht ht2 r0 r1 r2 r3 r4 m0 m1 m2 m3 m4 q4
          go_upto_region 15 with fail
          have hS2 := HPC.out wr.drew (Below.refl _ _).drew
          clear p4
          go_region_held3 (fun V => (V.cell? ⟨w.heap.size, 4, none⟩ = some (.slice (some ⟨g, o, none⟩) l2.length ec) ∧ V.cell? ⟨w.heap.size + 1, 4, none⟩ = some (.slice (some ⟨g2, o2, none⟩) l2.length ec2)) ∧ (V.cell? ⟨g, o + i * 5, none⟩ = some (.int .i64 a) ∧ V.cell? ⟨g, o + i * 5 + 1, none⟩ = some (.int .i64 b) ∧ V.cell? ⟨g, o + i * 5 + 2, none⟩ = some (.slice pa' pl' pc') ∧ V.cell? ⟨g, o + i * 5 + 3, none⟩ = some (.slice ca' cl' cc') ∧ V.cell? ⟨g, o + i * 5 + 4, none⟩ = some (.slice ea' el' ec')) ∧ V.cell? ⟨g2, o2 + i * 5, none⟩ = some (.int .i64 a') ∧ V.cell? ⟨g2, o2 + i * 5 + 1, none⟩ = some (.int .i64 b') ∧ V.cell? ⟨g2, o2 + i * 5 + 2, none⟩ = some (.slice pa'' pl'' pc'') ∧ V.cell? ⟨g2, o2 + i * 5 + 3, none⟩ = some (.slice ca'' cl'' cc'') ∧ V.cell? ⟨g2, o2 + i * 5 + 4, none⟩ = some (.slice ea'' el'' ec''))
            (first | (with_reducible exact hS2) | (with_reducible exact hS3))
            (first
            | (go_at_call 13; (with_reducible refine Calls.mono CN ?_); rintro e' w3 ⟨rfl, hb3⟩; have hS3 := HPC.out w3 ⟨hb3.os, hb3.tape, hb3.output, hb3.size, hb3.block⟩))
          have HB3 : Hid (Below wr.heap.size wr w3) := ⟨hb3.os, hb3.tape, hb3.output, hb3.size, hb3.block⟩
          clear hb3 hS2 hS3 CN HPC
          go_wp2
          exact ⟨⟨i + 1, hil, by go_num, HT.out.trans (HB3.out.mono HT.out.size)⟩, by simp [intOf]; omega⟩
        · obtain rfl : i = l2.length := by omega
          go_wp2
          refine bodyPost_ret (v := .bool true) (by simp [results, Try.results13, go_sem]) rfl ?_
          exact ⟨rfl, HBw.out⟩
theorem same_any : ∀ (f : Nat) (t : Tr f), Sm f t → Short f t → SameC f t
  | 0, t, _, _ => by
    intro w S x y hS hx hy
    have h1 : TrV w S 1 x (trZero 1) := by
      have : x = _ := hx
      rw [this]
      exact trZero_at w S 1
    have h2 : TrV w S 1 y (trZero 1) := by
      have : y = _ := hy
      rw [this]
      exact trZero_at w S 1
    exact same_step (f := 0) (trZero 1) ⟨by simp [trZero], by simp [trZero]⟩ (by simp [trZero]) (fun c h => by simp [trZero] at h) w S x y hS h1 h2
  | f + 1, t, hs, ht => same_step t ⟨hs.1, hs.2.1⟩ ht.1 fun c hc => by
    rcases hc with hc | hc
    · obtain ⟨d, hd, rfl⟩ := List.mem_map.1 hc
      exact same_any f _ (hs.2.2.1 d hd) (ht.2.1 d hd)
    · exact same_any f _ (hs.2.2.2 c hc) (ht.2.2 c hc)
set_option maxHeartbeats 8000000 in
set_option maxRecDepth 10000 in
/-- sameCoverage, of coverages that are the same. -/
theorem cov_same {w : World} {S : Nat → Prop} (D : Nat) (b : Bool) (l : List Nat) (ps : List Pt) (a1 a2 a3 a4 : Option Addr) (c1 c2 c3 c4 : Nat) (hS : ∀ y, S y → y < w.heap.size) (hl : l.length < 140737488355328) (hps : ps.length < 140737488355328) (hD : ∀ p ∈ ps, p.1 < D) (h1 : Nats w S (.slice a1 l.length c1) l) (h2 : Nats w S (.slice a2 l.length c2) l) (h3 : Pats w S (.slice a3 ps.length c3) ps) (h4 : Pats w S (.slice a4 ps.length c4) ps) :
    Calls Try.prog 14 #[.agg #[.bool b, .slice a1 l.length c1, .slice a3 ps.length c3], .agg #[.bool b, .slice a2 l.length c2, .slice a4 ps.length c4]] w fun r w' => r = .returned (.bool true) ∧ Below w.heap.size w w' := by
  have hW : ∃ W, W = (w.alloc (Obj.cells #[.bool b, .slice a1 l.length c1, .slice a3 ps.length c3] 34)).alloc (Obj.cells #[.bool b, .slice a2 l.length c2, .slice a4 ps.length c4] 34) ∧ Below w.heap.size w W ∧ W.heap.size = w.heap.size + 2 ∧ W.heap[w.heap.size]? = some (.cells #[.bool b, .slice a1 l.length c1, .slice a3 ps.length c3] 34 (0, 0)) ∧ W.heap[w.heap.size + 1]? = some (.cells #[.bool b, .slice a2 l.length c2, .slice a4 ps.length c4] 34 (0, 0)) := by
    refine ⟨_, rfl, ((Below.refl _ _).alloc (Nat.le_refl _) _).alloc (by simp) _, by simp, ?_, ?_⟩
    · rw [Below.heap_alloc _ _ _ (by simp)]
      exact new_block w _
    · have := new_block (w.alloc (Obj.cells #[.bool b, .slice a1 l.length c1, .slice a3 ps.length c3] 34)) (Obj.cells #[.bool b, .slice a2 l.length c2, .slice a4 ps.length c4] 34)
      simpa using this
  obtain ⟨W, hW, hbW, hsW, hA, hB⟩ := hW
  have CI := nats_same (w := W) (S := S) _ _ l (fun y hy => by have := hS y hy; omega) (h1.on (Keeps.of hbW hS)) (h2.on (Keeps.of hbW hS)) hl
  have HP : Hid (∀ V, Below W.heap.size W V → (Calls Try.prog 28 #[.slice a3 ps.length c3, .slice a4 ps.length c4] V fun r w' => r = .returned (.bool true) ∧ Below V.heap.size V w') ∧ Below w.heap.size w V ∧ w.heap.size + 1 < V.heap.size ∧ ∀ V', Below W.heap.size W V' → (V'.cell? ⟨w.heap.size, 0, none⟩ = some (.bool b) ∧ V'.cell? ⟨w.heap.size, 2, none⟩ = some (.slice a3 ps.length c3)) ∧ V'.cell? ⟨w.heap.size + 1, 0, none⟩ = some (.bool b) ∧ V'.cell? ⟨w.heap.size + 1, 2, none⟩ = some (.slice a4 ps.length c4)) := fun V hV => by
    have hbV := hbW.trans (hV.mono (by omega))
    have hz := hV.size
    refine ⟨pats_same D _ _ ps V S hD (fun y hy => by have := hS y hy; omega) hps (h3.on (Keeps.of hbV hS)) (h4.on (Keeps.of hbV hS)), hbV, by omega, fun V' hV' => ?_⟩
    have e1 := (hV'.block w.heap.size (by omega)).trans hA
    have e2 := (hV'.block (w.heap.size + 1) (by omega)).trans hB
    exact ⟨⟨heap_cell' e1 rfl, heap_cell' e1 rfl⟩, heap_cell' e2 rfl, heap_cell' e2 rfl⟩
  have x1 := heap_cell' (i := 1) hA rfl
  have y1 := heap_cell' (i := 1) hB rfl
  clear hA hB hbW hsW h1 h2 h3 h4 hS hD
  generalize l.length = n at *
  generalize ps.length = m at *
  go_enter Try.func14, Try.ntmps14
  go_upto_region 1 with fail
  rw [← hW]
  clear hW
  go_upto_region 2 with (first | (go_at_call 16; (with_reducible refine Calls.mono CI ?_); rintro e' w2 ⟨rfl, hb2⟩))
  obtain ⟨CP, hbv, hzv, hcv⟩ := HP.out w2 hb2
  obtain ⟨⟨p0, p2⟩, q0, q2⟩ := hcv w2 hb2
  have HB2 : Hid (Below W.heap.size W w2 ∧ Below w.heap.size w w2) := ⟨hb2, hbv⟩
  clear hb2 hbv hzv hcv x1 y1 CI p0 q0
  go_upto_region 3 with (first | (go_at_call 28; (with_reducible refine Calls.mono CP ?_); rintro e' w3 ⟨rfl, hb3⟩))
  obtain ⟨⟨p0, p2⟩, q0, q2⟩ := (HP.out w2 HB2.out.1).2.2.2 w3 (HB2.out.1.trans (hb3.mono HB2.out.1.size))
  have HB3 : Hid (Below w.heap.size w w3) := HB2.out.2.trans (hb3.mono HB2.out.2.size)
  clear hb3 CP p2 q2 HP HB2
  go_wp2
  refine bodyPost_ret (v := .bool true) (by simp [results, Try.results14, go_sem]) rfl ?_
  exact ⟨rfl, HB3.out⟩
end Go.Proofs.Ytpdmkhnonbbhnaa
