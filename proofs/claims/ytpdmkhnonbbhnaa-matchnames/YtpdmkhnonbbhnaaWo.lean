/- awake: what holds between the operations of its third region, in whatever order they come. -/
import Derived.Test.YtpdmkhnonbbhnaaMtx
import Derived.Test.YtpdmkhnonbbhnaaWn
import Derived.Test.YtpdmkhnonbbhnaaTk
namespace Go.Proofs.Ytpdmkhnonbbhnaa
open Go.RowKit Go.Maps

def awXc (B : Nat) : Array Value := #[.int .i64 4, .string ⟨#[67, 111, 110, 115]⟩, .int .i64 0, .slice (some ⟨B + 1, 0, none⟩) 2 2]
theorem Ans.on {w w' : World} {Z : Nat → Prop} {r : Value} (h : Ans w Z r) (hk : Keeps Z w w') : Ans w' Z r := by
  obtain ⟨pa, pc, gc, oc, cc, ge, oe, ec, ad1, c1, gm, om, cm, h1, ⟨z1, z2, z3⟩, h2, h3, h4, pa2, pc2, ca2, cl2, cc2, ea2, el2, ec2, ⟨h5, h6, h7, h8, h9⟩, h10⟩ := h
  have kc : ∀ o, w'.cell? ⟨gc, o, none⟩ = w.cell? ⟨gc, o, none⟩ := fun o => hk.cell (p := ⟨gc, o, none⟩) z1
  have ke : ∀ o, w'.cell? ⟨ge, o, none⟩ = w.cell? ⟨ge, o, none⟩ := fun o => hk.cell (p := ⟨ge, o, none⟩) z2
  have km : ∀ o, w'.cell? ⟨gm, o, none⟩ = w.cell? ⟨gm, o, none⟩ := fun o => hk.cell (p := ⟨gm, o, none⟩) z3
  exact ⟨pa, pc, gc, oc, cc, ge, oe, ec, ad1, c1, gm, om, cm, h1, ⟨z1, z2, z3⟩, (ke _).trans h2, (km _).trans h3, (kc _).trans h4, pa2, pc2, ca2, cl2, cc2, ea2, el2, ec2, ⟨(kc _).trans h5, (kc _).trans h6, (kc _).trans h7, (kc _).trans h8, (kc _).trans h9⟩, h10.on hk⟩
structure AwS (W : World) (B : Nat) (l : Nat → Bool) (v : Nat → Value) (Z : Nat → Prop) (w : World) : Prop where
  below : Below W.heap.size W w
  zlt : ∀ y, Z y → y < w.heap.size
  f0 : l 0 = true → l 4 = false → ∃ g, v 14 = .slice (some ⟨g, 0, none⟩) 1 1 ∧ Fams w (fun y => y < w.heap.size) (v 14) [listF]
  f1 : l 1 = true → v 15 = .agg (awXc B)
  f2 : l 2 = true → l 4 = false → ∃ g, g < w.heap.size ∧ v 16 = .slice (some ⟨g, 0, none⟩) 1 1 ∧ w.heap[g]? = some (.cells (awXc B) 39 (0, 0))
  f3 : l 3 = true → l 4 = false → RowsAt w (fun y => y < w.heap.size) (v 17) [[awP]]
  f4 : l 4 = true → Ans w Z (v 18)
  g4 : l 4 = true → l 3 = true
  f5 : l 5 = true → l 4 = true ∧ v 13 = v 18
  f6 : l 6 = true → l 4 = true ∧ ∃ y z, v 18 = .tuple #[v 19, y, z]
  f7 : l 7 = true → l 4 = true ∧ ∃ x z, v 18 = .tuple #[x, v 20, z]
  f8 : l 8 = true → l 4 = true ∧ ∃ x y, v 18 = .tuple #[x, y, v 21]
  f9 : l 9 = true → ∃ b c0 c1 c2 c3 c4, v 3 = .pointer (some ⟨b, 0, none⟩) ∧ W.heap.size ≤ b ∧ b < w.heap.size ∧ ¬ Z b ∧ w.heap[b]? = some (.cells #[c0, c1, c2, c3, c4] 32 (0, 0)) ∧ (l 11 = true → v 19 = .agg #[c0, c1, c2, c3, c4])
  f10 : l 10 = true → ∃ b c0 c1 c2, v 4 = .pointer (some ⟨b, 0, none⟩) ∧ W.heap.size ≤ b ∧ b < w.heap.size ∧ ¬ Z b ∧ w.heap[b]? = some (.cells #[c0, c1, c2] 34 (0, 0)) ∧ (l 12 = true → v 20 = .agg #[c0, c1, c2])
  far : ∀ b b', l 9 = true → l 10 = true → v 3 = .pointer (some ⟨b, 0, none⟩) → v 4 = .pointer (some ⟨b', 0, none⟩) → b ≠ b'
  f11 : l 11 = true → l 6 = true ∧ l 9 = true
  f12 : l 12 = true → l 7 = true ∧ l 10 = true
  f13 : l 13 = true → l 8 = true ∧ v 5 = v 21
theorem store3w {w : World} {R : Nat} {c0 c1 c2 : Value} {t : TypeId} (h : w.heap[R]? = some (.cells #[c0, c1, c2] t (0, 0))) (v0 v1 v2 : Value) :
    ∃ U, U = ((w.setCell ⟨R, 0, none⟩ v0).setCell ⟨R, 1, none⟩ v1).setCell ⟨R, 2, none⟩ v2 ∧ U.heap[R]? = some (.cells #[v0, v1, v2] t (0, 0)) ∧ U.heap.size = w.heap.size ∧ (∀ x, x ≠ R → U.heap[x]? = w.heap[x]?) ∧ U.os = w.os ∧ U.tape = w.tape ∧ U.output = w.output := by
  have a0 := setCell_block (i := 0) (v := v0) h
  have a1 := setCell_block (i := 1) (v := v1) a0
  have a2 := setCell_block (i := 2) (v := v2) a1
  have hk := (((Kx.refl R w).setCell 0 v0).setCell 1 v1).setCell 2 v2
  have e : ((#[c0, c1, c2].setIfInBounds 0 v0).setIfInBounds 1 v1).setIfInBounds 2 v2 = #[v0, v1, v2] := rfl
  rw [e] at a2
  refine ⟨_, rfl, a2, by simp [World.setCell], fun x hx => ?_, hk.os, hk.tape, hk.output⟩
  rw [Below.heap_setCell _ _ _ _ hx, Below.heap_setCell _ _ _ _ hx, Below.heap_setCell _ _ _ _ hx]
theorem Ans.tup {w : World} {Z : Nat → Prop} {r : Value} (h : Ans w Z r) : ∃ p0 p1 p2 q0 q1 q2 r0 r1 r2 x0 x1 x2 y0 y1 y2, r = .tuple #[.agg #[.int .i64 3, .int .i64 0, .slice p0 p1 p2, .slice q0 q1 q2, .slice r0 r1 r2], .agg #[.bool false, .slice x0 x1 x2, .slice y0 y1 y2], .int .i64 0] := by
  obtain ⟨pa, pc, gc, oc, cc, ge, oe, ec, ad1, c1, gm, om, cm, rfl, _⟩ := h
  exact ⟨_, _, _, _, _, _, _, _, _, _, _, _, _, _, _, rfl⟩
variable {W : World} {B : Nat} {l : Nat → Bool} {v : Nat → Value} {Z : Nat → Prop} {w w' : World}
theorem AwS.start (W : World) (B : Nat) (v : Nat → Value) : AwS W B (fun _ => false) v (fun _ => False) W :=
  ⟨Below.refl _ _, fun _ h => h.elim, nofun, nofun, nofun, nofun, nofun, nofun, nofun, nofun, nofun, nofun, nofun, nofun, nofun, nofun, nofun, nofun⟩
theorem AwS.start' (W : World) (B : Nat) (v : Nat → Value) : AwS W B (fun _ => false) v (fun _ => False) W.drew :=
  ⟨(Below.refl _ _).drew, fun _ h => h.elim, nofun, nofun, nofun, nofun, nofun, nofun, nofun, nofun, nofun, nofun, nofun, nofun, nofun, nofun, nofun, nofun⟩
/-- Memory that only grows. -/
theorem AwS.on (h : AwS W B l v Z w) (hb : Below w.heap.size w w') : AwS W B l v Z w' where
  below := h.below.trans (hb.mono h.below.size)
  zlt := fun y hy => Nat.lt_of_lt_of_le (h.zlt y hy) hb.size
  f0 := fun a b => by
    obtain ⟨g, h1, h2⟩ := h.f0 a b
    exact ⟨g, h1, (h2.on (Keeps.of hb fun _ h => h)).up fun y hy => Nat.lt_of_lt_of_le hy hb.size⟩
  f1 := h.f1
  f2 := fun a b => by
    obtain ⟨g, h1, h2, h3⟩ := h.f2 a b
    exact ⟨g, Nat.lt_of_lt_of_le h1 hb.size, h2, (hb.block g h1).trans h3⟩
  f3 := fun a b => ((h.f3 a b).on (Keeps.of hb fun _ h => h)).up fun y hy => Nat.lt_of_lt_of_le hy hb.size
  f4 := fun a => (h.f4 a).on (Keeps.of hb h.zlt)
  g4 := h.g4
  f5 := h.f5
  f6 := h.f6
  f7 := h.f7
  f8 := h.f8
  f9 := fun a => by
    obtain ⟨b, c0, c1, c2, c3, c4, h1, h2, h3, h4, h5, h6⟩ := h.f9 a
    exact ⟨b, c0, c1, c2, c3, c4, h1, h2, Nat.lt_of_lt_of_le h3 hb.size, h4, (hb.block b h3).trans h5, h6⟩
  f10 := fun a => by
    obtain ⟨b, c0, c1, c2, h1, h2, h3, h4, h5, h6⟩ := h.f10 a
    exact ⟨b, c0, c1, c2, h1, h2, Nat.lt_of_lt_of_le h3 hb.size, h4, (hb.block b h3).trans h5, h6⟩
  far := h.far
  f11 := h.f11
  f12 := h.f12
  f13 := h.f13
theorem AwS.s0 (h : AwS W B l v Z w) {g : Nat} (hf : Fams w (fun y => y < w.heap.size) (.slice (some ⟨g, 0, none⟩) 1 1) [listF]) : AwS W B (upd l 0 true) (upd v 14 (.slice (some ⟨g, 0, none⟩) 1 1)) Z w :=
  ⟨h.below, h.zlt, fun _ _ => ⟨g, rfl, hf⟩, h.f1, h.f2, h.f3, h.f4, h.g4, h.f5, h.f6, h.f7, h.f8, h.f9, h.f10, h.far, h.f11, h.f12, h.f13⟩
theorem AwS.s1 (h : AwS W B l v Z w) : AwS W B (upd l 1 true) (upd v 15 (.agg (awXc B))) Z w :=
  ⟨h.below, h.zlt, h.f0, fun _ => rfl, h.f2, h.f3, h.f4, h.g4, h.f5, h.f6, h.f7, h.f8, h.f9, h.f10, h.far, h.f11, h.f12, h.f13⟩
theorem AwS.s2 (h : AwS W B l v Z w) {g : Nat} (hg : g < w.heap.size) (hc : w.heap[g]? = some (.cells (awXc B) 39 (0, 0))) : AwS W B (upd l 2 true) (upd v 16 (.slice (some ⟨g, 0, none⟩) 1 1)) Z w :=
  ⟨h.below, h.zlt, h.f0, h.f1, fun _ _ => ⟨g, hg, rfl, hc⟩, h.f3, h.f4, h.g4, h.f5, h.f6, h.f7, h.f8, h.f9, h.f10, h.far, h.f11, h.f12, h.f13⟩
theorem AwS.s3 (h : AwS W B l v Z w) {x : Value} (hr : RowsAt w (fun y => y < w.heap.size) x [[awP]]) : AwS W B (upd l 3 true) (upd v 17 x) Z w :=
  ⟨h.below, h.zlt, h.f0, h.f1, h.f2, fun _ _ => hr, h.f4, fun _ => rfl, h.f5, h.f6, h.f7, h.f8, h.f9, h.f10, h.far, h.f11, h.f12, h.f13⟩
theorem AwS.s4 (h : AwS W B l v Z w) (h4 : l 4 = false) (h3 : l 3 = true) (hb : Below w.heap.size w w') {x : Value} (ha : Ans w' (fun y => w.heap.size ≤ y ∧ y < w'.heap.size) x) : AwS W B (upd l 4 true) (upd v 18 x) (fun y => w.heap.size ≤ y ∧ y < w'.heap.size) w' := by
  have n : ∀ {p : Prop}, l 4 = true → p := fun e => by rw [h4] at e; cases e
  refine ⟨h.below.trans (hb.mono h.below.size), fun _ h => h.2, nofun, h.f1, nofun, nofun, fun _ => ha, fun _ => h3, fun e => n (h.f5 e).1, fun e => n (h.f6 e).1, fun e => n (h.f7 e).1, fun e => n (h.f8 e).1, fun a => ?_, fun a => ?_, h.far, h.f11, h.f12, h.f13⟩
  · obtain ⟨b, c0, c1, c2, c3, c4, h1, h2, h3, _, h5, h6⟩ := h.f9 a
    exact ⟨b, c0, c1, c2, c3, c4, h1, h2, Nat.lt_of_lt_of_le h3 hb.size, fun e => by omega, (hb.block b h3).trans h5, h6⟩
  · obtain ⟨b, c0, c1, c2, h1, h2, h3, _, h5, h6⟩ := h.f10 a
    exact ⟨b, c0, c1, c2, h1, h2, Nat.lt_of_lt_of_le h3 hb.size, fun e => by omega, (hb.block b h3).trans h5, h6⟩
theorem AwS.s5 (h : AwS W B l v Z w) (h4 : l 4 = true) : AwS W B (upd l 5 true) (upd v 13 (v 18)) Z w :=
  ⟨h.below, h.zlt, h.f0, h.f1, h.f2, h.f3, h.f4, h.g4, fun _ => ⟨h4, rfl⟩, h.f6, h.f7, h.f8, h.f9, h.f10, h.far, h.f11, h.f12, h.f13⟩
theorem AwS.s6 (h : AwS W B l v Z w) (h4 : l 4 = true) (h6 : l 6 = false) {x y z : Value} (e : v 18 = .tuple #[x, y, z]) : AwS W B (upd l 6 true) (upd v 19 x) Z w := by
  have n : ∀ {p : Prop}, l 11 = true → p := fun e => by have := (h.f11 e).1; rw [h6] at this; cases this
  refine ⟨h.below, h.zlt, h.f0, h.f1, h.f2, h.f3, h.f4, h.g4, h.f5, fun _ => ⟨h4, y, z, e⟩, h.f7, h.f8, fun a => ?_, h.f10, h.far, fun e => n e, h.f12, h.f13⟩
  obtain ⟨b, c0, c1, c2, c3, c4, h1, h2, h3, h4, h5, _⟩ := h.f9 a
  exact ⟨b, c0, c1, c2, c3, c4, h1, h2, h3, h4, h5, fun e => n e⟩
theorem AwS.s7 (h : AwS W B l v Z w) (h4 : l 4 = true) (h7 : l 7 = false) {x y z : Value} (e : v 18 = .tuple #[x, y, z]) : AwS W B (upd l 7 true) (upd v 20 y) Z w := by
  have n : ∀ {p : Prop}, l 12 = true → p := fun e => by have := (h.f12 e).1; rw [h7] at this; cases this
  refine ⟨h.below, h.zlt, h.f0, h.f1, h.f2, h.f3, h.f4, h.g4, h.f5, h.f6, fun _ => ⟨h4, x, z, e⟩, h.f8, h.f9, fun a => ?_, h.far, h.f11, fun e => n e, h.f13⟩
  obtain ⟨b, c0, c1, c2, h1, h2, h3, h4, h5, _⟩ := h.f10 a
  exact ⟨b, c0, c1, c2, h1, h2, h3, h4, h5, fun e => n e⟩
theorem AwS.s8 (h : AwS W B l v Z w) (h4 : l 4 = true) (h8 : l 8 = false) {x y z : Value} (e : v 18 = .tuple #[x, y, z]) : AwS W B (upd l 8 true) (upd v 21 z) Z w := by
  have n : ∀ {p : Prop}, l 13 = true → p := fun e => by have := (h.f13 e).1; rw [h8] at this; cases this
  exact ⟨h.below, h.zlt, h.f0, h.f1, h.f2, h.f3, h.f4, h.g4, h.f5, h.f6, h.f7, fun _ => ⟨h4, x, y, e⟩, h.f9, h.f10, h.far, h.f11, h.f12, fun e => n e⟩
theorem AwS.s9 (h : AwS W B l v Z w) (h9 : l 9 = false) (c0 c1 c2 c3 c4 : Value) : AwS W B (upd l 9 true) (upd v 3 (.pointer (some ⟨w.heap.size, 0, none⟩))) Z (w.alloc (.cells #[c0, c1, c2, c3, c4] 32 (0, 0))) := by
  have n : ∀ {p : Prop}, l 11 = true → p := fun e => by have := (h.f11 e).2; rw [h9] at this; cases this
  have hb : Below w.heap.size w (w.alloc (.cells #[c0, c1, c2, c3, c4] 32 (0, 0))) := (Below.refl _ _).alloc (Nat.le_refl _) _
  have k := h.on hb
  refine ⟨k.below, k.zlt, k.f0, k.f1, k.f2, k.f3, k.f4, k.g4, k.f5, k.f6, k.f7, k.f8, fun _ => ⟨w.heap.size, c0, c1, c2, c3, c4, rfl, h.below.size, by simp, fun e => Nat.lt_irrefl _ (h.zlt _ e), new_block _ _, fun e => n e⟩, k.f10, fun b b' _ a e1 e2 => ?_, fun e => n e, k.f12, k.f13⟩
  obtain ⟨b2, d0, d1, d2, h1, h2, h3, _⟩ := h.f10 a
  have e3 : (Value.pointer (some ⟨b2, 0, none⟩)) = .pointer (some ⟨b', 0, none⟩) := h1.symm.trans e2
  have e4 : (Value.pointer (some ⟨w.heap.size, 0, none⟩)) = .pointer (some ⟨b, 0, none⟩) := e1
  injection e3 with e3
  injection e3 with e3
  injection e3 with e3
  injection e4 with e4
  injection e4 with e4
  injection e4 with e4
  omega
theorem AwS.s10 (h : AwS W B l v Z w) (h10 : l 10 = false) (c0 c1 c2 : Value) : AwS W B (upd l 10 true) (upd v 4 (.pointer (some ⟨w.heap.size, 0, none⟩))) Z (w.alloc (.cells #[c0, c1, c2] 34 (0, 0))) := by
  have n : ∀ {p : Prop}, l 12 = true → p := fun e => by have := (h.f12 e).2; rw [h10] at this; cases this
  have hb : Below w.heap.size w (w.alloc (.cells #[c0, c1, c2] 34 (0, 0))) := (Below.refl _ _).alloc (Nat.le_refl _) _
  have k := h.on hb
  refine ⟨k.below, k.zlt, k.f0, k.f1, k.f2, k.f3, k.f4, k.g4, k.f5, k.f6, k.f7, k.f8, k.f9, fun _ => ⟨w.heap.size, c0, c1, c2, rfl, h.below.size, by simp, fun e => Nat.lt_irrefl _ (h.zlt _ e), new_block _ _, fun e => n e⟩, fun b b' a _ e1 e2 => ?_, k.f11, fun e => n e, k.f13⟩
  obtain ⟨b2, d0, d1, d2, d3, d4, h1, h2, h3, _⟩ := h.f9 a
  have e3 : (Value.pointer (some ⟨b2, 0, none⟩)) = .pointer (some ⟨b, 0, none⟩) := h1.symm.trans e1
  have e4 : (Value.pointer (some ⟨w.heap.size, 0, none⟩)) = .pointer (some ⟨b', 0, none⟩) := e2
  injection e3 with e3
  injection e3 with e3
  injection e3 with e3
  injection e4 with e4
  injection e4 with e4
  injection e4 with e4
  omega
theorem AwS.s11 (h : AwS W B l v Z w) (h4 : l 4 = true) (h6 : l 6 = true) (h9 : l 9 = true) {b : Nat} (eb : v 3 = .pointer (some ⟨b, 0, none⟩)) (hb0 : W.heap.size ≤ b) (hz : ¬ Z b) {c0 c1 c2 c3 c4 : Value} (hs : w'.heap.size = w.heap.size) (ho : w'.os = w.os ∧ w'.tape = w.tape ∧ w'.output = w.output) (hk : ∀ x, x ≠ b → w'.heap[x]? = w.heap[x]?) (hc : w'.heap[b]? = some (.cells #[c0, c1, c2, c3, c4] 32 (0, 0))) (hv : v 19 = .agg #[c0, c1, c2, c3, c4]) (hlt : b < w.heap.size) : AwS W B (upd l 11 true) v Z w' := by
  have n : ∀ {p : Prop}, l 4 = false → p := fun e => by rw [h4] at e; cases e
  refine ⟨⟨ho.1.trans h.below.os, ho.2.1.trans h.below.tape, ho.2.2.trans h.below.output, by rw [hs]; exact h.below.size, fun k hk' => (hk k (by omega)).trans (h.below.block k hk')⟩, fun y hy => by rw [hs]; exact h.zlt y hy, fun _ e => n e, h.f1, fun _ e => n e, fun _ e => n e, fun e => (h.f4 e).on fun y hy => hk y fun e => hz (e ▸ hy), h.g4, h.f5, h.f6, h.f7, h.f8, fun _ => ⟨b, c0, c1, c2, c3, c4, eb, hb0, by omega, hz, hc, fun _ => hv⟩, fun a => ?_, h.far, fun _ => ⟨h6, h9⟩, h.f12, h.f13⟩
  obtain ⟨b2, d0, d1, d2, h1, h2, h3, h4, h5, h6⟩ := h.f10 a
  exact ⟨b2, d0, d1, d2, h1, h2, by omega, h4, (hk b2 fun e => h.far b b2 h9 a eb h1 e.symm).trans h5, h6⟩
theorem AwS.s12 (h : AwS W B l v Z w) (h4 : l 4 = true) (h7 : l 7 = true) (h10 : l 10 = true) {b : Nat} (eb : v 4 = .pointer (some ⟨b, 0, none⟩)) (hb0 : W.heap.size ≤ b) (hz : ¬ Z b) {c0 c1 c2 : Value} (hs : w'.heap.size = w.heap.size) (ho : w'.os = w.os ∧ w'.tape = w.tape ∧ w'.output = w.output) (hk : ∀ x, x ≠ b → w'.heap[x]? = w.heap[x]?) (hc : w'.heap[b]? = some (.cells #[c0, c1, c2] 34 (0, 0))) (hv : v 20 = .agg #[c0, c1, c2]) (hlt : b < w.heap.size) : AwS W B (upd l 12 true) v Z w' := by
  have n : ∀ {p : Prop}, l 4 = false → p := fun e => by rw [h4] at e; cases e
  refine ⟨⟨ho.1.trans h.below.os, ho.2.1.trans h.below.tape, ho.2.2.trans h.below.output, by rw [hs]; exact h.below.size, fun k hk' => (hk k (by omega)).trans (h.below.block k hk')⟩, fun y hy => by rw [hs]; exact h.zlt y hy, fun _ e => n e, h.f1, fun _ e => n e, fun _ e => n e, fun e => (h.f4 e).on fun y hy => hk y fun e => hz (e ▸ hy), h.g4, h.f5, h.f6, h.f7, h.f8, fun a => ?_, fun _ => ⟨b, c0, c1, c2, eb, hb0, by omega, hz, hc, fun _ => hv⟩, h.far, h.f11, fun _ => ⟨h7, h10⟩, h.f13⟩
  obtain ⟨b2, d0, d1, d2, d3, d4, h1, h2, h3, h4, h5, h6⟩ := h.f9 a
  exact ⟨b2, d0, d1, d2, d3, d4, h1, h2, by omega, h4, (hk b2 fun e => h.far b2 b a h10 h1 eb e).trans h5, h6⟩
theorem AwS.s13 (h : AwS W B l v Z w) (h8 : l 8 = true) : AwS W B (upd l 13 true) (upd v 5 (v 21)) Z w :=
  ⟨h.below, h.zlt, h.f0, h.f1, h.f2, h.f3, h.f4, h.g4, h.f5, h.f6, h.f7, h.f8, h.f9, h.f10, h.far, h.f11, h.f12, fun _ => ⟨h8, rfl⟩⟩
end Go.Proofs.Ytpdmkhnonbbhnaa
