/- awake: what holds between the operations of its third region, in whatever order they come. awake: the law's first call. -/
import Derived.Test.YtpdmkhnonbbhnaaMtx
import Derived.Test.YtpdmkhnonbbhnaaWn
import Derived.Test.YtpdmkhnonbbhnaaTk
namespace Go.Proofs.Ytpdmkhnonbbhnaa
open Go.RowKit Go.Maps

def awXc (B : Nat) : Array Value := #[.int .i64 4, .string ⟨#[67, 111, 110, 115]⟩, .int .i64 0, .slice (some ⟨B + 1, 0, none⟩) 2 2]
theorem Ans.on {w w' : World} {Z : Nat → Prop} {r : Value} (h : Ans w Z r) (hk : Keeps Z w w') : Ans w' Z r := by
  obtain ⟨pa, pc, gc, oc, cc, ge, oe, ec, ad1, c1, gm, om, cm, h1, ⟨z1, z2, z3⟩, h2, h3, h4, pa2, pc2, ca2, cl2, cc2, ea2, el2, ec2, ⟨h5, h6, h7, h8, h9⟩, h10⟩ := h
  have kc : ∀ o, w'.cell? ⟨gc, o, none⟩ = w.cell? ⟨gc, o, none⟩ := fun o => hk.cell (p := ⟨gc, o, none⟩) z1
  have ke : ∀ o, w'.cell? ⟨ge, o, none⟩ = w.cell? ⟨ge, o, none⟩ := fun o => hk.cell (p := ⟨ge, o, none⟩) z2
  have km : ∀ o, w'.cell? ⟨gm, o, none⟩ = w.cell? ⟨gm, o, none⟩ := fun o => hk.cell (p := ⟨gm, o, none⟩) z3
  exact ⟨pa, pc, gc, oc, cc, ge, oe, ec, ad1, c1, gm, om, cm, h1, ⟨z1, z2, z3⟩, (ke _).trans h2, (km _).trans h3, (kc _).trans h4, pa2, pc2, ca2, cl2, cc2, ea2, el2, ec2, ⟨(kc _).trans h5, (kc _).trans h6, (kc _).trans h7, (kc _).trans h8, (kc _).trans h9⟩, h10.on hk⟩
structure AwS (W : World) (B : Nat) (l : Nat → Bool) (v : Nat → Value) (Z : Nat → Prop) (w : World) : Prop where
  below : Below W.heap.size W w
  zlt : ∀ y, Z y → y < w.heap.size
  f0 : l 0 = true → l 4 = false → ∃ g, v 14 = .slice (some ⟨g, 0, none⟩) 1 1 ∧ Fams w (fun y => y < w.heap.size) (v 14) [listF]
  f1 : l 1 = true → v 15 = .agg (awXc B)
  f2 : l 2 = true → l 4 = false → ∃ g, g < w.heap.size ∧ v 16 = .slice (some ⟨g, 0, none⟩) 1 1 ∧ w.heap[g]? = some (.cells (awXc B) 39 (0, 0))
  f3 : l 3 = true → l 4 = false → RowsAt w (fun y => y < w.heap.size) (v 17) [[awP]]
  f4 : l 4 = true → Ans w Z (v 18)
  g4 : l 4 = true → l 3 = true
  f5 : l 5 = true → l 4 = true ∧ v 13 = v 18
  f6 : l 6 = true → l 4 = true ∧ ∃ y z, v 18 = .tuple #[v 19, y, z]
  f7 : l 7 = true → l 4 = true ∧ ∃ x z, v 18 = .tuple #[x, v 20, z]
  f8 : l 8 = true → l 4 = true ∧ ∃ x y, v 18 = .tuple #[x, y, v 21]
  f9 : l 9 = true → ∃ b c0 c1 c2 c3 c4, v 3 = .pointer (some ⟨b, 0, none⟩) ∧ W.heap.size ≤ b ∧ b < w.heap.size ∧ ¬ Z b ∧ w.heap[b]? = some (.cells #[c0, c1, c2, c3, c4] 32 (0, 0)) ∧ (l 11 = true → v 19 = .agg #[c0, c1, c2, c3, c4])
  f10 : l 10 = true → ∃ b c0 c1 c2, v 4 = .pointer (some ⟨b, 0, none⟩) ∧ W.heap.size ≤ b ∧ b < w.heap.size ∧ ¬ Z b ∧ w.heap[b]? = some (.cells #[c0, c1, c2] 34 (0, 0)) ∧ (l 12 = true → v 20 = .agg #[c0, c1, c2])
  far : ∀ b b', l 9 = true → l 10 = true → v 3 = .pointer (some ⟨b, 0, none⟩) → v 4 = .pointer (some ⟨b', 0, none⟩) → b ≠ b'
  f11 : l 11 = true → l 6 = true ∧ l 9 = true
  f12 : l 12 = true → l 7 = true ∧ l 10 = true
  f13 : l 13 = true → l 8 = true ∧ v 5 = v 21
theorem store3w {w : World} {R : Nat} {c0 c1 c2 : Value} {t : TypeId} (h : w.heap[R]? = some (.cells #[c0, c1, c2] t (0, 0))) (v0 v1 v2 : Value) :
    ∃ U, U = ((w.setCell ⟨R, 0, none⟩ v0).setCell ⟨R, 1, none⟩ v1).setCell ⟨R, 2, none⟩ v2 ∧ U.heap[R]? = some (.cells #[v0, v1, v2] t (0, 0)) ∧ U.heap.size = w.heap.size ∧ (∀ x, x ≠ R → U.heap[x]? = w.heap[x]?) ∧ U.os = w.os ∧ U.tape = w.tape ∧ U.output = w.output := by
  have a0 := setCell_block (i := 0) (v := v0) h
  have a1 := setCell_block (i := 1) (v := v1) a0
  have a2 := setCell_block (i := 2) (v := v2) a1
  have hk := (((Kx.refl R w).setCell 0 v0).setCell 1 v1).setCell 2 v2
  have e : ((#[c0, c1, c2].setIfInBounds 0 v0).setIfInBounds 1 v1).setIfInBounds 2 v2 = #[v0, v1, v2] := rfl
  rw [e] at a2
  refine ⟨_, rfl, a2, by simp [World.setCell], fun x hx => ?_, hk.os, hk.tape, hk.output⟩
  rw [Below.heap_setCell _ _ _ _ hx, Below.heap_setCell _ _ _ _ hx, Below.heap_setCell _ _ _ _ hx]
theorem Ans.tup {w : World} {Z : Nat → Prop} {r : Value} (h : Ans w Z r) : ∃ p0 p1 p2 q0 q1 q2 r0 r1 r2 x0 x1 x2 y0 y1 y2, r = .tuple #[.agg #[.int .i64 3, .int .i64 0, .slice p0 p1 p2, .slice q0 q1 q2, .slice r0 r1 r2], .agg #[.bool false, .slice x0 x1 x2, .slice y0 y1 y2], .int .i64 0] := by
  obtain ⟨pa, pc, gc, oc, cc, ge, oe, ec, ad1, c1, gm, om, cm, rfl, _⟩ := h
  exact ⟨_, _, _, _, _, _, _, _, _, _, _, _, _, _, _, rfl⟩
variable {W : World} {B : Nat} {l : Nat → Bool} {v : Nat → Value} {Z : Nat → Prop} {w w' : World}
theorem AwS.start (W : World) (B : Nat) (v : Nat → Value) : AwS W B (fun _ => false) v (fun _ => False) W :=
  ⟨Below.refl _ _, fun _ h => h.elim, nofun, nofun, nofun, nofun, nofun, nofun, nofun, nofun, nofun, nofun, nofun, nofun, nofun, nofun, nofun, nofun⟩
theorem AwS.start' (W : World) (B : Nat) (v : Nat → Value) : AwS W B (fun _ => false) v (fun _ => False) W.drew :=
  ⟨(Below.refl _ _).drew, fun _ h => h.elim, nofun, nofun, nofun, nofun, nofun, nofun, nofun, nofun, nofun, nofun, nofun, nofun, nofun, nofun, nofun, nofun⟩
/-- Memory that only grows. -/
theorem AwS.on (h : AwS W B l v Z w) (hb : Below w.heap.size w w') : AwS W B l v Z w' where
  below := h.below.trans (hb.mono h.below.size)
  zlt := fun y hy => Nat.lt_of_lt_of_le (h.zlt y hy) hb.size
  f0 := fun a b => by
    obtain ⟨g, h1, h2⟩ := h.f0 a b
    exact ⟨g, h1, (h2.on (Keeps.of hb fun _ h => h)).up fun y hy => Nat.lt_of_lt_of_le hy hb.size⟩
  f1 := h.f1
  f2 := fun a b => by
    obtain ⟨g, h1, h2, h3⟩ := h.f2 a b
    exact ⟨g, Nat.lt_of_lt_of_le h1 hb.size, h2, (hb.block g h1).trans h3⟩
  f3 := fun a b => ((h.f3 a b).on (Keeps.of hb fun _ h => h)).up fun y hy => Nat.lt_of_lt_of_le hy hb.size
  f4 := fun a => (h.f4 a).on (Keeps.of hb h.zlt)
  g4 := h.g4
  f5 := h.f5
  f6 := h.f6
  f7 := h.f7
  f8 := h.f8
  f9 := fun a => by
    obtain ⟨b, c0, c1, c2, c3, c4, h1, h2, h3, h4, h5, h6⟩ := h.f9 a
    exact ⟨b, c0, c1, c2, c3, c4, h1, h2, Nat.lt_of_lt_of_le h3 hb.size, h4, (hb.block b h3).trans h5, h6⟩
  f10 := fun a => by
    obtain ⟨b, c0, c1, c2, h1, h2, h3, h4, h5, h6⟩ := h.f10 a
    exact ⟨b, c0, c1, c2, h1, h2, Nat.lt_of_lt_of_le h3 hb.size, h4, (hb.block b h3).trans h5, h6⟩
  far := h.far
  f11 := h.f11
  f12 := h.f12
  f13 := h.f13
theorem AwS.s0 (h : AwS W B l v Z w) {g : Nat} (hf : Fams w (fun y => y < w.heap.size) (.slice (some ⟨g, 0, none⟩) 1 1) [listF]) : AwS W B (upd l 0 true) (upd v 14 (.slice (some ⟨g, 0, none⟩) 1 1)) Z w :=
  ⟨h.below, h.zlt, fun _ _ => ⟨g, rfl, hf⟩, h.f1, h.f2, h.f3, h.f4, h.g4, h.f5, h.f6, h.f7, h.f8, h.f9, h.f10, h.far, h.f11, h.f12, h.f13⟩
theorem AwS.s1 (h : AwS W B l v Z w) : AwS W B (upd l 1 true) (upd v 15 (.agg (awXc B))) Z w :=
  ⟨h.below, h.zlt, h.f0, fun _ => rfl, h.f2, h.f3, h.f4, h.g4, h.f5, h.f6, h.f7, h.f8, h.f9, h.f10, h.far, h.f11, h.f12, h.f13⟩
theorem AwS.s2 (h : AwS W B l v Z w) {g : Nat} (hg : g < w.heap.size) (hc : w.heap[g]? = some (.cells (awXc B) 39 (0, 0))) : AwS W B (upd l 2 true) (upd v 16 (.slice (some ⟨g, 0, none⟩) 1 1)) Z w :=
  ⟨h.below, h.zlt, h.f0, h.f1, fun _ _ => ⟨g, hg, rfl, hc⟩, h.f3, h.f4, h.g4, h.f5, h.f6, h.f7, h.f8, h.f9, h.f10, h.far, h.f11, h.f12, h.f13⟩
theorem AwS.s3 (h : AwS W B l v Z w) {x : Value} (hr : RowsAt w (fun y => y < w.heap.size) x [[awP]]) : AwS W B (upd l 3 true) (upd v 17 x) Z w :=
  ⟨h.below, h.zlt, h.f0, h.f1, h.f2, fun _ _ => hr, h.f4, fun _ => rfl, h.f5, h.f6, h.f7, h.f8, h.f9, h.f10, h.far, h.f11, h.f12, h.f13⟩
theorem AwS.s4 (h : AwS W B l v Z w) (h4 : l 4 = false) (h3 : l 3 = true) (hb : Below w.heap.size w w') {x : Value} (ha : Ans w' (fun y => w.heap.size ≤ y ∧ y < w'.heap.size) x) : AwS W B (upd l 4 true) (upd v 18 x) (fun y => w.heap.size ≤ y ∧ y < w'.heap.size) w' := by
  have n : ∀ {p : Prop}, l 4 = true → p := fun e => by rw [h4] at e; cases e
  refine ⟨h.below.trans (hb.mono h.below.size), fun _ h => h.2, nofun, h.f1, nofun, nofun, fun _ => ha, fun _ => h3, fun e => n (h.f5 e).1, fun e => n (h.f6 e).1, fun e => n (h.f7 e).1, fun e => n (h.f8 e).1, fun a => ?_, fun a => ?_, h.far, h.f11, h.f12, h.f13⟩
  · obtain ⟨b, c0, c1, c2, c3, c4, h1, h2, h3, _, h5, h6⟩ := h.f9 a
    exact ⟨b, c0, c1, c2, c3, c4, h1, h2, Nat.lt_of_lt_of_le h3 hb.size, fun e => by omega, (hb.block b h3).trans h5, h6⟩
  · obtain ⟨b, c0, c1, c2, h1, h2, h3, _, h5, h6⟩ := h.f10 a
    exact ⟨b, c0, c1, c2, h1, h2, Nat.lt_of_lt_of_le h3 hb.size, fun e => by omega, (hb.block b h3).trans h5, h6⟩
theorem AwS.s5 (h : AwS W B l v Z w) (h4 : l 4 = true) : AwS W B (upd l 5 true) (upd v 13 (v 18)) Z w :=
  ⟨h.below, h.zlt, h.f0, h.f1, h.f2, h.f3, h.f4, h.g4, fun _ => ⟨h4, rfl⟩, h.f6, h.f7, h.f8, h.f9, h.f10, h.far, h.f11, h.f12, h.f13⟩
theorem AwS.s6 (h : AwS W B l v Z w) (h4 : l 4 = true) (h6 : l 6 = false) {x y z : Value} (e : v 18 = .tuple #[x, y, z]) : AwS W B (upd l 6 true) (upd v 19 x) Z w := by
  have n : ∀ {p : Prop}, l 11 = true → p := fun e => by have := (h.f11 e).1; rw [h6] at this; cases this
  refine ⟨h.below, h.zlt, h.f0, h.f1, h.f2, h.f3, h.f4, h.g4, h.f5, fun _ => ⟨h4, y, z, e⟩, h.f7, h.f8, fun a => ?_, h.f10, h.far, fun e => n e, h.f12, h.f13⟩
  obtain ⟨b, c0, c1, c2, c3, c4, h1, h2, h3, h4, h5, _⟩ := h.f9 a
  exact ⟨b, c0, c1, c2, c3, c4, h1, h2, h3, h4, h5, fun e => n e⟩
theorem AwS.s7 (h : AwS W B l v Z w) (h4 : l 4 = true) (h7 : l 7 = false) {x y z : Value} (e : v 18 = .tuple #[x, y, z]) : AwS W B (upd l 7 true) (upd v 20 y) Z w := by
  have n : ∀ {p : Prop}, l 12 = true → p := fun e => by have := (h.f12 e).1; rw [h7] at this; cases this
  refine ⟨h.below, h.zlt, h.f0, h.f1, h.f2, h.f3, h.f4, h.g4, h.f5, h.f6, fun _ => ⟨h4, x, z, e⟩, h.f8, h.f9, fun a => ?_, h.far, h.f11, fun e => n e, h.f13⟩
  obtain ⟨b, c0, c1, c2, h1, h2, h3, h4, h5, _⟩ := h.f10 a
  exact ⟨b, c0, c1, c2, h1, h2, h3, h4, h5, fun e => n e⟩
theorem AwS.s8 (h : AwS W B l v Z w) (h4 : l 4 = true) (h8 : l 8 = false) {x y z : Value} (e : v 18 = .tuple #[x, y, z]) : AwS W B (upd l 8 true) (upd v 21 z) Z w := by
  have n : ∀ {p : Prop}, l 13 = true → p := fun e => by have := (h.f13 e).1; rw [h8] at this; cases this
  exact ⟨h.below, h.zlt, h.f0, h.f1, h.f2, h.f3, h.f4, h.g4, h.f5, h.f6, h.f7, fun _ => ⟨h4, x, y, e⟩, h.f9, h.f10, h.far, h.f11, h.f12, fun e => n e⟩
theorem AwS.s9 (h : AwS W B l v Z w) (h9 : l 9 = false) (c0 c1 c2 c3 c4 : Value) : AwS W B (upd l 9 true) (upd v 3 (.pointer (some ⟨w.heap.size, 0, none⟩))) Z (w.alloc (.cells #[c0, c1, c2, c3, c4] 32 (0, 0))) := by
  have n : ∀ {p : Prop}, l 11 = true → p := fun e => by have := (h.f11 e).2; rw [h9] at this; cases this
  have hb : Below w.heap.size w (w.alloc (.cells #[c0, c1, c2, c3, c4] 32 (0, 0))) := (Below.refl _ _).alloc (Nat.le_refl _) _
  have k := h.on hb
  refine ⟨k.below, k.zlt, k.f0, k.f1, k.f2, k.f3, k.f4, k.g4, k.f5, k.f6, k.f7, k.f8, fun _ => ⟨w.heap.size, c0, c1, c2, c3, c4, rfl, h.below.size, by simp, fun e => Nat.lt_irrefl _ (h.zlt _ e), new_block _ _, fun e => n e⟩, k.f10, fun b b' _ a e1 e2 => ?_, fun e => n e, k.f12, k.f13⟩
  obtain ⟨b2, d0, d1, d2, h1, h2, h3, _⟩ := h.f10 a
  have e3 : (Value.pointer (some ⟨b2, 0, none⟩)) = .pointer (some ⟨b', 0, none⟩) := h1.symm.trans e2
  have e4 : (Value.pointer (some ⟨w.heap.size, 0, none⟩)) = .pointer (some ⟨b, 0, none⟩) := e1
  injection e3 with e3
  injection e3 with e3
  injection e3 with e3
  injection e4 with e4
  injection e4 with e4
  injection e4 with e4
  omega
theorem AwS.s10 (h : AwS W B l v Z w) (h10 : l 10 = false) (c0 c1 c2 : Value) : AwS W B (upd l 10 true) (upd v 4 (.pointer (some ⟨w.heap.size, 0, none⟩))) Z (w.alloc (.cells #[c0, c1, c2] 34 (0, 0))) := by
  have n : ∀ {p : Prop}, l 12 = true → p := fun e => by have := (h.f12 e).2; rw [h10] at this; cases this
  have hb : Below w.heap.size w (w.alloc (.cells #[c0, c1, c2] 34 (0, 0))) := (Below.refl _ _).alloc (Nat.le_refl _) _
  have k := h.on hb
  refine ⟨k.below, k.zlt, k.f0, k.f1, k.f2, k.f3, k.f4, k.g4, k.f5, k.f6, k.f7, k.f8, k.f9, fun _ => ⟨w.heap.size, c0, c1, c2, rfl, h.below.size, by simp, fun e => Nat.lt_irrefl _ (h.zlt _ e), new_block _ _, fun e => n e⟩, fun b b' a _ e1 e2 => ?_, k.f11, fun e => n e, k.f13⟩
  obtain ⟨b2, d0, d1, d2, d3, d4, h1, h2, h3, _⟩ := h.f9 a
  have e3 : (Value.pointer (some ⟨b2, 0, none⟩)) = .pointer (some ⟨b, 0, none⟩) := h1.symm.trans e1
  have e4 : (Value.pointer (some ⟨w.heap.size, 0, none⟩)) = .pointer (some ⟨b', 0, none⟩) := e2
  injection e3 with e3
  injection e3 with e3
  injection e3 with e3
  injection e4 with e4
  injection e4 with e4
  injection e4 with e4
  omega
theorem AwS.s11 (h : AwS W B l v Z w) (h4 : l 4 = true) (h6 : l 6 = true) (h9 : l 9 = true) {b : Nat} (eb : v 3 = .pointer (some ⟨b, 0, none⟩)) (hb0 : W.heap.size ≤ b) (hz : ¬ Z b) {c0 c1 c2 c3 c4 : Value} (hs : w'.heap.size = w.heap.size) (ho : w'.os = w.os ∧ w'.tape = w.tape ∧ w'.output = w.output) (hk : ∀ x, x ≠ b → w'.heap[x]? = w.heap[x]?) (hc : w'.heap[b]? = some (.cells #[c0, c1, c2, c3, c4] 32 (0, 0))) (hv : v 19 = .agg #[c0, c1, c2, c3, c4]) (hlt : b < w.heap.size) : AwS W B (upd l 11 true) v Z w' := by
  have n : ∀ {p : Prop}, l 4 = false → p := fun e => by rw [h4] at e; cases e
  refine ⟨⟨ho.1.trans h.below.os, ho.2.1.trans h.below.tape, ho.2.2.trans h.below.output, by rw [hs]; exact h.below.size, fun k hk' => (hk k (by omega)).trans (h.below.block k hk')⟩, fun y hy => by rw [hs]; exact h.zlt y hy, fun _ e => n e, h.f1, fun _ e => n e, fun _ e => n e, fun e => (h.f4 e).on fun y hy => hk y fun e => hz (e ▸ hy), h.g4, h.f5, h.f6, h.f7, h.f8, fun _ => ⟨b, c0, c1, c2, c3, c4, eb, hb0, by omega, hz, hc, fun _ => hv⟩, fun a => ?_, h.far, fun _ => ⟨h6, h9⟩, h.f12, h.f13⟩
  obtain ⟨b2, d0, d1, d2, h1, h2, h3, h4, h5, h6⟩ := h.f10 a
  exact ⟨b2, d0, d1, d2, h1, h2, by omega, h4, (hk b2 fun e => h.far b b2 h9 a eb h1 e.symm).trans h5, h6⟩
theorem AwS.s12 (h : AwS W B l v Z w) (h4 : l 4 = true) (h7 : l 7 = true) (h10 : l 10 = true) {b : Nat} (eb : v 4 = .pointer (some ⟨b, 0, none⟩)) (hb0 : W.heap.size ≤ b) (hz : ¬ Z b) {c0 c1 c2 : Value} (hs : w'.heap.size = w.heap.size) (ho : w'.os = w.os ∧ w'.tape = w.tape ∧ w'.output = w.output) (hk : ∀ x, x ≠ b → w'.heap[x]? = w.heap[x]?) (hc : w'.heap[b]? = some (.cells #[c0, c1, c2] 34 (0, 0))) (hv : v 20 = .agg #[c0, c1, c2]) (hlt : b < w.heap.size) : AwS W B (upd l 12 true) v Z w' := by
  have n : ∀ {p : Prop}, l 4 = false → p := fun e => by rw [h4] at e; cases e
  refine ⟨⟨ho.1.trans h.below.os, ho.2.1.trans h.below.tape, ho.2.2.trans h.below.output, by rw [hs]; exact h.below.size, fun k hk' => (hk k (by omega)).trans (h.below.block k hk')⟩, fun y hy => by rw [hs]; exact h.zlt y hy, fun _ e => n e, h.f1, fun _ e => n e, fun _ e => n e, fun e => (h.f4 e).on fun y hy => hk y fun e => hz (e ▸ hy), h.g4, h.f5, h.f6, h.f7, h.f8, fun a => ?_, fun _ => ⟨b, c0, c1, c2, eb, hb0, by omega, hz, hc, fun _ => hv⟩, h.far, h.f11, fun _ => ⟨h7, h10⟩, h.f13⟩
  obtain ⟨b2, d0, d1, d2, d3, d4, h1, h2, h3, h4, h5, h6⟩ := h.f9 a
  exact ⟨b2, d0, d1, d2, d3, d4, h1, h2, by omega, h4, (hk b2 fun e => h.far b2 b a h10 h1 eb e).trans h5, h6⟩
theorem AwS.s13 (h : AwS W B l v Z w) (h8 : l 8 = true) : AwS W B (upd l 13 true) (upd v 5 (v 21)) Z w :=
  ⟨h.below, h.zlt, h.f0, h.f1, h.f2, h.f3, h.f4, h.g4, h.f5, h.f6, h.f7, h.f8, h.f9, h.f10, h.far, h.f11, h.f12, fun _ => ⟨h8, rfl⟩⟩
end Go.Proofs.Ytpdmkhnonbbhnaa

namespace Go.Proofs.Ytpdmkhnonbbhnaa
open Go.RowKit Go.Maps

def awF (B : Nat) (v : Nat → Value) : Act := { tmps := #[.bool false, .pointer (some ⟨B, 0, none⟩), .pointer (some ⟨B + 1 + 1, 0, none⟩), v 3, v 4, v 5, undef, undef, .agg #[.int .i64 4, .string ⟨#[78, 105, 108]⟩, .int .i64 0, .slice none 0 0], .agg #[.int .i64 2, .string ⟨#[120]⟩, .int .i64 0, .slice none 0 0], .agg #[.int .i64 4, .string ⟨#[78, 105, 108]⟩, .int .i64 0, .slice none 0 0], .slice (some ⟨B + 1, 0, none⟩) 2 2, .agg #[.int .i64 4, .string ⟨#[67, 111, 110, 115]⟩, .int .i64 0, .slice (some ⟨B + 1, 0, none⟩) 2 2], v 13, v 14, v 15, v 16, v 17, v 18, v 19, v 20, v 21, undef, undef, undef, undef, undef, undef, undef, undef, undef, undef, undef, undef, undef, undef, undef, undef, undef, undef, undef, undef, undef, undef, undef, undef, undef, undef, undef, undef, undef, undef, undef, undef, undef, undef, undef, undef, undef, undef, undef, undef, undef, undef, undef, undef, undef, undef, undef, undef, undef, undef, undef, undef, undef, undef, undef, undef, undef, undef, undef, undef, undef, undef, undef, undef, undef, undef, undef, undef, undef], defers := [] }
def AwI (W : World) (B : Nat) (listed : Array Bool) (a : Act) (w : World) : Prop := ∃ l v Z, listed = #[l 0, l 1, l 2, l 3, l 4, l 5, l 6, l 7, l 8, l 9, l 10, l 11, l 12, l 13] ∧ a = awF B v ∧ AwS W B l v Z w
def awPre : List (List Nat) := [[], [], [1], [2], [0, 3], [4], [5], [5], [5], [], [], [9, 6], [10, 7, 11], [8, 12]]
set_option maxHeartbeats 4000000 in
set_option maxRecDepth 10000 in
theorem awake_any (w : World) : Calls Try.prog 5 #[] w fun r w' => Below w.heap.size w w' ∧ r = .returned (.bool true) := by
  go_enter Try.func5, Try.ntmps5
  go_upto_region 3 with fail
  obtain ⟨W, hW⟩ : ∃ W, W = ((w.alloc (Obj.cells #[.int .i64 4, .string ⟨#[78, 105, 108]⟩, .int .i64 0, .slice none 0 0] 39)).alloc (Obj.cells #[.int .i64 2, .string ⟨#[120]⟩, .int .i64 0, .slice none 0 0, .int .i64 4, .string ⟨#[78, 105, 108]⟩, .int .i64 0, .slice none 0 0] 39)).alloc (Obj.cells #[.int .i64 4, .string ⟨#[67, 111, 110, 115]⟩, .int .i64 0, .slice (some ⟨w.heap.size + 1, 0, none⟩) 2 2] 39) := ⟨_, rfl⟩
  rw [← hW]
  have HW : Hid (Below w.heap.size w W ∧ W.heap.size = w.heap.size + 3 ∧ W.heap[w.heap.size + 1]? = some (.cells #[.int .i64 2, .string ⟨#[120]⟩, .int .i64 0, .slice none 0 0, .int .i64 4, .string ⟨#[78, 105, 108]⟩, .int .i64 0, .slice none 0 0] 39 (0, 0)) ∧ W.heap[w.heap.size + 1 + 1]? = some (.cells (awXc w.heap.size) 39 (0, 0))) := by
    refine ⟨?_, by rw [hW]; simp, ?_, ?_⟩
    · rw [hW]
      exact (((Below.refl _ _).alloc (Nat.le_refl _) _).alloc (by simp) _).alloc (by simp; omega) _
    · rw [hW, Below.heap_alloc _ _ _ (by simp)]
      have e : (w.alloc (Obj.cells #[.int .i64 4, .string ⟨#[78, 105, 108]⟩, .int .i64 0, .slice none 0 0] 39)).heap.size = w.heap.size + 1 := by simp
      rw [← e]
      exact new_block _ _
    · rw [hW]
      have e : ((w.alloc (Obj.cells #[.int .i64 4, .string ⟨#[78, 105, 108]⟩, .int .i64 0, .slice none 0 0] 39)).alloc (Obj.cells #[.int .i64 2, .string ⟨#[120]⟩, .int .i64 0, .slice none 0 0, .int .i64 4, .string ⟨#[78, 105, 108]⟩, .int .i64 0, .slice none 0 0] 39)).heap.size = w.heap.size + 1 + 1 := by simp
      rw [← e]
      exact new_block _ _
  clear hW
  rename_i Q0 K hK
  have HK : Hid (∀ (a : Act) (w : World), _ → K a w) := hK
  clear hK
  refine wp_region_inv (by kernel_rfl) (AwI W w.heap.size) ?_ ?_ ?_
  · exact ⟨fun _ => false, fun _ => undef, fun _ => False, rfl, rfl, AwS.start' _ _ _⟩
  · rintro listed a u ⟨l, v, Z, rfl, rfl, hs⟩ i hi
    obtain ⟨hlt, hi0, hp⟩ := ready_pre awPre (by kernel_rfl) hi
    clear hi
    have HS : Hid (AwS W w.heap.size l v Z u) := hs
    have hb := hs.below
    clear hs
    have hlt : i < 14 := hlt
    rcases (by omega : i = 0 ∨ i = 1 ∨ i = 2 ∨ i = 3 ∨ i = 4 ∨ i = 5 ∨ i = 6 ∨ i = 7 ∨ i = 8 ∨ i = 9 ∨ i = 10 ∨ i = 11 ∨ i = 12 ∨ i = 13) with rfl | rfl | rfl | rfl | rfl | rfl | rfl | rfl | rfl | rfl | rfl | rfl | rfl | rfl
    · refine wpOp_step (o := _) rfl (fun K1 hK1 => ?_)
      have HK1 : Hid (∀ (a : Act) (w : World), _ → K1 a w) := hK1
      clear hK1
      unfold awF
      go_simp
      refine Calls.mono (lists_any u) ?_
      rintro r u1 ⟨hb1, rfl, hz, hF⟩
      exact HK1.out _ _ ⟨upd l 0 true, upd v 14 _, Z, rfl, rfl, (HS.out.on hb1).s0 (hF.up fun y hy => hy.2)⟩
    · have hc : u.heap[w.heap.size + 1 + 1]? = some (.cells (awXc w.heap.size) 39 (0, 0)) := (hb.block _ (by rw [HW.out.2.1]; omega)).trans HW.out.2.2.2
      have c0 : u.cell? ⟨w.heap.size + 1 + 1, 0, none⟩ = some (.int .i64 4) := heap_cell hc rfl
      have c1 : u.cell? ⟨w.heap.size + 1 + 1, 1, none⟩ = some (.string ⟨#[67, 111, 110, 115]⟩) := heap_cell hc rfl
      have c2 : u.cell? ⟨w.heap.size + 1 + 1, 2, none⟩ = some (.int .i64 0) := heap_cell hc rfl
      have c3 : u.cell? ⟨w.heap.size + 1 + 1, 3, none⟩ = some (.slice (some ⟨w.heap.size + 1, 0, none⟩) 2 2) := heap_cell hc rfl
      clear hc hb
      refine wpOp_step (o := _) rfl (fun K1 hK1 => ?_)
      have HK1 : Hid (∀ (a : Act) (w : World), _ → K1 a w) := hK1
      clear hK1
      unfold awF
      go_simp
      exact HK1.out _ _ ⟨upd l 1 true, upd v 15 (.agg (awXc w.heap.size)), Z, rfl, rfl, HS.out.s1⟩
    · have l1 : l 1 = true := hp 1 (by decide)
      have e := HS.out.f1 l1
      unfold awXc at e
      refine wpOp_step (o := _) rfl (fun K1 hK1 => ?_)
      have HK1 : Hid (∀ (a : Act) (w : World), _ → K1 a w) := hK1
      clear hK1
      unfold awF
      rw [e]
      have HE : Hid (v 15 = _) := e
      clear e
      go_simp
      have k := (HS.out.on ((Below.refl _ _).alloc (Nat.le_refl _) (Obj.cells (awXc w.heap.size) 39))).s2 (by simp) (new_block _ _)
      exact HK1.out _ _ ⟨upd l 2 true, upd v 16 _, Z, rfl, (by unfold awF; rw [show upd v 16 _ 15 = _ from HE.out]; rfl), k⟩
    · have l2 : l 2 = true := hp 2 (by decide)
      have l4 : l 4 = false := by
        have h3 : l 3 = false := hi0
        cases h : l 4 with
        | false => rfl
        | true => have := HS.out.g4 h; rw [h3] at this; cases this
      obtain ⟨g, hg, e, hc⟩ := HS.out.f2 l2 l4
      have HG : Hid (g < u.heap.size ∧ u.heap[g]? = some (.cells (awXc w.heap.size) 39 (0, 0))) := ⟨hg, hc⟩
      clear hg hc
      refine wpOp_step (o := _) rfl (fun K1 hK1 => ?_)
      have HK1 : Hid (∀ (a : Act) (w : World), _ → K1 a w) := hK1
      clear hK1
      unfold awF
      rw [e]
      have HE : Hid (v 16 = _) := e
      clear e
      go_simp
      have hA := (hb.block (w.heap.size + 1) (by rw [HW.out.2.1]; omega)).trans HW.out.2.2.1
      have hAl : w.heap.size + 1 < u.heap.size := by have := HW.out.2.1; have := hb.size; omega
      have k := (HS.out.on ((Below.refl _ _).alloc (Nat.le_refl _) (Obj.cells #[.slice (some ⟨g, 0, none⟩) 1 1] 24))).s3 (aw_row (A := w.heap.size + 1) (X := g) (Y := u.heap.size) ((Below.heap_alloc _ _ _ hAl).trans hA) ((Below.heap_alloc _ _ _ HG.out.1).trans HG.out.2) (new_block _ _) (by simp; omega) (by simp; have := HG.out.1; omega) (by simp))
      exact HK1.out _ _ ⟨upd l 3 true, upd v 17 _, Z, rfl, (by unfold awF; rw [show upd v 17 _ 16 = _ from HE.out]; rfl), k⟩
    · have l0 : l 0 = true := hp 0 (by decide)
      have l3 : l 3 = true := hp 3 (by decide)
      have l4 : l 4 = false := hi0
      obtain ⟨g, e, hF⟩ := HS.out.f0 l0 l4
      have hR := HS.out.f3 l3 l4
      rw [e] at hF
      obtain ⟨F, hF5⟩ : ∃ F, F = 5001 := ⟨_, rfl⟩
      have CA := aw_calls hF5 (some ⟨g, 0, none⟩) 1 (v 17) (fun _ h => h) hF hR
      clear hF hR hF5
      refine wpOp_step (o := _) rfl (fun K1 hK1 => ?_)
      have HK1 : Hid (∀ (a : Act) (w : World), _ → K1 a w) := hK1
      clear hK1
      unfold awF
      rw [e]
      have HE : Hid (v 14 = _) := e
      clear e
      go_simp
      refine Calls.mono CA ?_
      rintro r u1 ⟨hb1, x, rfl, hA⟩
      exact HK1.out _ _ ⟨upd l 4 true, upd v 18 x, _, rfl, (by unfold awF; rw [show upd v 18 _ 14 = _ from HE.out]; rfl), HS.out.s4 l4 l3 hb1 hA⟩
    · have l4 : l 4 = true := hp 4 (by decide)
      refine wpOp_step (o := _) rfl (fun K1 hK1 => ?_)
      have HK1 : Hid (∀ (a : Act) (w : World), _ → K1 a w) := hK1
      clear hK1
      unfold awF
      go_simp
      exact HK1.out _ _ ⟨upd l 5 true, upd v 13 (v 18), Z, rfl, rfl, HS.out.s5 l4⟩
    · have l5 : l 5 = true := hp 5 (by decide)
      have h6 : l 6 = false := hi0
      obtain ⟨l4, e13⟩ := HS.out.f5 l5
      obtain ⟨p0, p1, p2, q0, q1, q2, r0, r1, r2, x0, x1, x2, y0, y1, y2, e⟩ := (HS.out.f4 l4).tup
      have HE : Hid (v 18 = _) := e
      rw [e] at e13
      clear e
      refine wpOp_step (o := _) rfl (fun K1 hK1 => ?_)
      have HK1 : Hid (∀ (a : Act) (w : World), _ → K1 a w) := hK1
      clear hK1
      unfold awF
      rw [e13]
      go_simp
      rw [← e13]
      exact HK1.out _ _ ⟨upd l 6 true, upd v 19 (.agg #[.int .i64 3, .int .i64 0, .slice p0 p1 p2, .slice q0 q1 q2, .slice r0 r1 r2]), Z, rfl, rfl, HS.out.s6 l4 h6 HE.out⟩
    · have l5 : l 5 = true := hp 5 (by decide)
      have h7 : l 7 = false := hi0
      obtain ⟨l4, e13⟩ := HS.out.f5 l5
      obtain ⟨p0, p1, p2, q0, q1, q2, r0, r1, r2, x0, x1, x2, y0, y1, y2, e⟩ := (HS.out.f4 l4).tup
      have HE : Hid (v 18 = _) := e
      rw [e] at e13
      clear e
      refine wpOp_step (o := _) rfl (fun K1 hK1 => ?_)
      have HK1 : Hid (∀ (a : Act) (w : World), _ → K1 a w) := hK1
      clear hK1
      unfold awF
      rw [e13]
      go_simp
      rw [← e13]
      exact HK1.out _ _ ⟨upd l 7 true, upd v 20 (.agg #[.bool false, .slice x0 x1 x2, .slice y0 y1 y2]), Z, rfl, rfl, HS.out.s7 l4 h7 HE.out⟩
    · have l5 : l 5 = true := hp 5 (by decide)
      have h8 : l 8 = false := hi0
      obtain ⟨l4, e13⟩ := HS.out.f5 l5
      obtain ⟨p0, p1, p2, q0, q1, q2, r0, r1, r2, x0, x1, x2, y0, y1, y2, e⟩ := (HS.out.f4 l4).tup
      have HE : Hid (v 18 = _) := e
      rw [e] at e13
      clear e
      refine wpOp_step (o := _) rfl (fun K1 hK1 => ?_)
      have HK1 : Hid (∀ (a : Act) (w : World), _ → K1 a w) := hK1
      clear hK1
      unfold awF
      rw [e13]
      go_simp
      rw [← e13]
      exact HK1.out _ _ ⟨upd l 8 true, upd v 21 (.int .i64 0), Z, rfl, rfl, HS.out.s8 l4 h8 HE.out⟩
    · have h9 : l 9 = false := hi0
      refine wpOp_step (o := _) rfl (fun K1 hK1 => ?_)
      have HK1 : Hid (∀ (a : Act) (w : World), _ → K1 a w) := hK1
      clear hK1
      unfold awF
      go_simp
      exact HK1.out _ _ ⟨upd l 9 true, upd v 3 _, Z, rfl, rfl, HS.out.s9 h9 _ _ _ _ _⟩
    · have h10 : l 10 = false := hi0
      refine wpOp_step (o := _) rfl (fun K1 hK1 => ?_)
      have HK1 : Hid (∀ (a : Act) (w : World), _ → K1 a w) := hK1
      clear hK1
      unfold awF
      go_simp
      exact HK1.out _ _ ⟨upd l 10 true, upd v 4 _, Z, rfl, rfl, HS.out.s10 h10 _ _ _⟩
    · have l9 : l 9 = true := hp 9 (by decide)
      have l6 : l 6 = true := hp 6 (by decide)
      obtain ⟨l4, y, z, e18⟩ := HS.out.f6 l6
      obtain ⟨p0, p1, p2, q0, q1, q2, r0, r1, r2, x0, x1, x2, y0, y1, y2, e⟩ := (HS.out.f4 l4).tup
      obtain ⟨b, c0, c1, c2, c3, c4, eb, hb0, hbl, hz, hc, _⟩ := HS.out.f9 l9
      have ev : v 19 = .agg #[.int .i64 3, .int .i64 0, .slice p0 p1 p2, .slice q0 q1 q2, .slice r0 r1 r2] := by
        have := e18.symm.trans e
        injection this with this
        injection this with this
        injection this
      have HE : Hid (v 19 = _) := ev
      have HB : Hid (v 3 = _ ∧ W.heap.size ≤ b ∧ b < u.heap.size ∧ ¬ Z b) := ⟨eb, hb0, hbl, hz⟩
      clear e18 e hb0 hbl hz hb
      have s0 : u.cell? ⟨b, 0, none⟩ = some c0 := heap_cell hc rfl
      have z0 := heap_frozen (o := 0) hc
      have s1 : u.cell? ⟨b, 1, none⟩ = some c1 := heap_cell hc rfl
      have z1 := heap_frozen (o := 1) hc
      have s2 : u.cell? ⟨b, 2, none⟩ = some c2 := heap_cell hc rfl
      have z2 := heap_frozen (o := 2) hc
      have s3 : u.cell? ⟨b, 3, none⟩ = some c3 := heap_cell hc rfl
      have z3 := heap_frozen (o := 3) hc
      have s4 : u.cell? ⟨b, 4, none⟩ = some c4 := heap_cell hc rfl
      have z4 := heap_frozen (o := 4) hc
      obtain ⟨U, hU, hUR, hUs, hUk, hUo⟩ := store5 hc (.int .i64 3) (.int .i64 0) (.slice p0 p1 p2) (.slice q0 q1 q2) (.slice r0 r1 r2)
      have HU : Hid (U.heap.size = u.heap.size ∧ (∀ x, x ≠ b → U.heap[x]? = u.heap[x]?) ∧ (U.os = u.os ∧ U.tape = u.tape ∧ U.output = u.output) ∧ U.heap[b]? = _) := ⟨hUs, hUk, hUo, hUR⟩
      clear hUs hUk hUo hUR hc
      refine wpOp_step (o := _) rfl (fun K1 hK1 => ?_)
      have HK1 : Hid (∀ (a : Act) (w : World), _ → K1 a w) := hK1
      clear hK1
      unfold awF
      rw [eb, ev]
      clear eb ev
      go_simp
      rw [← hU]
      rw [← HB.out.1, ← HE.out]
      exact HK1.out _ _ ⟨upd l 11 true, v, Z, rfl, rfl, HS.out.s11 l4 l6 l9 HB.out.1 HB.out.2.1 HB.out.2.2.2 HU.out.1 HU.out.2.2.1 HU.out.2.1 HU.out.2.2.2 HE.out HB.out.2.2.1⟩
    · have l10 : l 10 = true := hp 10 (by decide)
      have l7 : l 7 = true := hp 7 (by decide)
      obtain ⟨l4, y, z, e18⟩ := HS.out.f7 l7
      obtain ⟨p0, p1, p2, q0, q1, q2, r0, r1, r2, x0, x1, x2, y0, y1, y2, e⟩ := (HS.out.f4 l4).tup
      obtain ⟨b, c0, c1, c2, eb, hb0, hbl, hz, hc, _⟩ := HS.out.f10 l10
      have ev : v 20 = .agg #[.bool false, .slice x0 x1 x2, .slice y0 y1 y2] := by
        have := e18.symm.trans e
        injection this with this
        injection this with this
        injection this with _ this
        injection this
      have HE : Hid (v 20 = _) := ev
      have HB : Hid (v 4 = _ ∧ W.heap.size ≤ b ∧ b < u.heap.size ∧ ¬ Z b) := ⟨eb, hb0, hbl, hz⟩
      clear e18 e hb0 hbl hz hb
      have s0 : u.cell? ⟨b, 0, none⟩ = some c0 := heap_cell hc rfl
      have z0 := heap_frozen (o := 0) hc
      have s1 : u.cell? ⟨b, 1, none⟩ = some c1 := heap_cell hc rfl
      have z1 := heap_frozen (o := 1) hc
      have s2 : u.cell? ⟨b, 2, none⟩ = some c2 := heap_cell hc rfl
      have z2 := heap_frozen (o := 2) hc
      obtain ⟨U, hU, hUR, hUs, hUk, hUo⟩ := store3w hc (.bool false) (.slice x0 x1 x2) (.slice y0 y1 y2)
      have HU : Hid (U.heap.size = u.heap.size ∧ (∀ x, x ≠ b → U.heap[x]? = u.heap[x]?) ∧ (U.os = u.os ∧ U.tape = u.tape ∧ U.output = u.output) ∧ U.heap[b]? = _) := ⟨hUs, hUk, hUo, hUR⟩
      clear hUs hUk hUo hUR hc
      refine wpOp_step (o := _) rfl (fun K1 hK1 => ?_)
      have HK1 : Hid (∀ (a : Act) (w : World), _ → K1 a w) := hK1
      clear hK1
      unfold awF
      rw [eb, ev]
      clear eb ev
      go_simp
      rw [← hU]
      rw [← HB.out.1, ← HE.out]
      exact HK1.out _ _ ⟨upd l 12 true, v, Z, rfl, rfl, HS.out.s12 l4 l7 l10 HB.out.1 HB.out.2.1 HB.out.2.2.2 HU.out.1 HU.out.2.2.1 HU.out.2.1 HU.out.2.2.2 HE.out HB.out.2.2.1⟩
    · have l8 : l 8 = true := hp 8 (by decide)
      refine wpOp_step (o := _) rfl (fun K1 hK1 => ?_)
      have HK1 : Hid (∀ (a : Act) (w : World), _ → K1 a w) := hK1
      clear hK1
      unfold awF
      go_simp
      exact HK1.out _ _ ⟨upd l 13 true, upd v 5 (v 21), Z, rfl, rfl, HS.out.s13 l8⟩
  · rintro listed a u ⟨l, v, Z, rfl, rfl, hs⟩ hr
    have hall : ∀ i, i < 14 → (#[l 0, l 1, l 2, l 3, l 4, l 5, l 6, l 7, l 8, l 9, l 10, l 11, l 12, l 13] : Array Bool).getD i true = true := fun i hi => ready_nil (by kernel_rfl) hr 14 i hi hi
    clear hr
    show K _ _
    refine HK.out _ _ ?_
    clear HK
    obtain ⟨pa, pc, gc, oc, cc, ge, oe, ec, ad1, c1, gm, om, cm, e18, ⟨z1, z2, z3⟩, y0, y1, y2, pa2, pc2, ca2, cl2, cc2, ea2, el2, ec2, ⟨k2, k3, k4, k5, k6⟩, hN⟩ := hs.f4 (hall 4 (by decide))
    have hzl := hs.zlt
    have hz1 := hs.zlt _ z1
    have hz2 := hs.zlt _ z2
    have hz3 := hs.zlt _ z3
    have e19 : v 19 = .agg #[.int .i64 3, .int .i64 0, .slice pa 1 pc, .slice (some ⟨gc, oc, none⟩) 1 cc, .slice (some ⟨ge, oe, none⟩) 1 ec] := by
      obtain ⟨_, y, z, e⟩ := hs.f6 (hall 6 (by decide))
      have := e.symm.trans e18
      injection this with this
      injection this with this
      injection this
    have e20 : v 20 = .agg #[.bool false, .slice ad1 0 c1, .slice (some ⟨gm, om, none⟩) 1 cm] := by
      obtain ⟨_, y, z, e⟩ := hs.f7 (hall 7 (by decide))
      have := e.symm.trans e18
      injection this with this
      injection this with this
      injection this with _ this
      injection this
    have e5 : v 5 = .int .i64 0 := by
      obtain ⟨_, y, z, e⟩ := hs.f8 (hall 8 (by decide))
      have := e.symm.trans e18
      injection this with this
      injection this with this
      injection this with _ this
      injection this with _ this
      injection this with this
      exact (hs.f13 (hall 13 (by decide))).2.trans this
    obtain ⟨b3, d0, d1, d2, d3, d4, e3, hb30, hb3, _, hc3, hv3⟩ := hs.f9 (hall 9 (by decide))
    obtain ⟨b4, g0, g1, g2, e4, hb40, hb4, _, hc4, hv4⟩ := hs.f10 (hall 10 (by decide))
    have e3' := (hv3 (hall 11 (by decide))).symm.trans e19
    have e4' := (hv4 (hall 12 (by decide))).symm.trans e20
    injection e3' with e3'
    injection e4' with e4'
    rw [e3'] at hc3
    rw [e4'] at hc4
    have hbe := HW.out.1.trans (hs.below.mono HW.out.1.size)
    have HBE : Hid (Below w.heap.size w u) := hbe
    have hlw : w.heap.size ≤ u.heap.size := hbe.size
    clear e3' e4' hv3 hv4 e19 e20 e18 hs hall HW hbe
    obtain ⟨X, hX⟩ : ∃ X, X = (u.alloc (Obj.cells #[.int .i64 3, .int .i64 0, .slice pa2 2 pc2, .slice ca2 cl2 cc2, .slice ea2 el2 ec2] 32)).alloc (Obj.cells #[.int .i64 0, .int .i64 1] 3) := ⟨_, rfl⟩
    have hXb : Below u.heap.size u X := by rw [hX]; exact ((Below.refl _ _).alloc (Nat.le_refl _) _).alloc (by simp) _
    have hXs : X.heap.size = u.heap.size + 1 + 1 := by rw [hX]; simp
    have hX1 : X.heap[u.heap.size]? = some (Obj.cells #[.int .i64 3, .int .i64 0, .slice pa2 2 pc2, .slice ca2 cl2 cc2, .slice ea2 el2 ec2] 32 (0, 0)) := by
      rw [hX, Below.heap_alloc _ _ _ (by simp)]
      exact new_block _ _
    have hX2 : X.heap[u.heap.size + 1]? = some (Obj.cells #[.int .i64 0, .int .i64 1] 3 (0, 0)) := by
      have e : (u.alloc (Obj.cells #[.int .i64 3, .int .i64 0, .slice pa2 2 pc2, .slice ca2 cl2 cc2, .slice ea2 el2 ec2] 32)).heap.size = u.heap.size + 1 := by simp
      rw [hX, ← e]
      exact new_block _ _
    have CN : Calls Try.prog 16 #[.slice pa2 2 pc2, .slice (some ⟨u.heap.size + 1, 0, none⟩) 2 2] X fun r w' => r = .returned (.bool true) ∧ Below X.heap.size X w' := by
      refine nats_same (S := fun y => y < X.heap.size) _ _ [0, 1] (fun _ h => h) ((hN.up (S' := fun y => y < u.heap.size) ?_).on (Keeps.of hXb fun _ h => h) |>.up fun y hy => Nat.lt_of_lt_of_le hy hXb.size) (.inr ⟨u.heap.size + 1, 0, 2, rfl, by simp, by simp, fun j hj => ?_⟩) (by simp)
      · exact hzl
      · match j, hj with
        | 0, _ => exact ⟨by omega, heap_cell hX2 rfl⟩
        | 1, _ => exact ⟨by omega, heap_cell hX2 rfl⟩
    have HN2 : Hid (∀ w1, Below X.heap.size X w1 → Below w.heap.size w w1 ∧ (w1.cell? ⟨b3, 3, none⟩ = some (.slice (some ⟨gc, oc, none⟩) 1 cc) ∧ w1.cell? ⟨gc, oc, none⟩ = some (.string ⟨#[67, 111, 110, 115]⟩) ∧ w1.cell? ⟨u.heap.size, 0, none⟩ = some (.int .i64 3) ∧ w1.cell? ⟨b4, 0, none⟩ = some (.bool false) ∧ w1.cell? ⟨b4, 2, none⟩ = some (.slice (some ⟨gm, om, none⟩) 1 cm) ∧ w1.cell? ⟨gm, om + 1, none⟩ = some (.string ⟨#[67, 111, 110, 115]⟩))) := fun w1 hb1 => by
      have hb : Below u.heap.size u w1 := hXb.trans (hb1.mono hXb.size)
      refine ⟨HBE.out.trans (hb.mono hlw), ?_, ?_, ?_, ?_, ?_, ?_⟩
      · exact (hb.cell (p := ⟨b3, 3, none⟩) hb3).trans (heap_cell hc3 rfl)
      · exact (hb.cell (p := ⟨gc, oc, none⟩) hz1).trans y2
      · exact (hb1.cell (p := ⟨u.heap.size, 0, none⟩) (by show u.heap.size < _; omega)).trans (heap_cell hX1 rfl)
      · exact (hb.cell (p := ⟨b4, 0, none⟩) hb4).trans (heap_cell hc4 rfl)
      · exact (hb.cell (p := ⟨b4, 2, none⟩) hb4).trans (heap_cell hc4 rfl)
      · exact (hb.cell (p := ⟨gm, om + 1, none⟩) hz3).trans y1
    have i0 : u.cell? ⟨b3, 0, none⟩ = some (.int .i64 3) := heap_cell hc3 rfl
    have i3 : u.cell? ⟨b3, 3, none⟩ = some (.slice (some ⟨gc, oc, none⟩) 1 cc) := heap_cell hc3 rfl
    have i4 : u.cell? ⟨b3, 4, none⟩ = some (.slice (some ⟨ge, oe, none⟩) 1 ec) := heap_cell hc3 rfl
    rw [hX] at CN HN2
    clear hc3 hc4 hXb hXs hX1 hX2 hX y1 y2 hz1 hz2 hz3 z1 z2 z3 hzl hN hb30 hb40 hb3 hb4 hlw HBE
    unfold awF
    rw [e3, e4, e5]
    clear e3 e4 e5
    go_wp2_with (first | (go_at_call 16; (with_reducible refine Calls.mono CN ?_); rintro e' w1 ⟨rfl, hb1⟩; obtain ⟨hbw, m0, m1, m2, m3, m4, m5⟩ := HN2.out w1 hb1; clear hb1))
    refine bodyPost_ret (v := .bool true) (by simp [results, Try.results5, go_sem]) rfl ?_
    exact ⟨hbw, rfl⟩
end Go.Proofs.Ytpdmkhnonbbhnaa
