/- awake: what Compile answers there (plain). awake: what its two calls find in memory, and what Compile answers there. -/
import Derived.Test.YtpdmkhnonbbhnaaWd
import Derived.Test.YtpdmkhnonbbhnaaMsx
import Derived.Test.YtpdmkhnonbbhnaaWb
import Derived.Test.YtpdmkhnonbbhnaaWc
import Derived.Deep.RegionHeld3
namespace Go.Proofs.Ytpdmkhnonbbhnaa

def awN : Str := [78, 105, 108]
def awC : Str := [67, 111, 110, 115]
def awP : Pt := ⟨2, ((4, awC, 0), [((2, [120], 0), []), ((4, awN, 0), [])])⟩
def awK : Kn := [(awN, 0, 0, 0), (awC, 0, 1, 2)]
def awT (f : Nat) : Tr (f + 3) := ((3, 0, [0]), [((awC, 0), ((3, 0, [0, 1]), [((awN, 0), ((2, 0, []), [], []))], [((1, 0, []), [], [])]))], [((1, 0, []), [], [])])
theorem aw_know : knowF 0 [] [listF] = some awK := by decide
theorem aw_tree (f : Nat) : treeQ (f + 3) awK [listF] [[awP]] = (awT f, 5) := by rfl
theorem aw_long : longP [[awP]] = false := by decide
theorem aw_nest (f : Nat) : nestP (f + 3) (awT f) = 3 := by rfl
theorem aw_deep : deepP [[awP]] = false := by decide
theorem aw_cols : colsOf [] (([[awP]] : List (List Pt)).headD []).length (linesR [[awP]]) = [([], 0, [(0, awP)])] := by rfl
theorem aw_right : RightR awK [[awP]] := by
  refine ⟨fun x hx => by rw [List.mem_singleton.1 hx]; rfl, fun c hc d => ?_⟩
  rw [aw_cols] at hc
  rw [List.mem_singleton.1 hc]
  match d with
  | 0 => rfl
  | 1 => rfl
  | d + 2 => rfl
def awW : List Stp := [([0, 1], ((4, awC, 0), 2)), ([0], ((4, awC, 0), 2))]
theorem aw_fail (f : Nat) : toFail awK [listF] (f + 3) (awT f) = some awW := by rfl
theorem aw_idle (f : Nat) : ((List.range ([[awP]] : List (List Pt)).length).filter fun r => !(metP (f + 3) (awT f)).contains r) = [] := by rfl
theorem aw_cover (f : Nat) : coverQ (f + 3) awK [listF] (f + 3) (awT f) [[awP]] = (false, [], missQ (f + 3) 1 awW) := by
  unfold coverQ
  rw [aw_fail, aw_idle]
  rfl
theorem aw_miss (f : Nat) : (missQ (f + 3) 1 awW).map (fun u => Pt.name ⟨f + 3 + 1, u⟩) = [awC] := by rfl
/-- What Compile answers there. -/
theorem aw_comp (f : Nat) : CompIs (f + 3) [listF] [[awP]] 0 (some (awT f, (false, [], missQ (f + 3) 1 awW))) := by
  refine .inr ⟨aw_long, .inr ⟨awK, aw_know, .inr ⟨aw_right, .inr ⟨by rw [aw_tree]; exact (by decide : 5 ≤ 5000), .inr ⟨⟨by rw [aw_tree, aw_nest]; decide, aw_deep⟩, rfl, ?_⟩⟩⟩⟩⟩
  rw [aw_tree, aw_cover]
end Go.Proofs.Ytpdmkhnonbbhnaa

namespace Go.Proofs.Ytpdmkhnonbbhnaa
open Go.RowKit Go.Maps

/-- What Compile answered, in blocks of Z. -/
def Ans (w : World) (Z : Nat → Prop) (r : Value) : Prop := ∃ pa pc gc oc cc ge oe ec ad1 c1 gm om cm, r = .tuple #[.agg #[.int .i64 3, .int .i64 0, .slice pa 1 pc, .slice (some ⟨gc, oc, none⟩) 1 cc, .slice (some ⟨ge, oe, none⟩) 1 ec], .agg #[.bool false, .slice ad1 0 c1, .slice (some ⟨gm, om, none⟩) 1 cm], .int .i64 0] ∧
  (Z gc ∧ Z ge ∧ Z gm) ∧ w.cell? ⟨ge, oe, none⟩ = some (.int .i64 1) ∧ w.cell? ⟨gm, om + 1, none⟩ = some (.string ⟨awC.toArray⟩) ∧ w.cell? ⟨gc, oc, none⟩ = some (.string ⟨awC.toArray⟩) ∧
  ∃ pa2 pc2 ca2 cl2 cc2 ea2 el2 ec2, (w.cell? ⟨gc, oc + 2, none⟩ = some (.int .i64 3) ∧ w.cell? ⟨gc, oc + 3, none⟩ = some (.int .i64 0) ∧ w.cell? ⟨gc, oc + 4, none⟩ = some (.slice pa2 2 pc2) ∧ w.cell? ⟨gc, oc + 5, none⟩ = some (.slice ca2 cl2 cc2) ∧ w.cell? ⟨gc, oc + 6, none⟩ = some (.slice ea2 el2 ec2)) ∧ Nats w Z (.slice pa2 2 pc2) [0, 1]
def AwPost (W : World) (r : Ending) (w' : World) : Prop := Below W.heap.size W w' ∧ ∃ x, r = .returned x ∧ Ans w' (fun y => W.heap.size ≤ y ∧ y < w'.heap.size) x
theorem aw_calls {F : Nat} (hF : F = 5001) {W : World} {S : Nat → Prop} (fa : Option Addr) (fc : Nat) (rv : Value) (hS : ∀ b, S b → b < W.heap.size) (hFm : Fams W S (.slice fa 1 fc) [listF]) (hR : RowsAt W S rv [[awP]]) : Calls Try.prog 8 #[.slice fa 1 fc, rv] W (AwPost W) := by
  obtain ⟨f, rfl⟩ : ∃ f, F = f + 3 := ⟨4998, hF⟩
  refine Calls.mono (compile_any hF [listF] [[awP]] fa fc rv hS hFm hR (by simp) (by simp [listF]) (by decide)) ?_
  rintro r w' ⟨hb, ⟨e, hc, he, _⟩ | ⟨t, c, x, ad1, c1, ad2, c2, hc, rfl, ht, h1, h2⟩⟩
  · exact absurd (comp_one (aw_comp f) hc).1 he
  · obtain ⟨_, h3⟩ := comp_one (aw_comp f) hc
    injection h3 with h3
    injection h3 with h3 h4
    subst h3 h4
    refine ⟨hb, ?_⟩
    obtain ⟨pa, pc, ca, cc, ea, ec, rfl, hN, hCs, hEs⟩ := ht
    rcases hCs with ⟨e, _⟩ | ⟨gc, oc, cc', e1, _, hcc, hcr⟩
    · cases e
    rcases hEs with ⟨e, _⟩ | ⟨ge, oe, ec', e2, _, hec, her⟩
    · cases e
    rcases h2 with ⟨e, _⟩ | ⟨gm, om, cm, e3, _, hcm, hmr⟩
    · cases e
    have q : CaseT w' (fun y => W.heap.size ≤ y ∧ y < w'.heap.size) (f + 2) gc oc ((awC, 0), ((3, 0, [0, 1]), [((awN, 0), ((2, 0, []), [], []))], [((1, 0, []), [], [])])) := hcr 0 Nat.one_pos
    have q2 : ElseT w' (fun y => W.heap.size ≤ y ∧ y < w'.heap.size) (f + 2) ge oe ((1, 0, []), [], []) := her 0 Nat.one_pos
    have q3 := (PtP.open (hmr 0 Nat.one_pos)).2.2.1
    have s3 := (PtP.open (hmr 0 Nat.one_pos)).1
    obtain ⟨s0, k0, k1, _, v0, v1, v2, v3, v4, k2, k3, k4, k5, k6, hin⟩ := q
    obtain ⟨pa2, pc2, ca2, cc2, ea2, ec2, e4, hN2, _, _⟩ := hin
    obtain ⟨s1, u0, u1, u2, u3, u4, d0, d1, d2, d3, d4, hin2⟩ := q2
    obtain ⟨pa3, pc3, ca3, cc3, ea3, ec3, e5, _⟩ := hin2
    injection e1 with e1 _ _
    injection e2 with e2 _ _
    injection e3 with e3 _ _
    subst e1 e2 e3
    injection e4 with e4
    injection e5 with e5
    have a0 : v0 = .int .i64 3 := by injection e4 with e4; injection e4
    have a1 : v1 = .int .i64 0 := by injection e4 with e4; injection e4 with _ e4; injection e4
    have a2 : v2 = .slice pa2 2 pc2 := by injection e4 with e4; injection e4 with _ e4; injection e4 with _ e4; injection e4
    have a3 : v3 = .slice ca2 1 cc2 := by injection e4 with e4; injection e4 with _ e4; injection e4 with _ e4; injection e4 with _ e4; injection e4
    have a4 : v4 = .slice ea2 1 ec2 := by injection e4 with e4; injection e4 with _ e4; injection e4 with _ e4; injection e4 with _ e4; injection e4 with _ e4; injection e4
    have b0 : u0 = .int .i64 1 := by injection e5 with e5; injection e5
    subst a0 a1 a2 a3 a4 b0
    exact ⟨_, rfl, pa, pc, gc, oc, cc, ge, oe, ec, ad1, c1, gm, om, c2, rfl, ⟨s0, s1, s3⟩, d0, q3, k0, pa2, pc2, ca2, 1, cc2, ea2, 1, ec2, ⟨k2, k3, k4, k5, k6⟩, hN2⟩
theorem aw_row {W : World} {S : Nat → Prop} {A X Y : Nat} (hA : W.heap[A]? = some (.cells #[.int .i64 2, .string ⟨#[120]⟩, .int .i64 0, .slice none 0 0, .int .i64 4, .string ⟨#[78, 105, 108]⟩, .int .i64 0, .slice none 0 0] 39 (0, 0))) (hX : W.heap[X]? = some (.cells #[.int .i64 4, .string ⟨#[67, 111, 110, 115]⟩, .int .i64 0, .slice (some ⟨A, 0, none⟩) 2 2] 39 (0, 0))) (hY : W.heap[Y]? = some (.cells #[.slice (some ⟨X, 0, none⟩) 1 1] 24 (0, 0))) (sA : S A) (sX : S X) (sY : S Y) : RowsAt W S (.slice (some ⟨Y, 0, none⟩) 1 1) [[awP]] := by
  have leaf : ∀ (l : Lb), l.2.1.length < 140737488355328 → ∀ o, W.cell? ⟨A, o, none⟩ = some (.int .i64 l.1) → W.cell? ⟨A, o + 1, none⟩ = some (.string ⟨l.2.1.toArray⟩) → W.cell? ⟨A, o + 2, none⟩ = some (.int .i64 l.2.2) → W.cell? ⟨A, o + 3, none⟩ = some (.slice none 0 0) → PnP W S 1 A o (l, []) := fun l hl o h0 h1 h2 h3 => ⟨sA, h0, h1, h2, hl, by simp, _, h3, .inl ⟨rfl, _, _, rfl⟩⟩
  have hp : PnP W S 2 X 0 awP.2 := by
    refine ⟨sX, heap_cell' hX rfl, heap_cell' hX rfl, heap_cell' hX rfl, by decide, by decide, _, heap_cell' hX rfl, .inr ⟨A, 0, 2, rfl, by simp [awP], Nat.le_refl _, fun j hj => ?_⟩⟩
    match j, hj with
    | 0, _ => exact leaf (2, [120], 0) (by decide) 0 (heap_cell' hA rfl) (heap_cell' hA rfl) (heap_cell' hA rfl) (heap_cell' hA rfl)
    | 1, _ => exact leaf (4, awN, 0) (by decide) 4 (heap_cell' hA rfl) (heap_cell' hA rfl) (heap_cell' hA rfl) (heap_cell' hA rfl)
  refine .inr ⟨Y, 0, 1, rfl, by simp, by simp, fun j hj => ?_⟩
  match j, hj with
  | 0, _ =>
    refine ⟨sY, _, _, heap_cell' hY rfl, .inr ⟨X, 0, 1, rfl, by simp, by simp, fun j hj => ?_⟩⟩
    match j, hj with
    | 0, _ => exact hp
end Go.Proofs.Ytpdmkhnonbbhnaa
