/- What missing answers, as patterns; what coverage and Compile answer, plain. -/
import Derived.Test.YtpdmkhnonbbhnaaVk
import Derived.Test.YtpdmkhnonbbhnaaVf
import Derived.Test.YtpdmkhnonbbhnaaMox
namespace Go.Proofs.Ytpdmkhnonbbhnaa
open Go.RowKit Go.Maps

def labAt (way : List Stp) (p : List Nat) : Lb × Nat := match way.find? (fun s => s.1 == p) with
  | some s => s.2
  | none => ((1, [], 0), 0)
/-- The pattern that a way says at a path. -/
def buildP (way : List Stp) : (d : Nat) → List Nat → Pn (d + 1)
  | 0, p => ((labAt way p).1, [])
  | d + 1, p => ((labAt way p).1, (List.range (labAt way p).2).map fun i => buildP way d (p ++ [i]))
def missQ (D n : Nat) (way : List Stp) : List (Pn (D + 1)) := (List.range n).map fun i => buildP way D [i]
def coverQ (D : Nat) (k : Kn) (fs : List Fam) (f : Nat) (t : Tr f) (rows : List (List Pt)) : Cv D :=
  (!(toFail k fs f t).isSome, (List.range rows.length).filter fun r => !(metP f t).contains r, match toFail k fs f t with
    | none => []
    | some way => match rows with
      | [] => []
      | r :: _ => missQ D r.length way)
/-- The rows are right. -/
def RightR (k : Kn) (rows : List (List Pt)) : Prop := (∀ x ∈ rows, x.length = (rows.headD []).length) ∧ ∀ c ∈ colsOf [] (rows.headD []).length (linesR rows), Rall k c.2.2
def treeQ (F : Nat) (k : Kn) (fs : List Fam) (rows : List (List Pt)) : Tr F × Nat := treeP k fs F 0 (colsOf [] (rows.headD []).length (linesR rows)) (List.range rows.length)
/-- What Compile answers: an error's number, or the tree and the coverage (F: 5001 levels are enough). -/
def CompIs (F : Nat) (fs : List Fam) (rows : List (List Pt)) (e : Int) (o : Option (Tr F × Cv F)) : Prop :=
  (longP rows = true ∧ e = 2 ∧ o = none) ∨ (longP rows = false ∧ ((knowF 0 [] fs = none ∧ e = 70 ∧ o = none) ∨ ∃ k, knowF 0 [] fs = some k ∧
    ((¬ RightR k rows ∧ e = 71 ∧ o = none) ∨ (RightR k rows ∧
      ((5000 < (treeQ F k fs rows).2 ∧ e = 4 ∧ o = none) ∨ ((treeQ F k fs rows).2 ≤ 5000 ∧
        (((1000 < nestP F (treeQ F k fs rows).1 ∨ deepP rows = true) ∧ e = 3 ∧ o = none) ∨ ((nestP F (treeQ F k fs rows).1 ≤ 1000 ∧ deepP rows = false) ∧ e = 0 ∧ o = some ((treeQ F k fs rows).1, coverQ F k fs F (treeQ F k fs rows).1 rows)))))))))
theorem lab_step (l : List Rs) (p : List Nat) : labAt (l.map (·.1)) p = match stepAt l p with
    | some x => x.1.2
    | none => ((1, [], 0), 0) := by
  unfold labAt stepAt
  rw [List.find?_map]
  cases h : List.find? ((fun s : Stp => s.1 == p) ∘ fun x : Rs => x.1) l with
  | none =>
    have h' : List.find? (fun x : Rs => x.1.1 == p) l = none := h
    rw [h']
    rfl
  | some x =>
    have h' : List.find? (fun x : Rs => x.1.1 == p) l = some x := h
    rw [h']
    rfl
theorem mi_pat {w : World} {lo Lb n D : Nat} {l : List Rs} {W : World} {S' : Nat → Prop} (hm : Mw w lo Lb n l) (h : Mi w lo Lb n l l.length W) (hS : ∀ y, lo ≤ y → y < W.heap.size → S' y) (hD : ∀ x ∈ l, x.1.1.length ≤ D) (hc8 : ∀ x ∈ l, x.1.2.2 ≤ 8) (hnm : ∀ x ∈ l, x.1.2.1.2.1.length < 140737488355328) :
    ∀ (d : Nat) (p : List Nat), p.length + d = D + 1 → ∀ (B i : Nat), S' B → (∀ c, c < 4 → W.cell? ⟨B, i * 4 + c, none⟩ = (contC l p)[c]?) → PnP W S' (d + 1) B (i * 4) (buildP (l.map (·.1)) d p) := by
  have hd0 : l.drop (l.length - l.length) = l := by simp
  intro d
  induction d with
  | zero =>
    intro p hp B i hB hc
    have hn : stepAt l p = none := stepAt_none fun y hy e => by
      have := hD y hy
      rw [e] at this
      omega
    have hl := lab_step l p
    rw [hn] at hl
    unfold contC at hc
    rw [hn] at hc
    unfold buildP
    rw [hl]
    exact ⟨hB, hc 0 (by omega), hc 1 (by omega), hc 2 (by omega), by simp, by simp, _, hc 3 (by omega), .inl ⟨rfl, none, 0, rfl⟩⟩
  | succ d ih =>
    intro p hp B i hB hc
    have hl := lab_step l p
    unfold contC at hc
    cases hs : stepAt l p with
    | none =>
      rw [hs] at hl hc
      unfold buildP
      rw [hl]
      exact ⟨hB, hc 0 (by omega), hc 1 (by omega), hc 2 (by omega), by simp, by simp, _, hc 3 (by omega), .inl ⟨rfl, none, 0, rfl⟩⟩
    | some x =>
      rw [hs] at hl hc
      obtain ⟨hx, hxp⟩ := stepAt_some hs
      unfold buildP
      rw [hl]
      have h8 := hc8 x hx
      refine ⟨hB, hc 0 (by omega), hc 1 (by omega), hc 2 (by omega), hnm x hx, by simp; omega, _, hc 3 (by omega), ?_⟩
      show RowP 4 (PnP W S' (d + 1)) (.slice x.2.2.1 x.1.2.2 x.2.2.2) ((List.range x.1.2.2).map fun i => buildP (l.map (·.1)) d (p ++ [i]))
      by_cases h0 : x.1.2.2 = 0
      · rw [h0]
        exact .inl ⟨rfl, _, _, rfl⟩
      · rcases hm.args x hx with ⟨_, e, _⟩ | ⟨B', e1, e2, e3, e4⟩
        · exact absurd e h0
        · have hg := h.done x (by rw [hd0]; exact hx) B' e1
          rw [hd0, hxp] at hg
          obtain ⟨cur, g1, g2, g3⟩ := hg
          refine .inr ⟨B', 0, x.2.2.2, by rw [e1]; simp, by simpa using h0, by rw [e2]; simp, fun j hj => ?_⟩
          have hj' : j < x.1.2.2 := by simpa using hj
          rw [List.getElem_map, List.getElem_range, Nat.zero_add]
          refine ih (p ++ [j]) (by simp; omega) B' j (hS B' e3 (lt_of_heap g1)) fun c hc4 => ?_
          have := g3 j hj' c hc4
          rw [← this]
          unfold World.cell?
          rw [g1]
          rfl
theorem mi_pats {w : World} {lo Lb n D : Nat} {l : List Rs} {W : World} {S' : Nat → Prop} (hm : Mw w lo Lb n l) (h : Mi w lo Lb n l l.length W) (hS : ∀ y, lo ≤ y → y < W.heap.size → S' y) (hD : ∀ x ∈ l, x.1.1.length ≤ D) (hc8 : ∀ x ∈ l, x.1.2.2 ≤ 8) (hnm : ∀ x ∈ l, x.1.2.1.2.1.length < 140737488355328) :
    Pats W S' (.slice (some ⟨Lb, 0, none⟩) n n) ((missQ D n (l.map (·.1))).map fun u => (⟨D + 1, u⟩ : Pt)) := by
  have hd0 : l.drop (l.length - l.length) = l := by simp
  by_cases h0 : n = 0
  · subst h0
    exact .inl ⟨rfl, _, _, rfl⟩
  · have hg := h.root
    rw [hd0] at hg
    obtain ⟨cur, g1, g2, g3⟩ := hg
    refine .inr ⟨Lb, 0, n, by simp [missQ], by simpa [missQ] using h0, by simp [missQ], fun j hj => ?_⟩
    have hj' : j < n := by simpa [missQ] using hj
    have e : ((missQ D n (l.map (·.1))).map fun u => (⟨D + 1, u⟩ : Pt))[j] = ⟨D + 1, buildP (l.map (·.1)) D [j]⟩ := by simp [missQ]
    rw [e, Nat.zero_add]
    refine mi_pat hm h hS hD hc8 hnm D [j] (by simp; omega) Lb j (hS Lb (Nat.le_trans hm.low hm.root) (lt_of_heap g1)) fun c hc4 => ?_
    have := g3 j hj' c hc4
    rw [List.nil_append] at this
    rw [← this]
    unfold World.cell?
    rw [g1]
    rfl
end Go.Proofs.Ytpdmkhnonbbhnaa
