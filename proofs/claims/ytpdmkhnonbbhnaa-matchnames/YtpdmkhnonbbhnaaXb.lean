/- MatchNames answers true at every table of families, rows and name, and leaves what it was handed as it was: the row's statement. No condition is added. -/
import Derived.Test.YtpdmkhnonbbhnaaXa
import Derived.Test.YtpdmkhnonbbhnaaWt
namespace Go.Proofs.Ytpdmkhnonbbhnaa
open Go.ChangeShapes Go.WideShapes Go.RowKit

set_option maxRecDepth 100000
theorem in_each {α : Type} {k : Nat} {Q : Nat → Nat → α → Prop} {p : α → Prop} {v : Value} {l : List α} (h : RowP k (fun g o x => Q g o x ∧ p x) v l) : RowP k Q v l ∧ ∀ x ∈ l, p x := by
  refine ⟨h.mono fun _ _ _ _ h => h.1, fun x hx => ?_⟩
  rcases h with ⟨e, _⟩ | ⟨g, o, cap, _, _, _, hr⟩
  · rw [e] at hx; simp at hx
  · obtain ⟨j, hj, rfl⟩ := List.getElem_of_mem hx
    exact (hr j hj).2
/-- A row of patterns that was handed in. -/
theorem open_pats {H : Type} {enc : TypeId × Value → H} {W : World} {fuel : Nat} {cs : List Value} {x : DataW H × List MemPlace} (h : DataW.trod enc Try.prog W 0 (fun _ => true) true fuel 24 cs = some x) (hz : ∀ y ∈ x.1.weights Try.prog 24, y ≤ reachBytes) :
    ∃ ad n cap ps, cs = [.slice ad n cap] ∧ n = ps.length ∧ Pats W (fun y => y < W.heap.size) (.slice ad n cap) ps ∧ ps.length < 140737488355328 := by
  obtain ⟨ad, n, cap, qs, h1, h2, h3, h4, _⟩ := open_row (α := Pt) 4 56 (PtP W (fun y => y < W.heap.size)) Try.underlying24 Try.cells39 (by decide) Try.bytes39 (by decide) h hz (fun n cs' x' _ h1 h2 h3 g' o' hg' hc' => by
    obtain ⟨t, ht⟩ := open_pat n cs' x' h1 h2 g' o' hg' hc'
    exact ⟨⟨n, t⟩, ht⟩)
  exact ⟨ad, n, cap, qs, h1, h2, h3, h4⟩
/-- Rows of patterns that were handed in. -/
theorem open_rows {H : Type} {enc : TypeId × Value → H} {W : World} {fuel : Nat} {cs : List Value} {x : DataW H × List MemPlace} (h : DataW.trod enc Try.prog W 0 (fun _ => true) true fuel 23 cs = some x) (hz : ∀ y ∈ x.1.weights Try.prog 23, y ≤ reachBytes) :
    ∃ ad n cap rows, cs = [.slice ad n cap] ∧ n = rows.length ∧ RowsAt W (fun y => y < W.heap.size) (.slice ad n cap) rows ∧ rows.length < 140737488355328 ∧ ∀ r ∈ rows, r.length < 140737488355328 := by
  obtain ⟨ad, n, cap, qs, h1, h2, h3, h4, _⟩ := open_row (α := List Pt) 1 24 (fun g o r => (g < W.heap.size ∧ ∃ ad cap, W.cell? ⟨g, o, none⟩ = some (.slice ad r.length cap) ∧ Pats W (fun y => y < W.heap.size) (.slice ad r.length cap) r) ∧ r.length < 140737488355328) Try.underlying23 Try.cells24 (by decide) Try.bytes24 (by decide) h hz (fun n cs' x' _ h1 h2 h3 g' o' hg' hc' => by
    obtain ⟨ad, n, cap, ps, rfl, rfl, hp, hl⟩ := open_pats h1 h2
    exact ⟨ps, ⟨hg', ad, cap, hc' 0 (by decide), hp⟩, hl⟩)
  obtain ⟨h5, h6⟩ := in_each h3
  exact ⟨ad, n, cap, qs, h1, h2, h5, h4, h6⟩
/-- Families that were handed in. -/
theorem open_fams {H : Type} {enc : TypeId × Value → H} {W : World} {fuel : Nat} {cs : List Value} {x : DataW H × List MemPlace} (h : DataW.trod enc Try.prog W 0 (fun _ => true) true fuel 22 cs = some x) (hz : ∀ y ∈ x.1.weights Try.prog 22, y ≤ reachBytes) :
    ∃ ad n cap fs, cs = [.slice ad n cap] ∧ n = fs.length ∧ Fams W (fun y => y < W.heap.size) (.slice ad n cap) fs ∧ fs.length < 140737488355328 ∧ (∀ f ∈ fs, f.1.length < 140737488355328 ∧ f.2.length < 140737488355328) ∧ (ad = none → fs = [] ∧ cap = 0) := by
  obtain ⟨ad, n, cap, qs, h1, h2, h3, h4, h0⟩ := open_row (α := Fam) 2 48 (fun g o f => (g < W.heap.size ∧ (∃ ad cap, W.cell? ⟨g, o, none⟩ = some (.slice ad f.1.length cap) ∧ Strs W (fun y => y < W.heap.size) (.slice ad f.1.length cap) f.1) ∧ ∃ ad cap, W.cell? ⟨g, o + 1, none⟩ = some (.slice ad f.2.length cap) ∧ Ints W (fun y => y < W.heap.size) (.slice ad f.2.length cap) f.2) ∧ f.1.length < 140737488355328 ∧ f.2.length < 140737488355328) Try.underlying22 Try.cells47 (by decide) Try.bytes47 (by decide) h hz (fun n cs' x' _ h1 h2 h3 g' o' hg' hc' => by
    obtain ⟨xs, m, hm, hx, hlen, hxl, hf⟩ := DataW.trod_struct Try.underlying47 h1
    obtain ⟨c0, c1, rfl⟩ := inl2 h3
    obtain ⟨y0, y1, rfl⟩ := inl2 (show xs.length = 2 from hxl)
    have g0 : DataW.trod enc Try.prog W 0 (fun _ => true) true m 45 (([c0, c1].drop 0).take (Try.prog.cellsOf 45)) = some y0 := hf 0 _ rfl
    have g1 : DataW.trod enc Try.prog W 0 (fun _ => true) true m 28 (([c0, c1].drop 1).take (Try.prog.cellsOf 28)) = some y1 := hf 1 _ rfl
    rw [Try.cells45] at g0
    rw [Try.cells28] at g1
    have hw : ∀ (j : Nat) (t' : TypeId) (d : DataW H), [45, 28][j]? = some t' → [y0.1, y1.1][j]? = some d → ∀ y ∈ d.weights Try.prog t', y ≤ reachBytes := by
      intro j t' d h4 h5 y hy
      refine h2 _ ?_
      subst hx
      show y ∈ DataW.weights Try.prog 47 (.agg [y0.1, y1.1])
      unfold DataW.weights
      rw [Try.underlying47]
      exact DataW.weights_mem_each (j := j) (t := t') h4 h5 _ hy
    obtain ⟨a0, n0, k0, ns, e0, hn0, hr0, hl0, _⟩ := open_row (α := Str) 1 16 (fun g o x => g < W.heap.size ∧ W.cell? ⟨g, o, none⟩ = some (.string ⟨x.toArray⟩) ∧ x.length < 140737488355328) Try.underlying45 Try.cells9 (by decide) Try.bytes9 (by decide) g0 (hw 0 45 y0.1 rfl rfl) (fun n cs' x' _ h1 h2 h3 g' o' hg' hc' => by
      obtain ⟨c, rfl⟩ := inl1 h3
      obtain ⟨s, rfl, hs⟩ := open_text1 h1 h2
      exact ⟨s, hg', hc' 0 (by decide), hs⟩)
    obtain ⟨a1, n1, k1, xs, e1, hn1, hr1, hl1, _⟩ := open_row (α := Int) 1 8 (fun g o x => g < W.heap.size ∧ W.cell? ⟨g, o, none⟩ = some (.int .i64 x)) Try.underlying28 Try.cells3 (by decide) Try.bytes3 (by decide) g1 (hw 1 28 y1.1 rfl rfl) (fun n cs' x' _ h1 h2 h3 g' o' hg' hc' => by
      obtain ⟨c, rfl⟩ := inl1 h3
      obtain ⟨k, e, _, _⟩ := DataW.trod_int Try.underlying3 h1
      have e : c = .int .i64 k := by simpa using e
      exact ⟨k, hg', by rw [← e]; exact hc' 0 (by decide)⟩)
    have e0' : c0 = .slice a0 n0 k0 := by simpa using e0
    have e1' : c1 = .slice a1 n1 k1 := by simpa using e1
    clear e0 e1
    subst e0' e1' hn0 hn1
    exact ⟨(ns, xs), ⟨hg', ⟨a0, k0, hc' 0 (by decide), hr0⟩, a1, k1, hc' 1 (by decide), hr1⟩, hl0, hl1⟩)
  obtain ⟨h5, h6⟩ := in_each h3
  exact ⟨ad, n, cap, qs, h1, h2, h5, h4, h6, h0⟩
theorem matchNames_lifted (os : Os) (started : os.Started) (H : Type) (enc : TypeId × Value → H) :
    ReturnsInHanded {} Try.checked os 4 .any (Rows.matchNamesSpec.pre6 enc Try.prog Try.f4 Rows.matchNamesRow.domain false) (Rows.matchNamesSpec.post enc Try.prog Try.f4 false true false false) := by
  refine returnsInHanded_of_change_sized (C := Try.checked) Try.own started (by kernel_rfl) Try.func4
    (ChangeSpec.witness6 (enc := enc) (C := Try.checked) false ⟨#[], #[.slice none 0 0, .slice none 0 0, .string ⟨#[]⟩], []⟩ 8 (by kernel_rfl) (by kernel_rfl) (by kernel_rfl) (by kernel_rfl)) ?_
  intro W base args ds gs before hval0 hW _ hsz0 _
  have hval : ∀ (j : Nat) t v, Try.f4.params[j]? = some t → args[j]? = some v → Value.okWide Try.prog W .any base t v := hval0
  have hsz : (DataW.weightsEach Try.prog (Try.f4.params.toList ++ Rows.matchNamesSpec.plain.varTypes Try.prog) (ds ++ gs)).all (· ≤ reachBytes) = true := hsz0
  have hW' := hW
  obtain ⟨p, q, hA0, hV0, rfl, hfz, hnd⟩ := hW
  have hA1 : DataW.TrodAll enc Try.prog W 0 (fun _ => true) true Try.f4.params.toList args.toList ds p := hA0
  have hV : DataW.TrodVars enc Try.prog W (fun _ => true) [] gs q := hV0
  rw [Try.params4] at hA1 hval hsz
  obtain ⟨v0, v1, v2, d0, d1, d2, p0, p1, p2, rfl, rfl, rfl, h0, h1, h2⟩ := trodAll_three hA1
  obtain ⟨rfl, rfl⟩ := trodVars_none hV
  have z0 : ∀ x ∈ d0.weights Try.prog 22, x ≤ reachBytes := fun x hx => by simpa using List.all_eq_true.1 hsz _ (DataW.weights_mem_each (j := 0) (t := 22) rfl rfl x hx)
  have z1 : ∀ x ∈ d1.weights Try.prog 23, x ≤ reachBytes := fun x hx => by simpa using List.all_eq_true.1 hsz _ (DataW.weights_mem_each (j := 1) (t := 23) rfl rfl x hx)
  have z2 : ∀ x ∈ d2.weights Try.prog 9, x ≤ reachBytes := fun x hx => by simpa using List.all_eq_true.1 hsz _ (DataW.weights_mem_each (j := 2) (t := 9) rfl rfl x hx)
  obtain ⟨a0, l0, k0, rfl⟩ := okWide_slice Try.underlying22 (hval 0 22 v0 rfl rfl)
  obtain ⟨a1, l1, k1, rfl⟩ := okWide_slice Try.underlying23 (hval 1 23 v1 rfl rfl)
  obtain ⟨s2, rfl⟩ := okWide_string Try.underlying9 (hval 2 9 v2 rfl rfl)
  obtain ⟨ad, n, cap, fs, e0, hn0, hF, hfl, hfw, hfa⟩ := open_fams h0.choose_spec z0
  obtain ⟨ad1, n1, cap1, rows, e1, hn1, hR, hrl, hrw⟩ := open_rows h1.choose_spec z1
  obtain ⟨nm, e2, hnm⟩ := open_text1 h2.choose_spec z2
  have e0' : a0 = ad ∧ l0 = n ∧ k0 = cap := by simpa [Value.cells] using e0
  have e1' : a1 = ad1 ∧ l1 = n1 ∧ k1 = cap1 := by simpa [Value.cells] using e1
  clear e0 e1
  obtain ⟨rfl, rfl, rfl⟩ := e0'
  obtain ⟨rfl, rfl, rfl⟩ := e1'
  subst hn0 hn1
  have hlt : ∀ x ∈ p0 ++ (p1 ++ p2), x.block < W.heap.size := fun x hx => by simpa using hW'.lt x (by simpa using hx)
  have e1 : Rows.matchNamesSpec.fn H ([d0, d1, d2] ++ []) = { results := [.lit (.bool true)], args := [d0, d1, d2] } := rfl
  obtain ⟨F, hF5⟩ : ∃ F, F = 5001 := ⟨_, rfl⟩
  have hC := names_any hF5 fs rows nm a0 a1 k0 k1 (fun _ h => h) hF hR hfl hrl hrw hfw hnm hfa
  rw [← e2] at hC
  refine Calls.mono hC fun e W' ⟨hbel, he⟩ => ?_
  subst he
  refine ⟨_, rfl, _, _, _, [], p0 ++ (p1 ++ p2), [], hW', ?_, ?_, ?_, hbel.frame _, fun h => by cases h⟩
  · rw [e1]; exact trodAll_mk1 (shut_bool Try.underlying4 true)
  · rw [e1]; exact trodAll_mk3 (Below.trod Try.laidOut (by kernel_rfl) (of_decide_eq_true (by kernel_rfl)) h0 hbel (fun x hx => hlt x (List.mem_append_left _ hx))) (Below.trod Try.laidOut (by kernel_rfl) (of_decide_eq_true (by kernel_rfl)) h1 hbel (fun x hx => hlt x (List.mem_append_right _ (List.mem_append_left _ hx)))) (Below.trod Try.laidOut (by kernel_rfl) (of_decide_eq_true (by kernel_rfl)) h2 hbel (fun x hx => hlt x (List.mem_append_right _ (List.mem_append_right _ hx))))
  · rw [e1]; rfl
theorem matchNames_holds : Rows.MatchNamesSaid :=
  OpenClaim.holds_of_wide 4 Try.f4 rfl rfl rfl rfl rfl rfl rfl ⟨rfl, rfl, rfl, rfl, rfl⟩ rfl rfl rfl rfl rfl (by kernel_rfl) Try.func4 (by kernel_rfl)
    (of_decide_eq_true (by kernel_rfl)) (by unfold Func.isWrapper; rw [if_neg (of_decide_eq_false (by kernel_rfl))]; exact ⟨rfl, rfl⟩)
    (fun os started H enc _ => matchNames_lifted os started H enc)
#print axioms matchNames_holds
end Go.Proofs.Ytpdmkhnonbbhnaa
