/- What is handed in: families and rows of patterns. Families, rows and patterns that were handed in. -/
import Derived.Test.YtpdmkhnonbbhnaaHp
import Derived.Test.YtpdmkhnonbbhnaaRows
import Derived.Deep.Slices
import Derived.WideShapes
import Derived.ChangeArms
import Derived.SizedLaws
import Derived.ProofKit
import Derived.OpenShut
import Derived.Carry
namespace Go.Proofs.Ytpdmkhnonbbhnaa
open Go.ChangeShapes Go.WideShapes Go.RowKit

set_option maxRecDepth 100000
theorem Try.own : ownKnob Try.prog.godebug = none := by kernel_rfl
theorem Try.laidOut : laidOutB Try.prog = true := by kernel_rfl
theorem Try.cells39 : Try.prog.cellsOf 39 = 4 := by kernel_rfl
theorem Try.cells47 : Try.prog.cellsOf 47 = 2 := by kernel_rfl
theorem Try.cells3 : Try.prog.cellsOf 3 = 1 := by kernel_rfl
theorem Try.cells9 : Try.prog.cellsOf 9 = 1 := by kernel_rfl
theorem Try.cells24 : Try.prog.cellsOf 24 = 1 := by kernel_rfl
theorem Try.cells28 : Try.prog.cellsOf 28 = 1 := by kernel_rfl
theorem Try.cells45 : Try.prog.cellsOf 45 = 1 := by kernel_rfl
theorem Try.bytes39 : Try.prog.bytesOf 39 = 56 := by kernel_rfl
theorem Try.bytes47 : Try.prog.bytesOf 47 = 48 := by kernel_rfl
theorem Try.bytes3 : Try.prog.bytesOf 3 = 8 := by kernel_rfl
theorem Try.bytes9 : Try.prog.bytesOf 9 = 16 := by kernel_rfl
theorem Try.bytes24 : Try.prog.bytesOf 24 = 24 := by kernel_rfl
theorem in_add (g o k : Nat) : (⟨g, o, none⟩ : Addr).add k = ⟨g, o + k, none⟩ := by
  unfold Addr.add
  split
  · rename_i h; rw [h]; rfl
  · rfl
theorem in_spot {w : World} {a : Addr} {v : Value} (h : w.cell? a = some v) : a = ⟨a.block, a.off, none⟩ := by
  obtain ⟨b, o, s⟩ := a
  cases s with
  | none => rfl
  | some s =>
    unfold World.cell? at h
    split at h
    · simp at h
    · cases h
theorem in_weights {H : Type} {P : Program} {e : TypeId} : ∀ {l : List (DataW H)} {d : DataW H}, d ∈ l → ∀ x ∈ d.weights P e, x ∈ DataW.weightsAll P e l
  | a :: r, d, hd, x, hx => by
    simp only [DataW.weightsAll, List.mem_append]
    rcases List.mem_cons.1 hd with rfl | h
    · exact Or.inl hx
    · exact Or.inr (in_weights h x hx)
theorem inl1 {α : Type} {l : List α} (h : l.length = 1) : ∃ a, l = [a] := by
  match l, h with
  | [a], _ => exact ⟨a, rfl⟩
theorem inl2 {α : Type} {l : List α} (h : l.length = 2) : ∃ a b, l = [a, b] := by
  match l, h with
  | [a, b], _ => exact ⟨a, b, rfl⟩
theorem inl4 {α : Type} {l : List α} (h : l.length = 4) : ∃ a b c d, l = [a, b, c, d] := by
  match l, h with
  | [a, b, c, d], _ => exact ⟨a, b, c, d, rfl⟩
/-- A slice that was handed in, element by element. -/
theorem open_row {H : Type} {enc : TypeId × Value → H} {W : World} {α : Type} {t e : TypeId} (k bytes : Nat) (Q : Nat → Nat → α → Prop) (ht : Try.prog.underlying t = some (.slice e)) (hk : Try.prog.cellsOf e = k) (hk0 : 0 < k) (hb : Try.prog.bytesOf e = bytes) (hb0 : 0 < bytes) {fuel : Nat} {cs : List Value} {x : DataW H × List MemPlace} (h : DataW.trod enc Try.prog W 0 (fun _ => true) true fuel t cs = some x) (hz : ∀ y ∈ x.1.weights Try.prog t, y ≤ reachBytes)
    (each : ∀ (n : Nat) (cs' : List Value) (x' : DataW H × List MemPlace), fuel = n + 1 → DataW.trod enc Try.prog W 0 (fun _ => true) true n e cs' = some x' → (∀ y ∈ x'.1.weights Try.prog e, y ≤ reachBytes) → cs'.length = k → ∀ g o, g < W.heap.size → (∀ j, j < k → W.cell? ⟨g, o + j, none⟩ = cs'[j]?) → ∃ q, Q g o q) :
    ∃ ad n cap qs, cs = [.slice ad n cap] ∧ n = qs.length ∧ RowP k Q (.slice ad n cap) qs ∧ qs.length < 140737488355328 ∧ (ad = none → qs = [] ∧ cap = 0) := by
  rcases DataW.trod_slice ht h with ⟨hcs, _⟩ | ⟨a, len, cap, elems, rest, n, hn, hcs, hy2, _, hlc, hcm, hel, hx, _, _⟩
  · exact ⟨none, 0, 0, [], hcs, rfl, .inl ⟨rfl, none, 0, rfl⟩, by simp, fun _ => ⟨rfl, rfl⟩⟩
  · by_cases h0 : len = 0
    · subst h0
      exact ⟨some a, 0, cap, [], hcs, rfl, .inl ⟨rfl, _, _, rfl⟩, by simp, fun e => by cases e⟩
    · rw [hk] at hx
      have hd : x.1 = .slice (elems.map (·.1)) (rest.map (·.1)) := congrArg Prod.fst hy2
      have hlen2 : len * bytes ≤ reachBytes := by
        have h1 := hz ((elems.map (·.1)).length + (rest.map (·.1)).length |> (· * Try.prog.bytesOf e)) (by
          rw [hd]
          unfold DataW.weights
          rw [ht]
          exact List.mem_cons_self)
        rw [hb] at h1
        simp only [List.length_map, hel] at h1
        refine Nat.le_trans (Nat.mul_le_mul_right _ ?_) h1
        omega
      have hlen3 : len < 140737488355328 := by
        have : len * 1 ≤ len * bytes := Nat.mul_le_mul_left _ hb0
        unfold reachBytes at hlen2
        omega
      have cells : ∀ i, i < len → ∃ (cs' : List Value) (x' : DataW H × List MemPlace), DataW.trod enc Try.prog W 0 (fun _ => true) true n e cs' = some x' ∧ (∀ y ∈ x'.1.weights Try.prog e, y ≤ reachBytes) ∧ cs'.length = k ∧ ∀ j, j < k → W.cell? (a.add (i * k + j)) = cs'[j]? := by
        intro i hi
        have hi' : i < elems.length := by omega
        have hxi := hx i hi
        rw [List.getElem?_eq_getElem hi'] at hxi
        obtain ⟨cs', c1', c2'⟩ := Option.bind_eq_some_iff.1 hxi
        obtain ⟨_, hl', hcell⟩ := World.cells?_some c1'
        refine ⟨cs', _, c2', fun y hy => hz y ?_, hl', fun j hj => ?_⟩
        · rw [hd]
          unfold DataW.weights
          rw [ht]
          exact List.mem_cons_of_mem _ (List.mem_append_left _ (in_weights (d := elems[i].1) (List.mem_map.2 ⟨elems[i], List.getElem_mem hi', rfl⟩) _ hy))
        · have := hcell j hj
          rw [Deep.add_add] at this
          exact this
      obtain ⟨cs0, x0, _, _, hl0, hc0⟩ := cells 0 (by omega)
      have hc00 := hc0 0 hk0
      rw [List.getElem?_eq_getElem (by omega)] at hc00
      rw [Nat.zero_mul] at hc00
      have ha : a = ⟨a.block, a.off, none⟩ := in_spot (by exact hc00 : W.cell? (a.add 0) = some _)
      generalize a.block = g at ha
      generalize a.off = o at ha
      subst ha
      have hgl : g < W.heap.size := by
        rw [in_add] at hc00
        exact World.block_lt_of_cell? W _ hc00
      have all : ∀ i, i < len → ∃ q, Q g (o + i * k) q := fun i hi => by
        obtain ⟨cs', x', h1, h2, h3, h4⟩ := cells i hi
        refine each n cs' x' hn h1 h2 h3 g (o + i * k) hgl fun j hj => ?_
        have := h4 j hj
        rw [in_add, ← Nat.add_assoc] at this
        exact this
      obtain ⟨q0, _⟩ := all 0 (by omega)
      have some0 : Inhabited α := ⟨q0⟩
      obtain ⟨q, hq⟩ := Deep.choose_lt all
      refine ⟨some ⟨g, o, none⟩, len, cap, (List.range len).map q, hcs, by simp, .inr ⟨g, o, cap, by simp, by simp [h0], by simpa using hlc, fun j hj => ?_⟩, by simpa using hlen3, fun e => by cases e⟩
      have hj' : j < len := by simpa using hj
      simpa using hq j hj'
theorem open_text1 {H : Type} {enc : TypeId × Value → H} {W : World} {fuel : Nat} {c : Value} {x : DataW H × List MemPlace} (h : DataW.trod enc Try.prog W 0 (fun _ => true) true fuel 9 [c] = some x) (hz : ∀ y ∈ x.1.weights Try.prog 9, y ≤ reachBytes) : ∃ s : Str, c = .string ⟨s.toArray⟩ ∧ s.length < 140737488355328 := by
  obtain ⟨s, e1, hy1, _⟩ := DataW.trod_string Try.underlying9 h
  have e1 : c = .string s := by simpa using e1
  have hd : x.1 = .lit (.string s.data.toList) := congrArg Prod.fst hy1
  have := hz s.data.toList.length (by rw [hd]; simp [DataW.weights])
  unfold reachBytes at this
  exact ⟨s.data.toList, by rw [e1], by omega⟩
/-- A pattern, with room for one level more. -/
def upP : (d : Nat) → Pn d → Pn (d + 1)
  | 0, t => t.elim
  | d + 1, t => (t.1, t.2.map (upP d))
theorem PnP.up1 {w : World} {S : Nat → Prop} : ∀ (d g o : Nat) (t : Pn d), PnP w S d g o t → PnP w S (d + 1) g o (upP d t)
  | 0, _, _, _, h => h.elim
  | d + 1, _, _, _, ⟨h0, h1, h2, h3, h4, h5, v, h6, h7⟩ => ⟨h0, h1, h2, h3, h4, by show (List.map _ _).length < _; rw [List.length_map]; exact h5, v, h6, RowP.map (upP d) (fun g o p h => PnP.up1 d g o p h) h7⟩
theorem open_pat {H : Type} {enc : TypeId × Value → H} {W : World} : ∀ (fuel : Nat) (cs : List Value) (x : DataW H × List MemPlace), DataW.trod enc Try.prog W 0 (fun _ => true) true fuel 39 cs = some x → (∀ y ∈ x.1.weights Try.prog 39, y ≤ reachBytes) → ∀ g o, g < W.heap.size → (∀ j, j < 4 → W.cell? ⟨g, o + j, none⟩ = cs[j]?) →
    ∃ t : Pn fuel, PnP W (fun y => y < W.heap.size) fuel g o t
  | 0, _, _, h, _ => by simp [DataW.trod] at h
  | fuel + 1, cs, x, h, hz => fun g o hg hc => by
    obtain ⟨xs, m, hm, hx, hlen, hxl, hf⟩ := DataW.trod_struct Try.underlying39 h
    obtain rfl : fuel = m := by omega
    rw [Try.cells39] at hlen
    obtain ⟨c0, c1, c2, c3, rfl⟩ := inl4 hlen
    obtain ⟨y0, y1, y2, y3, rfl⟩ := inl4 (show xs.length = 4 from hxl)
    have g0 : DataW.trod enc Try.prog W 0 (fun _ => true) true fuel 3 (([c0, c1, c2, c3].drop 0).take (Try.prog.cellsOf 3)) = some y0 := hf 0 _ rfl
    have g1 : DataW.trod enc Try.prog W 0 (fun _ => true) true fuel 9 (([c0, c1, c2, c3].drop 1).take (Try.prog.cellsOf 9)) = some y1 := hf 1 _ rfl
    have g2 : DataW.trod enc Try.prog W 0 (fun _ => true) true fuel 3 (([c0, c1, c2, c3].drop 2).take (Try.prog.cellsOf 3)) = some y2 := hf 2 _ rfl
    have g3 : DataW.trod enc Try.prog W 0 (fun _ => true) true fuel 24 (([c0, c1, c2, c3].drop 3).take (Try.prog.cellsOf 24)) = some y3 := hf 3 _ rfl
    rw [Try.cells3] at g0 g2
    rw [Try.cells9] at g1
    rw [Try.cells24] at g3
    have hw : ∀ (j : Nat) (t' : TypeId) (d : DataW H), [3, 9, 3, 24][j]? = some t' → [y0.1, y1.1, y2.1, y3.1][j]? = some d → ∀ y ∈ d.weights Try.prog t', y ≤ reachBytes := by
      intro j t' d h1 h2 y hy
      refine hz _ ?_
      subst hx
      show y ∈ DataW.weights Try.prog 39 (.agg [y0.1, y1.1, y2.1, y3.1])
      unfold DataW.weights
      rw [Try.underlying39]
      exact DataW.weights_mem_each (j := j) (t := t') h1 h2 _ hy
    obtain ⟨k, e0, _, _⟩ := DataW.trod_int Try.underlying3 g0
    obtain ⟨s, e1, hsl⟩ := open_text1 g1 (hw 1 9 y1.1 rfl rfl)
    obtain ⟨k2, e2, _, _⟩ := DataW.trod_int Try.underlying3 g2
    have e0 : c0 = .int .i64 k := by simpa using e0
    have e2 : c2 = .int .i64 k2 := by simpa using e2
    obtain ⟨ad, n, cap, qs, e3, hn, hr, hl, _⟩ := open_row (α := Pn fuel) 4 56 (PnP W (fun y => y < W.heap.size) fuel) Try.underlying24 Try.cells39 (by decide) Try.bytes39 (by decide) g3 (hw 3 24 y3.1 rfl rfl) (fun n cs' x' hn h1 h2 h3 g' o' hg' hc' => by
      subst hn
      obtain ⟨t, ht⟩ := open_pat n cs' x' h1 h2 g' o' hg' hc'
      exact ⟨upP n t, PnP.up1 n g' o' t ht⟩)
    have e3 : c3 = .slice ad n cap := by simpa using e3
    subst hn
    refine ⟨((k, s, k2), qs), hg, ?_, ?_, ?_, hsl, hl, .slice ad qs.length cap, ?_, hr⟩
    · have := hc 0 (by decide); rw [e0] at this; exact this
    · have := hc 1 (by decide); rw [e1] at this; exact this
    · have := hc 2 (by decide); rw [e2] at this; exact this
    · have := hc 3 (by decide); rw [e3] at this; exact this
end Go.Proofs.Ytpdmkhnonbbhnaa

namespace Go.Proofs.Ytpdmkhnonbbhnaa
open Go.ChangeShapes Go.WideShapes Go.RowKit

set_option maxRecDepth 100000
theorem in_eachD {α : Type} {k : Nat} {Q : Nat → Nat → α → Prop} {p : α → Prop} {v : Value} {l : List α} (h : RowP k (fun g o x => Q g o x ∧ p x) v l) : RowP k Q v l ∧ ∀ x ∈ l, p x := by
  refine ⟨h.mono fun _ _ _ _ h => h.1, fun x hx => ?_⟩
  rcases h with ⟨e, _⟩ | ⟨g, o, cap, _, _, _, hr⟩
  · rw [e] at hx; simp at hx
  · obtain ⟨j, hj, rfl⟩ := List.getElem_of_mem hx
    exact (hr j hj).2
/-- A row of patterns that was handed in. -/
theorem open_patsD {H : Type} {enc : TypeId × Value → H} {W : World} {fuel : Nat} {cs : List Value} {x : DataW H × List MemPlace} (h : DataW.trod enc Try.prog W 0 (fun _ => true) true fuel 24 cs = some x) (hz : ∀ y ∈ x.1.weights Try.prog 24, y ≤ reachBytes) :
    ∃ ad n cap ps, cs = [.slice ad n cap] ∧ n = ps.length ∧ Pats W (fun y => y < W.heap.size) (.slice ad n cap) ps ∧ ps.length < 140737488355328 := by
  obtain ⟨ad, n, cap, qs, h1, h2, h3, h4, _⟩ := open_row (α := Pt) 4 56 (PtP W (fun y => y < W.heap.size)) Try.underlying24 Try.cells39 (by decide) Try.bytes39 (by decide) h hz (fun n cs' x' _ h1 h2 h3 g' o' hg' hc' => by
    obtain ⟨t, ht⟩ := open_pat n cs' x' h1 h2 g' o' hg' hc'
    exact ⟨⟨n, t⟩, ht⟩)
  exact ⟨ad, n, cap, qs, h1, h2, h3, h4⟩
/-- Rows of patterns that were handed in. -/
theorem open_rowsD {H : Type} {enc : TypeId × Value → H} {W : World} {fuel : Nat} {cs : List Value} {x : DataW H × List MemPlace} (h : DataW.trod enc Try.prog W 0 (fun _ => true) true fuel 23 cs = some x) (hz : ∀ y ∈ x.1.weights Try.prog 23, y ≤ reachBytes) :
    ∃ ad n cap rows, cs = [.slice ad n cap] ∧ n = rows.length ∧ RowsAt W (fun y => y < W.heap.size) (.slice ad n cap) rows ∧ rows.length < 140737488355328 ∧ ∀ r ∈ rows, r.length < 140737488355328 := by
  obtain ⟨ad, n, cap, qs, h1, h2, h3, h4, _⟩ := open_row (α := List Pt) 1 24 (fun g o r => (g < W.heap.size ∧ ∃ ad cap, W.cell? ⟨g, o, none⟩ = some (.slice ad r.length cap) ∧ Pats W (fun y => y < W.heap.size) (.slice ad r.length cap) r) ∧ r.length < 140737488355328) Try.underlying23 Try.cells24 (by decide) Try.bytes24 (by decide) h hz (fun n cs' x' _ h1 h2 h3 g' o' hg' hc' => by
    obtain ⟨ad, n, cap, ps, rfl, rfl, hp, hl⟩ := open_patsD h1 h2
    exact ⟨ps, ⟨hg', ad, cap, hc' 0 (by decide), hp⟩, hl⟩)
  obtain ⟨h5, h6⟩ := in_eachD h3
  exact ⟨ad, n, cap, qs, h1, h2, h5, h4, h6⟩
/-- Families that were handed in. -/
theorem open_famsD {H : Type} {enc : TypeId × Value → H} {W : World} {fuel : Nat} {cs : List Value} {x : DataW H × List MemPlace} (h : DataW.trod enc Try.prog W 0 (fun _ => true) true fuel 22 cs = some x) (hz : ∀ y ∈ x.1.weights Try.prog 22, y ≤ reachBytes) :
    ∃ ad n cap fs, cs = [.slice ad n cap] ∧ n = fs.length ∧ Fams W (fun y => y < W.heap.size) (.slice ad n cap) fs ∧ fs.length < 140737488355328 ∧ (∀ f ∈ fs, f.1.length < 140737488355328 ∧ f.2.length < 140737488355328) ∧ (ad = none → fs = [] ∧ cap = 0) := by
  obtain ⟨ad, n, cap, qs, h1, h2, h3, h4, h0⟩ := open_row (α := Fam) 2 48 (fun g o f => (g < W.heap.size ∧ (∃ ad cap, W.cell? ⟨g, o, none⟩ = some (.slice ad f.1.length cap) ∧ Strs W (fun y => y < W.heap.size) (.slice ad f.1.length cap) f.1) ∧ ∃ ad cap, W.cell? ⟨g, o + 1, none⟩ = some (.slice ad f.2.length cap) ∧ Ints W (fun y => y < W.heap.size) (.slice ad f.2.length cap) f.2) ∧ f.1.length < 140737488355328 ∧ f.2.length < 140737488355328) Try.underlying22 Try.cells47 (by decide) Try.bytes47 (by decide) h hz (fun n cs' x' _ h1 h2 h3 g' o' hg' hc' => by
    obtain ⟨xs, m, hm, hx, hlen, hxl, hf⟩ := DataW.trod_struct Try.underlying47 h1
    obtain ⟨c0, c1, rfl⟩ := inl2 h3
    obtain ⟨y0, y1, rfl⟩ := inl2 (show xs.length = 2 from hxl)
    have g0 : DataW.trod enc Try.prog W 0 (fun _ => true) true m 45 (([c0, c1].drop 0).take (Try.prog.cellsOf 45)) = some y0 := hf 0 _ rfl
    have g1 : DataW.trod enc Try.prog W 0 (fun _ => true) true m 28 (([c0, c1].drop 1).take (Try.prog.cellsOf 28)) = some y1 := hf 1 _ rfl
    rw [Try.cells45] at g0
    rw [Try.cells28] at g1
    have hw : ∀ (j : Nat) (t' : TypeId) (d : DataW H), [45, 28][j]? = some t' → [y0.1, y1.1][j]? = some d → ∀ y ∈ d.weights Try.prog t', y ≤ reachBytes := by
      intro j t' d h4 h5 y hy
      refine h2 _ ?_
      subst hx
      show y ∈ DataW.weights Try.prog 47 (.agg [y0.1, y1.1])
      unfold DataW.weights
      rw [Try.underlying47]
      exact DataW.weights_mem_each (j := j) (t := t') h4 h5 _ hy
    obtain ⟨a0, n0, k0, ns, e0, hn0, hr0, hl0, _⟩ := open_row (α := Str) 1 16 (fun g o x => g < W.heap.size ∧ W.cell? ⟨g, o, none⟩ = some (.string ⟨x.toArray⟩) ∧ x.length < 140737488355328) Try.underlying45 Try.cells9 (by decide) Try.bytes9 (by decide) g0 (hw 0 45 y0.1 rfl rfl) (fun n cs' x' _ h1 h2 h3 g' o' hg' hc' => by
      obtain ⟨c, rfl⟩ := inl1 h3
      obtain ⟨s, rfl, hs⟩ := open_text1 h1 h2
      exact ⟨s, hg', hc' 0 (by decide), hs⟩)
    obtain ⟨a1, n1, k1, xs, e1, hn1, hr1, hl1, _⟩ := open_row (α := Int) 1 8 (fun g o x => g < W.heap.size ∧ W.cell? ⟨g, o, none⟩ = some (.int .i64 x)) Try.underlying28 Try.cells3 (by decide) Try.bytes3 (by decide) g1 (hw 1 28 y1.1 rfl rfl) (fun n cs' x' _ h1 h2 h3 g' o' hg' hc' => by
      obtain ⟨c, rfl⟩ := inl1 h3
      obtain ⟨k, e, _, _⟩ := DataW.trod_int Try.underlying3 h1
      have e : c = .int .i64 k := by simpa using e
      exact ⟨k, hg', by rw [← e]; exact hc' 0 (by decide)⟩)
    have e0' : c0 = .slice a0 n0 k0 := by simpa using e0
    have e1' : c1 = .slice a1 n1 k1 := by simpa using e1
    clear e0 e1
    subst e0' e1' hn0 hn1
    exact ⟨(ns, xs), ⟨hg', ⟨a0, k0, hc' 0 (by decide), hr0⟩, a1, k1, hc' 1 (by decide), hr1⟩, hl0, hl1⟩)
  obtain ⟨h5, h6⟩ := in_eachD h3
  exact ⟨ad, n, cap, qs, h1, h2, h5, h4, h6, h0⟩
end Go.Proofs.Ytpdmkhnonbbhnaa
