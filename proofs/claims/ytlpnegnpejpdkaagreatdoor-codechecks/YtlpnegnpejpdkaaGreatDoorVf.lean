/- What is handed in: tables, texts, rows of bytes; and rows of constants that are laid. -/
import Derived.Test.YtlpnegnpejpdkaaGreatDoorMrx
import Derived.WideShapes
import Derived.ChangeArms
import Derived.SizedLaws
import Derived.ProofKit
import Derived.OpenShut
import Derived.Carry
import Derived.Deep.Slices
namespace Go.Proofs.YtlpnegnpejpdkaaGreatDoor
open Go.ChangeShapes Go.WideShapes Go.RowKit

set_option maxRecDepth 100000
theorem Tryz.own : ownKnob Tryz.prog.godebug = none := by kernel_rfl
theorem Tryz.laidOut : laidOutB Tryz.prog = true := by kernel_rfl
theorem Tryz.cellsOf48 : Tryz.prog.cellsOf 48 = 2 := by kernel_rfl
theorem Tryz.cellsOf51 : Tryz.prog.cellsOf 51 = 3 := by kernel_rfl
theorem Tryz.cellsOf53 : Tryz.prog.cellsOf 53 = 3 := by kernel_rfl
theorem Tryz.cellsOf3 : Tryz.prog.cellsOf 3 = 1 := by kernel_rfl
theorem Tryz.cellsOf5 : Tryz.prog.cellsOf 5 = 1 := by kernel_rfl
theorem Tryz.cellsOf9 : Tryz.prog.cellsOf 9 = 1 := by kernel_rfl
theorem Tryz.cellsOf22 : Tryz.prog.cellsOf 22 = 1 := by kernel_rfl
theorem Tryz.cellsOf23 : Tryz.prog.cellsOf 23 = 1 := by kernel_rfl
theorem Tryz.cellsOf49 : Tryz.prog.cellsOf 49 = 1 := by kernel_rfl
theorem Tryz.bytesOf48 : Tryz.prog.bytesOf 48 = 24 := by kernel_rfl
theorem Tryz.bytesOf51 : Tryz.prog.bytesOf 51 = 48 := by kernel_rfl
theorem Tryz.bytesOf53 : Tryz.prog.bytesOf 53 = 24 := by kernel_rfl
theorem Tryz.bytesOf5 : Tryz.prog.bytesOf 5 = 1 := by kernel_rfl
theorem in_add (g o k : Nat) : (⟨g, o, none⟩ : Addr).add k = ⟨g, o + k, none⟩ := by
  unfold Addr.add
  split
  · rename_i h; rw [h]; rfl
  · rfl
theorem in_spot {w : World} {a : Addr} {v : Value} (h : w.cell? a = some v) : a = ⟨a.block, a.off, none⟩ := by
  obtain ⟨b, o, s⟩ := a
  cases s with
  | none => rfl
  | some s =>
    unfold World.cell? at h
    split at h
    · simp at h
    · cases h
theorem in_weights {H : Type} {P : Program} {e : TypeId} : ∀ {l : List (DataW H)} {d : DataW H}, d ∈ l → ∀ x ∈ d.weights P e, x ∈ DataW.weightsAll P e l
  | a :: r, d, hd, x, hx => by
    simp only [DataW.weightsAll, List.mem_append]
    rcases List.mem_cons.1 hd with rfl | h
    · exact Or.inl hx
    · exact Or.inr (in_weights h x hx)
theorem inl1 {α : Type} {l : List α} (h : l.length = 1) : ∃ a, l = [a] := by
  match l, h with
  | [a], _ => exact ⟨a, rfl⟩
theorem inl2 {α : Type} {l : List α} (h : l.length = 2) : ∃ a b, l = [a, b] := by
  match l, h with
  | [a, b], _ => exact ⟨a, b, rfl⟩
theorem inl3 {α : Type} {l : List α} (h : l.length = 3) : ∃ a b c, l = [a, b, c] := by
  match l, h with
  | [a, b, c], _ => exact ⟨a, b, c, rfl⟩
/-- A slice that was handed in, or is laid, element by element. -/
theorem open_elems {H : Type} {enc : TypeId × Value → H} {held : Bool} {W : World} {t e : TypeId} (k : Nat) (ht : Tryz.prog.underlying t = some (.slice e)) (hk : Tryz.prog.cellsOf e = k) (hk0 : 0 < k) {fuel : Nat} {cs : List Value} {x : DataW H × List MemPlace} (h : DataW.trod enc Tryz.prog W 0 (fun _ => true) held fuel t cs = some x) :
    (∃ ad cap, cs = [.slice ad 0 cap] ∧ (x.1 = .nil ∨ ∃ rest, x.1 = .slice [] rest)) ∨
    ∃ g o len cap n es rest, cs = [.slice (some ⟨g, o, none⟩) len cap] ∧ 0 < len ∧ len ≤ cap ∧ g < W.heap.size ∧ x.1 = .slice es rest ∧ es.length = len ∧ fuel = n + 1 ∧ ∀ i (hi : i < es.length), ∃ (cs' : List Value) (x' : DataW H × List MemPlace), DataW.trod enc Tryz.prog W 0 (fun _ => true) held n e cs' = some x' ∧ x'.1 = es[i] ∧ cs'.length = k ∧ ∀ j, j < k → W.cell? ⟨g, o + i * k + j, none⟩ = cs'[j]? := by
  rcases DataW.trod_slice ht h with ⟨hcs, hx⟩ | ⟨a, len, cap, elems, rest, n, hn, hcs, hy2, _, hlc, hcm, hel, hx, _, _⟩
  · exact .inl ⟨none, 0, hcs, .inl (congrArg Prod.fst hx)⟩
  · have hd : x.1 = .slice (elems.map (·.1)) (rest.map (·.1)) := congrArg Prod.fst hy2
    by_cases h0 : len = 0
    · subst h0
      refine .inl ⟨some a, cap, hcs, .inr ⟨rest.map (·.1), ?_⟩⟩
      rw [hd, List.length_eq_zero_iff.1 hel]
      rfl
    · rw [hk] at hx
      have cells : ∀ i (hi : i < len), ∃ (cs' : List Value) (x' : DataW H × List MemPlace), DataW.trod enc Tryz.prog W 0 (fun _ => true) held n e cs' = some x' ∧ elems[i]? = some x' ∧ cs'.length = k ∧ ∀ j, j < k → W.cell? (a.add (i * k + j)) = cs'[j]? := by
        intro i hi
        have hi' : i < elems.length := by omega
        have hxi := hx i hi
        rw [List.getElem?_eq_getElem hi'] at hxi
        obtain ⟨cs', c1', c2'⟩ := Option.bind_eq_some_iff.1 hxi
        obtain ⟨_, hl', hcell⟩ := World.cells?_some c1'
        refine ⟨cs', _, c2', List.getElem?_eq_getElem hi', hl', fun j hj => ?_⟩
        have := hcell j hj
        rw [Deep.add_add] at this
        exact this
      obtain ⟨cs0, x0, _, _, hl0, hc0⟩ := cells 0 (by omega)
      have hc00 := hc0 0 hk0
      rw [List.getElem?_eq_getElem (by omega)] at hc00
      rw [Nat.zero_mul] at hc00
      have ha : a = ⟨a.block, a.off, none⟩ := in_spot (by exact hc00 : W.cell? (a.add 0) = some _)
      generalize a.block = g at ha
      generalize a.off = o at ha
      subst ha
      have hgl : g < W.heap.size := by
        rw [in_add] at hc00
        exact World.block_lt_of_cell? W _ hc00
      refine .inr ⟨g, o, len, cap, n, elems.map (·.1), rest.map (·.1), hcs, by omega, hlc, hgl, hd, by simpa using hel, hn, fun i hi => ?_⟩
      obtain ⟨cs', x', h1, h2, h3, h4⟩ := cells i (by simpa [hel] using hi)
      refine ⟨cs', x', h1, ?_, h3, fun j hj => ?_⟩
      · rw [List.getElem_map]
        rw [List.getElem?_eq_getElem (by simpa using hi)] at h2
        rw [Option.some.inj h2]
      · have := h4 j hj
        rw [in_add, ← Nat.add_assoc] at this
        exact this
/-- A row that was handed in. -/
theorem open_row {H : Type} {enc : TypeId × Value → H} {W : World} {α : Type} {t e : TypeId} (k bytes : Nat) (Q : Nat → Nat → α → Prop) (ht : Tryz.prog.underlying t = some (.slice e)) (hk : Tryz.prog.cellsOf e = k) (hk0 : 0 < k) (hb : Tryz.prog.bytesOf e = bytes) (hb0 : 0 < bytes) {fuel : Nat} {cs : List Value} {x : DataW H × List MemPlace} (h : DataW.trod enc Tryz.prog W 0 (fun _ => true) true fuel t cs = some x) (hz : ∀ y ∈ x.1.weights Tryz.prog t, y ≤ reachBytes)
    (each : ∀ (n : Nat) (cs' : List Value) (x' : DataW H × List MemPlace), DataW.trod enc Tryz.prog W 0 (fun _ => true) true n e cs' = some x' → (∀ y ∈ x'.1.weights Tryz.prog e, y ≤ reachBytes) → cs'.length = k → ∀ g o, g < W.heap.size → (∀ j, j < k → W.cell? ⟨g, o + j, none⟩ = cs'[j]?) → ∃ q, Q g o q) :
    ∃ ad cap qs, cs = [.slice ad qs.length cap] ∧ RowK k Q (.slice ad qs.length cap) qs ∧ qs.length < 140737488355328 := by
  rcases open_elems k ht hk hk0 h with ⟨ad, cap, hcs, _⟩ | ⟨g, o, len, cap, n, es, rest, hcs, h0, hlc, hg, hd, hel, hn, hx⟩
  · exact ⟨ad, cap, [], hcs, .inl ⟨rfl, _, _, rfl⟩, by simp⟩
  · have hlen2 : len * bytes ≤ reachBytes := by
      have h1 := hz ((es.length + rest.length) * Tryz.prog.bytesOf e) (by
        rw [hd]
        unfold DataW.weights
        rw [ht]
        exact List.mem_cons_self)
      rw [hb, hel] at h1
      refine Nat.le_trans (Nat.mul_le_mul_right _ ?_) h1
      omega
    have hlen3 : len < 140737488355328 := by
      have : len * 1 ≤ len * bytes := Nat.mul_le_mul_left _ hb0
      unfold reachBytes at hlen2
      omega
    have all : ∀ i, i < len → ∃ q, Q g (o + i * k) q := fun i hi => by
      obtain ⟨cs', x', h1, h2, h3, h4⟩ := hx i (by omega)
      refine each n cs' x' h1 (fun y hy => hz y ?_) h3 g (o + i * k) hg h4
      rw [hd]
      unfold DataW.weights
      rw [ht]
      rw [h2] at hy
      exact List.mem_cons_of_mem _ (List.mem_append_left _ (in_weights (List.getElem_mem (by omega)) _ hy))
    obtain ⟨q0, _⟩ := all 0 h0
    have some0 : Inhabited α := ⟨q0⟩
    obtain ⟨q, hq⟩ := Deep.choose_lt all
    refine ⟨some ⟨g, o, none⟩, cap, (List.range len).map q, by simpa using hcs, .inr ⟨g, o, cap, by simp, by simp; omega, by simpa using hlc, fun j hj => ?_⟩, by simpa using hlen3⟩
    have hj' : j < len := by simpa using hj
    simpa using hq j hj'
/-- A row of constants that is laid. -/
theorem laid_row {H : Type} {enc : TypeId × Value → H} {held : Bool} {W : World} {α : Type} {t e : TypeId} (k : Nat) (Q : Nat → Nat → α → Prop) (ht : Tryz.prog.underlying t = some (.slice e)) (hk : Tryz.prog.cellsOf e = k) (hk0 : 0 < k) {fuel : Nat} {cs : List Value} {x : DataW H × List MemPlace} (h : DataW.trod enc Tryz.prog W 0 (fun _ => true) held fuel t cs = some x) (D : α → DataW H) (l : List α) (rest : List (DataW H)) (hd : x.1 = .slice (l.map D) rest) (hl : l ≠ [])
    (each : ∀ (n : Nat) (cs' : List Value) (x' : DataW H × List MemPlace) (q : α), q ∈ l → DataW.trod enc Tryz.prog W 0 (fun _ => true) held n e cs' = some x' → x'.1 = D q → cs'.length = k → ∀ g o, g < W.heap.size → (∀ j, j < k → W.cell? ⟨g, o + j, none⟩ = cs'[j]?) → Q g o q) :
    ∃ ad cap, cs = [.slice ad l.length cap] ∧ RowK k Q (.slice ad l.length cap) l := by
  rcases open_elems k ht hk hk0 h with ⟨ad, cap, hcs, h1 | ⟨r, h1⟩⟩ | ⟨g, o, len, cap, n, es, rest', hcs, h0, hlc, hg, hd', hel, hn, hx⟩
  · rw [h1] at hd
    cases hd
  · rw [h1] at hd
    have h2 := (DataW.slice.inj hd).1
    exact absurd (List.map_eq_nil_iff.1 h2.symm) hl
  · rw [hd'] at hd
    have h2 := (DataW.slice.inj hd).1
    have h3 : len = l.length := by rw [← hel, h2, List.length_map]
    refine ⟨some ⟨g, o, none⟩, cap, by rw [hcs, h3], .inr ⟨g, o, cap, rfl, hl, by omega, fun j hj => ?_⟩⟩
    obtain ⟨cs', x', h4, h5, h6, h7⟩ := hx j (by omega)
    refine each n cs' x' l[j] (List.getElem_mem hj) h4 ?_ h6 g (o + j * k) hg h7
    rw [h5]
    have : es[j]? = (l.map D)[j]? := by rw [h2]
    rw [List.getElem?_eq_getElem (by omega), List.getElem?_eq_getElem (by simpa using hj), List.getElem_map] at this
    exact Option.some.inj this
theorem in_each {α : Type} {k : Nat} {Q : Nat → Nat → α → Prop} {p : α → Prop} {v : Value} {l : List α} (h : RowK k (fun g o x => Q g o x ∧ p x) v l) : RowK k Q v l ∧ ∀ x ∈ l, p x := by
  refine ⟨h.mono fun _ _ _ _ h => h.1, fun x hx => ?_⟩
  rcases h with ⟨e, _⟩ | ⟨g, o, cap, _, _, _, hr⟩
  · rw [e] at hx; simp at hx
  · obtain ⟨j, hj, rfl⟩ := List.getElem_of_mem hx
    exact (hr j hj).2
theorem open_text1 {H : Type} {enc : TypeId × Value → H} {W : World} {fuel : Nat} {c : Value} {x : DataW H × List MemPlace} (h : DataW.trod enc Tryz.prog W 0 (fun _ => true) true fuel 9 [c] = some x) (hz : ∀ y ∈ x.1.weights Tryz.prog 9, y ≤ reachBytes) : ∃ s : Byt, c = .string ⟨s.toArray⟩ ∧ s.length < 140737488355328 := by
  obtain ⟨s, e1, hy1, _⟩ := DataW.trod_string Tryz.underlying9 h
  have e1 : c = .string s := by simpa using e1
  have hd : x.1 = .lit (.string s.data.toList) := congrArg Prod.fst hy1
  have := hz s.data.toList.length (by rw [hd]; simp [DataW.weights])
  unfold reachBytes at this
  exact ⟨s.data.toList, by rw [e1], by omega⟩
theorem open_int1 {H : Type} {enc : TypeId × Value → H} {held : Bool} {W : World} {fuel : Nat} {c : Value} {x : DataW H × List MemPlace} (h : DataW.trod enc Tryz.prog W 0 (fun _ => true) held fuel 3 [c] = some x) : ∃ k : Int, c = .int .i64 k ∧ k < 9223372036854775808 ∧ x.1 = .lit (.int .i64 k) := by
  obtain ⟨k, e, hx, hw⟩ := DataW.trod_int Tryz.underlying3 h
  refine ⟨k, by simpa using e, ?_, congrArg Prod.fst hx⟩
  simp only [Lit.wf, Bool.and_eq_true, decide_eq_true_eq] at hw
  have h2 := hw.2
  have : IntKind.i64.max = 9223372036854775807 := by decide
  omega
/-- A code that was handed in. -/
theorem open_code {H : Type} {enc : TypeId × Value → H} {W : World} {fuel : Nat} {cs : List Value} {x : DataW H × List MemPlace} (h : DataW.trod enc Tryz.prog W 0 (fun _ => true) true fuel 49 cs = some x) (hz : ∀ y ∈ x.1.weights Tryz.prog 49, y ≤ reachBytes) :
    ∃ ad cap l, cs = [.slice ad l.length cap] ∧ RowE EIns W (fun y => y < W.heap.size) (fun _ => False) (.slice ad l.length cap) l ∧ l.length < 140737488355328 ∧ ∀ x ∈ l, x.2.1 < 9223372036854775808 ∧ x.2.2 < 9223372036854775808 := by
  obtain ⟨ad, cap, l, h1, h2, h3⟩ := open_row (α := Ins) 3 24 (fun g o x => (g < W.heap.size ∧ ∃ cs, EIns.C W (fun _ => False) cs x ∧ ∀ j, j < 3 → W.cell? ⟨g, o + j, none⟩ = cs[j]?) ∧ x.2.1 < 9223372036854775808 ∧ x.2.2 < 9223372036854775808) Tryz.underlying49 Tryz.cellsOf53 (by decide) Tryz.bytesOf53 (by decide) h hz (fun n cs' x' h1 h2 h3 g o hg hc => by
    obtain ⟨xs, m, hm, hx, hlen, hxl, hf⟩ := DataW.trod_struct Tryz.underlying53 h1
    obtain ⟨c0, c1, c2, rfl⟩ := inl3 h3
    obtain ⟨y0, y1, y2, rfl⟩ := inl3 (show xs.length = 3 from hxl)
    have g0 : DataW.trod enc Tryz.prog W 0 (fun _ => true) true m 3 (([c0, c1, c2].drop 0).take (Tryz.prog.cellsOf 3)) = some y0 := hf 0 _ rfl
    have g1 : DataW.trod enc Tryz.prog W 0 (fun _ => true) true m 3 (([c0, c1, c2].drop 1).take (Tryz.prog.cellsOf 3)) = some y1 := hf 1 _ rfl
    have g2 : DataW.trod enc Tryz.prog W 0 (fun _ => true) true m 3 (([c0, c1, c2].drop 2).take (Tryz.prog.cellsOf 3)) = some y2 := hf 2 _ rfl
    rw [Tryz.cellsOf3] at g0 g1 g2
    obtain ⟨k0, rfl, _, _⟩ := open_int1 g0
    obtain ⟨k1, rfl, q1, _⟩ := open_int1 g1
    obtain ⟨k2, rfl, q2, _⟩ := open_int1 g2
    exact ⟨(k0, k1, k2), ⟨hg, _, rfl, hc⟩, q1, q2⟩)
  obtain ⟨h4, h5⟩ := in_each h2
  exact ⟨ad, cap, l, h1, h4, h3, h5⟩
/-- Constructors that were handed in. -/
theorem open_shps {H : Type} {enc : TypeId × Value → H} {W : World} {fuel : Nat} {cs : List Value} {x : DataW H × List MemPlace} (h : DataW.trod enc Tryz.prog W 0 (fun _ => true) true fuel 22 cs = some x) (hz : ∀ y ∈ x.1.weights Tryz.prog 22, y ≤ reachBytes) :
    ∃ ad cap l, cs = [.slice ad l.length cap] ∧ RowE EShp W (fun y => y < W.heap.size) (fun y => y < W.heap.size) (.slice ad l.length cap) l ∧ l.length < 140737488355328 :=
  open_row (α := Shp) 2 24 (fun g o x => g < W.heap.size ∧ ∃ cs, EShp.C W (fun y => y < W.heap.size) cs x ∧ ∀ j, j < 2 → W.cell? ⟨g, o + j, none⟩ = cs[j]?) Tryz.underlying22 Tryz.cellsOf48 (by decide) Tryz.bytesOf48 (by decide) h hz (fun n cs' x' h1 h2 h3 g o hg hc => by
    obtain ⟨xs, m, hm, hx, hlen, hxl, hf⟩ := DataW.trod_struct Tryz.underlying48 h1
    obtain ⟨c0, c1, rfl⟩ := inl2 h3
    obtain ⟨y0, y1, rfl⟩ := inl2 (show xs.length = 2 from hxl)
    have g0 : DataW.trod enc Tryz.prog W 0 (fun _ => true) true m 9 (([c0, c1].drop 0).take (Tryz.prog.cellsOf 9)) = some y0 := hf 0 _ rfl
    have g1 : DataW.trod enc Tryz.prog W 0 (fun _ => true) true m 3 (([c0, c1].drop 1).take (Tryz.prog.cellsOf 3)) = some y1 := hf 1 _ rfl
    rw [Tryz.cellsOf9] at g0
    rw [Tryz.cellsOf3] at g1
    have hw : ∀ (j : Nat) (t' : TypeId) (d : DataW H), [9, 3][j]? = some t' → [y0.1, y1.1][j]? = some d → ∀ y ∈ d.weights Tryz.prog t', y ≤ reachBytes := by
      intro j t' d h4 h5 y hy
      refine h2 _ ?_
      subst hx
      show y ∈ DataW.weights Tryz.prog 48 (.agg [y0.1, y1.1])
      unfold DataW.weights
      rw [Tryz.underlying48]
      exact DataW.weights_mem_each (j := j) (t := t') h4 h5 _ hy
    obtain ⟨s, rfl, hs⟩ := open_text1 g0 (hw 0 9 y0.1 rfl rfl)
    obtain ⟨k1, rfl, _, _⟩ := open_int1 g1
    exact ⟨(s, k1), hg, _, ⟨rfl, hs⟩, hc⟩)
/-- Globals that were handed in. -/
theorem open_glbs {H : Type} {enc : TypeId × Value → H} {W : World} {fuel : Nat} {cs : List Value} {x : DataW H × List MemPlace} (h : DataW.trod enc Tryz.prog W 0 (fun _ => true) true fuel 23 cs = some x) (hz : ∀ y ∈ x.1.weights Tryz.prog 23, y ≤ reachBytes) :
    ∃ ad cap l, cs = [.slice ad l.length cap] ∧ RowE EGlb W (fun y => y < W.heap.size) (fun y => y < W.heap.size) (.slice ad l.length cap) l ∧ l.length < 140737488355328 ∧ ∀ g ∈ l, ∀ x ∈ g.2.2, x.2.1 < 9223372036854775808 ∧ x.2.2 < 9223372036854775808 := by
  obtain ⟨ad, cap, l, h1, h2, h3⟩ := open_row (α := Glb) 3 48 (fun g o x => (g < W.heap.size ∧ ∃ cs, EGlb.C W (fun y => y < W.heap.size) cs x ∧ ∀ j, j < 3 → W.cell? ⟨g, o + j, none⟩ = cs[j]?) ∧ ∀ i ∈ x.2.2, i.2.1 < 9223372036854775808 ∧ i.2.2 < 9223372036854775808) Tryz.underlying23 Tryz.cellsOf51 (by decide) Tryz.bytesOf51 (by decide) h hz (fun n cs' x' h1 h2 h3 g o hg hc => by
    obtain ⟨xs, m, hm, hx, hlen, hxl, hf⟩ := DataW.trod_struct Tryz.underlying51 h1
    obtain ⟨c0, c1, c2, rfl⟩ := inl3 h3
    obtain ⟨y0, y1, y2, rfl⟩ := inl3 (show xs.length = 3 from hxl)
    have g0 : DataW.trod enc Tryz.prog W 0 (fun _ => true) true m 9 (([c0, c1, c2].drop 0).take (Tryz.prog.cellsOf 9)) = some y0 := hf 0 _ rfl
    have g1 : DataW.trod enc Tryz.prog W 0 (fun _ => true) true m 3 (([c0, c1, c2].drop 1).take (Tryz.prog.cellsOf 3)) = some y1 := hf 1 _ rfl
    have g2 : DataW.trod enc Tryz.prog W 0 (fun _ => true) true m 49 (([c0, c1, c2].drop 2).take (Tryz.prog.cellsOf 49)) = some y2 := hf 2 _ rfl
    rw [Tryz.cellsOf9] at g0
    rw [Tryz.cellsOf3] at g1
    rw [Tryz.cellsOf49] at g2
    have hw : ∀ (j : Nat) (t' : TypeId) (d : DataW H), [9, 3, 49][j]? = some t' → [y0.1, y1.1, y2.1][j]? = some d → ∀ y ∈ d.weights Tryz.prog t', y ≤ reachBytes := by
      intro j t' d h4 h5 y hy
      refine h2 _ ?_
      subst hx
      show y ∈ DataW.weights Tryz.prog 51 (.agg [y0.1, y1.1, y2.1])
      unfold DataW.weights
      rw [Tryz.underlying51]
      exact DataW.weights_mem_each (j := j) (t := t') h4 h5 _ hy
    obtain ⟨s, rfl, hs⟩ := open_text1 g0 (hw 0 9 y0.1 rfl rfl)
    obtain ⟨k1, rfl, _, _⟩ := open_int1 g1
    obtain ⟨a2, cap2, l2, e2, hr, hl, hsm⟩ := open_code g2 (hw 2 49 y2.1 rfl rfl)
    have e2 : c2 = .slice a2 l2.length cap2 := by simpa using e2
    subst e2
    exact ⟨(s, k1, l2), ⟨hg, _, ⟨_, rfl, hs, hl, hr⟩, hc⟩, hsm⟩)
  obtain ⟨h4, h5⟩ := in_each h2
  exact ⟨ad, cap, l, h1, h4, h3, h5⟩
/-- A table that was handed in. -/
theorem open_table {H : Type} {enc : TypeId × Value → H} {W : World} {r : Reach} {b0 : Nat} {v : Value} {d : DataW H} {ps : List MemPlace} (hval : Value.okWide Tryz.prog W r b0 25 v) (h : DataW.Trod enc Tryz.prog W 0 (fun _ => true) true 25 v d ps) (hz : ∀ x ∈ d.weights Tryz.prog 25, x ≤ reachBytes) :
    ∃ sv gv t, v = .agg #[sv, gv] ∧ TabV W (fun y => y < W.heap.size) sv gv t ∧ Small t := by
  obtain ⟨cs, rfl, _⟩ := okWide_struct Tryz.underlying25 hval
  obtain ⟨fuel, hf⟩ := h
  have hf : DataW.trod enc Tryz.prog W 0 (fun _ => true) true fuel 25 cs.toList = some (d, ps) := hf
  obtain ⟨xs, m, hm, hx, hlen, hxl, hff⟩ := DataW.trod_struct Tryz.underlying25 hf
  obtain ⟨c0, c1, e⟩ := inl2 (show cs.toList.length = 2 by rw [hlen]; kernel_rfl)
  rw [e] at hff
  obtain ⟨y0, y1, rfl⟩ := inl2 (show xs.length = 2 from hxl)
  have g0 : DataW.trod enc Tryz.prog W 0 (fun _ => true) true m 22 (([c0, c1].drop 0).take (Tryz.prog.cellsOf 22)) = some y0 := hff 0 _ rfl
  have g1 : DataW.trod enc Tryz.prog W 0 (fun _ => true) true m 23 (([c0, c1].drop 1).take (Tryz.prog.cellsOf 23)) = some y1 := hff 1 _ rfl
  rw [Tryz.cellsOf22] at g0
  rw [Tryz.cellsOf23] at g1
  have hd : d = .agg [y0.1, y1.1] := congrArg Prod.fst hx
  have hw : ∀ (j : Nat) (t' : TypeId) (d' : DataW H), [22, 23][j]? = some t' → [y0.1, y1.1][j]? = some d' → ∀ y ∈ d'.weights Tryz.prog t', y ≤ reachBytes := by
    intro j t' d' h4 h5 y hy
    refine hz _ ?_
    rw [hd]
    unfold DataW.weights
    rw [Tryz.underlying25]
    exact DataW.weights_mem_each (j := j) (t := t') h4 h5 _ hy
  obtain ⟨a0, k0, l0, e0, r0, n0⟩ := open_shps g0 (hw 0 22 y0.1 rfl rfl)
  obtain ⟨a1, k1, l1, e1, r1, n1, s1⟩ := open_glbs g1 (hw 1 23 y1.1 rfl rfl)
  have u0 : c0 = .slice a0 l0.length k0 := by simpa using e0
  have u1 : c1 = .slice a1 l1.length k1 := by simpa using e1
  clear e0 e1
  subst u0 u1
  refine ⟨_, _, (l0, l1), ?_, ⟨r0, r1, n0, n1⟩, s1⟩
  have h3 : cs = cs.toList.toArray := by simp
  rw [h3, e]
/-- Bytes that were handed in. -/
theorem open_bytes {H : Type} {enc : TypeId × Value → H} {W : World} {v : Value} {a : Option Addr} {n k : Nat} (hv : v = .slice a n k) {d : DataW H} {ps : List MemPlace} (h : DataW.Trod enc Tryz.prog W 0 (fun _ => true) true 40 v d ps) (hz : ∀ x ∈ d.weights Tryz.prog 40, x ≤ reachBytes) :
    ∃ l : Byt, Bts W v l ∧ l.length < 140737488355328 := by
  obtain ⟨fuel, hf⟩ := h
  obtain ⟨ad, cap, l, h1, h2, h3⟩ := open_row (α := UInt8) 1 1 (fun g o x => g < W.heap.size ∧ W.cell? ⟨g, o, none⟩ = some (.int .u8 (x.toNat : Nat))) Tryz.underlying40 Tryz.cellsOf5 (by decide) Tryz.bytesOf5 (by decide) hf hz (fun n cs' x' h1 h2 h3 g o hg hc => by
    obtain ⟨c0, rfl⟩ := inl1 h3
    obtain ⟨k, e, _, hw⟩ := DataW.trod_int Tryz.underlying5 h1
    have e : c0 = .int .u8 k := by simpa using e
    subst e
    simp only [Lit.wf, Bool.and_eq_true, decide_eq_true_eq] at hw
    have q1 : IntKind.u8.min = 0 := by decide
    have q2 : IntKind.u8.max = 255 := by decide
    rw [q1, q2] at hw
    refine ⟨UInt8.ofNat k.toNat, hg, ?_⟩
    have h0 : W.cell? ⟨g, o, none⟩ = some (.int .u8 k) := hc 0 (by decide)
    rw [h0]
    have : (UInt8.ofNat k.toNat).toNat = k.toNat := by
      rw [UInt8.toNat_ofNat']
      omega
    rw [this]
    have : ((k.toNat : Nat) : Int) = k := by omega
    rw [this])
  have e1 : v = .slice ad l.length cap := by
    subst hv
    simpa [Value.cells] using h1
  refine ⟨l, ?_, h3⟩
  rcases h2 with ⟨h0, _⟩ | ⟨g, o, cap', e2, _, hc, hr⟩
  · exact ⟨ad, cap, e1, fun i hi => by rw [h0] at hi; simp at hi⟩
  · injection e2 with q1 q2 q3
    subst q1 q3
    refine ⟨_, _, e1, fun i hi => ⟨g, o, rfl, hc, (hr i hi).1, ?_⟩⟩
    have := (hr i hi).2
    rw [Nat.mul_one] at this
    exact this
end Go.Proofs.YtlpnegnpejpdkaaGreatDoor
