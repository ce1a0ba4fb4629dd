/- A value of type Type that was handed in is a tree in memory. -/
import Derived.Test.YtgdflaapgfpdeaaGreatDoorMdx
import Derived.Test.YtgdflaapgfpdeaaGreatDoorRows
import Derived.Deep.Slices
import Derived.WideShapes
import Derived.ChangeArms
import Derived.SizedLaws
namespace Go.Proofs.YtgdflaapgfpdeaaGreatDoor
open Go.RowKit

/-- A tree, with room for one level more. -/
def up : (d : Nat) → Tn d → Tn (d + 1)
  | 0, t => t.elim
  | d + 1, t => (t.1, t.2.map (up d))
theorem flat_up : ∀ (d : Nat) (t : Tn d), flat (d + 1) (up d t) = flat d t
  | 0, t => t.elim
  | d + 1, ((k, n), ts) => by
    show flat (d + 1 + 1) ((k, n), ts.map (up d)) = _
    rw [flat_succ, flat_succ, List.length_map]
    congr 1
    unfold flats
    rw [List.map_map]
    congr 1
    apply List.map_congr_left
    intro t _
    exact flat_up d t
theorem RowP.map {α β : Type} {w : World} {B : Nat} {P : Value → α → Prop} {P' : Value → β → Prop} {v : Value} {ts : List α} (f : α → β) (hP : ∀ x t, P x t → P' x (f t)) (h : RowP w B P v ts) : RowP w B P' v (ts.map f) := by
  rcases h with ⟨h0, h⟩ | ⟨g, o, cap, hv, h0, hc, hg, h⟩
  · exact .inl ⟨by rw [h0]; rfl, h⟩
  · refine .inr ⟨g, o, cap, by rw [hv, List.length_map], by simpa using h0, by rw [List.length_map]; exact hc, hg, fun j hj => ?_⟩
    obtain ⟨k, n, u, c0, c1, c2, ht⟩ := h j (by simpa using hj)
    exact ⟨k, n, u, c0, c1, c2, by rw [List.getElem_map]; exact hP _ _ ht⟩
theorem TyAt.up {w : World} {B : Nat} : ∀ (d : Nat) (x : Value) (t : Tn d), TyAt w B d x t → TyAt w B (d + 1) x (up d t)
  | 0, _, _, h => h.elim
  | d + 1, _, _, ⟨v, hx, h1, h2, h⟩ => ⟨v, hx, h1, by show (List.map _ _).length < _; rw [List.length_map]; exact h2, h.map _ fun x t => TyAt.up d x t⟩

theorem Tryz.cells24 : Tryz.prog.cellsOf 24 = 3 := by kernel_rfl
theorem Tryz.cells3 : Tryz.prog.cellsOf 3 = 1 := by kernel_rfl
theorem Tryz.cells9 : Tryz.prog.cellsOf 9 = 1 := by kernel_rfl
theorem Tryz.cells22 : Tryz.prog.cellsOf 22 = 1 := by kernel_rfl
theorem Tryz.bytes24 : Tryz.prog.bytesOf 24 = 48 := by kernel_rfl
theorem list3 {α : Type} {l : List α} (h : l.length = 3) : ∃ a b c, l = [a, b, c] := by
  match l, h with
  | [a, b, c], _ => exact ⟨a, b, c, rfl⟩
theorem add_at (g o k : Nat) : (⟨g, o, none⟩ : Addr).add k = ⟨g, o + k, none⟩ := by
  unfold Addr.add
  split
  · rename_i h; rw [h]; rfl
  · rfl
theorem cell_spot {w : World} {a : Addr} {v : Value} (h : w.cell? a = some v) : a = ⟨a.block, a.off, none⟩ := by
  obtain ⟨b, o, s⟩ := a
  cases s with
  | none => rfl
  | some s =>
    unfold World.cell? at h
    split at h
    · simp at h
    · cases h
theorem weights_mem_all {H : Type} {P : Program} {e : TypeId} : ∀ {l : List (DataW H)} {d : DataW H}, d ∈ l → ∀ x ∈ d.weights P e, x ∈ DataW.weightsAll P e l
  | a :: r, d, hd, x, hx => by
    simp only [DataW.weightsAll, List.mem_append]
    rcases List.mem_cons.1 hd with rfl | h
    · exact Or.inl hx
    · exact Or.inr (weights_mem_all h x hx)
set_option maxRecDepth 100000 in
/-- What is read at type Type is a tree. -/
theorem open_cells {H : Type} {enc : TypeId × Value → H} {W : World} : ∀ (fuel : Nat) (cs : List Value) (x : DataW H × List MemPlace), DataW.trod enc Tryz.prog W 0 (fun _ => true) true fuel 24 cs = some x → (∀ y ∈ x.1.weights Tryz.prog 24, y ≤ reachBytes) →
    ∃ (k : Int) (s : ByteArray) (u : Value) (t : Tn fuel), cs = [.int .i64 k, .string s, u] ∧ TyAt W W.heap.size fuel (.agg #[.int .i64 k, .string s, u]) t
  | 0, _, _, h, _ => by simp [DataW.trod] at h
  | fuel + 1, cs, x, h, hz => by
    obtain ⟨xs, m, hm, hx, hlen, hxl, hf⟩ := DataW.trod_struct Tryz.underlying24 h
    obtain rfl : fuel = m := by omega
    rw [Tryz.cells24] at hlen
    obtain ⟨c0, c1, c2, rfl⟩ := list3 hlen
    obtain ⟨y0, y1, y2, rfl⟩ := list3 (show xs.length = 3 from hxl)
    have g0 : DataW.trod enc Tryz.prog W 0 (fun _ => true) true fuel 3 (([c0, c1, c2].drop 0).take (Tryz.prog.cellsOf 3)) = some y0 := hf 0 _ rfl
    have g1 : DataW.trod enc Tryz.prog W 0 (fun _ => true) true fuel 9 (([c0, c1, c2].drop 1).take (Tryz.prog.cellsOf 9)) = some y1 := hf 1 _ rfl
    have g2 : DataW.trod enc Tryz.prog W 0 (fun _ => true) true fuel 22 (([c0, c1, c2].drop 2).take (Tryz.prog.cellsOf 22)) = some y2 := hf 2 _ rfl
    rw [Tryz.cells3] at g0
    rw [Tryz.cells9] at g1
    rw [Tryz.cells22] at g2
    obtain ⟨k, e0, _, _⟩ := DataW.trod_int Tryz.underlying3 g0
    obtain ⟨s, e1, hy1, _⟩ := DataW.trod_string Tryz.underlying9 g1
    simp at e0 e1
    have hw1 : s.size ≤ reachBytes := by
      refine hz _ ?_
      subst hx hy1
      show s.size ∈ DataW.weights Tryz.prog 24 (.agg [y0.1, .lit (.string s.data.toList), y2.1])
      unfold DataW.weights
      rw [Tryz.underlying24]
      exact DataW.weights_mem_each (j := 1) (t := 9) rfl rfl _ (by simp [DataW.weights])
    have hw2 : ∀ y ∈ y2.1.weights Tryz.prog 22, y ≤ reachBytes := by
      intro y hy
      refine hz _ ?_
      subst hx
      show y ∈ DataW.weights Tryz.prog 24 (.agg [y0.1, y1.1, y2.1])
      unfold DataW.weights
      rw [Tryz.underlying24]
      exact DataW.weights_mem_each (j := 2) (t := 22) rfl rfl _ hy
    unfold reachBytes at hw1
    have hs : s = ⟨s.data.toList.toArray⟩ := by simp
    have hsl : s.data.toList.length < 140737488355328 := by
      have : s.data.toList.length = s.size := by simp
      omega
    have done0 : ∀ ad cap, c2 = .slice ad 0 cap → ∃ (k : Int) (s : ByteArray) (u : Value) (t : Tn (fuel + 1)), [c0, c1, c2] = [.int .i64 k, .string s, u] ∧ TyAt W W.heap.size (fuel + 1) (.agg #[.int .i64 k, .string s, u]) t := fun ad cap hc =>
      ⟨k, s, c2, ((k, s.data.toList), []), by rw [e0, e1], c2, by show Value.agg _ = Value.agg _; rw [← hs], hsl, by simp, .inl ⟨rfl, ad, cap, hc⟩⟩
    rcases DataW.trod_slice Tryz.underlying22 g2 with ⟨hcs, _⟩ | ⟨a, len, cap, elems, rest, n, hn, hcs, hy2, _, hlc, hcm, hel, hx, _, _⟩
    · simp at hcs
      exact done0 _ _ hcs
    · simp at hcs
      subst hn
      by_cases h0 : len = 0
      · subst h0
        exact done0 _ _ hcs
      · clear done0
        rw [Tryz.cells24] at hx
        have hlen2 : len * 48 ≤ reachBytes := by
          have := hw2 ((elems.map (·.1)).length + (rest.map (·.1)).length |> (· * Tryz.prog.bytesOf 24)) (by
            rw [hy2]
            unfold DataW.weights
            rw [Tryz.underlying22]
            exact List.mem_cons_self)
          rw [Tryz.bytes24] at this
          simp at this
          unfold reachBytes at this ⊢
          omega
        have each : ∀ i, i < len → ∃ q : Int × ByteArray × Value × Tn (n + 1), W.cell? (a.add (i * 3)) = some (.int .i64 q.1) ∧ W.cell? (a.add (i * 3 + 1)) = some (.string q.2.1) ∧ W.cell? (a.add (i * 3 + 2)) = some q.2.2.1 ∧ TyAt W W.heap.size (n + 1) (.agg #[.int .i64 q.1, .string q.2.1, q.2.2.1]) q.2.2.2 := by
          intro i hi
          have hi' : i < elems.length := by omega
          have hxi := hx i hi
          rw [List.getElem?_eq_getElem hi'] at hxi
          obtain ⟨cs', c1', c2'⟩ := Option.bind_eq_some_iff.1 hxi
          obtain ⟨_, _, hcell⟩ := World.cells?_some c1'
          obtain ⟨k', s', u', t', rfl, ht'⟩ := open_cells n cs' _ c2' (fun y hy => hw2 y (by
            rw [hy2]
            unfold DataW.weights
            rw [Tryz.underlying22]
            refine List.mem_cons_of_mem _ (List.mem_append_left _ (weights_mem_all (d := elems[i].1) (List.mem_map.2 ⟨elems[i], List.getElem_mem hi', rfl⟩) _ hy))))
          have f0 := hcell 0 (by omega)
          have f1 := hcell 1 (by omega)
          have f2 := hcell 2 (by omega)
          rw [Deep.add_add] at f0 f1 f2
          exact ⟨(k', s', u', up n t'), f0, f1, f2, TyAt.up n _ _ ht'⟩
        have some0 : Inhabited (Int × ByteArray × Value × Tn (n + 1)) := ⟨(0, ⟨#[]⟩, .bool false, (((0, []), []) : Tn (n + 1)))⟩
        obtain ⟨q, hq⟩ := Deep.choose_lt each
        have hsp := cell_spot (by have := (hq 0 (by omega)).1; rw [Nat.zero_mul] at this; exact this : W.cell? (a.add 0) = some _)
        have ha : a = ⟨a.block, a.off, none⟩ := hsp
        generalize a.block = g at ha
        generalize a.off = o at ha
        subst ha
        refine ⟨k, s, c2, ((k, s.data.toList), (List.range len).map fun i => (q i).2.2.2), by rw [e0, e1], c2, by show Value.agg _ = Value.agg _; rw [← hs], hsl, ?_, .inr ⟨g, o, cap, by rw [hcs]; simp, ?_, ?_, ?_, ?_⟩⟩
        · show ((List.range len).map _).length < _
          unfold reachBytes at hlen2
          simp
          omega
        · show (List.range len).map _ ≠ []
          simp [h0]
        · show ((List.range len).map _).length ≤ _
          simpa using hlc
        · have := (hq 0 (by omega)).1
          rw [add_at] at this
          exact World.block_lt_of_cell? W _ this
        · intro j hj
          have hj' : j < len := by
            have hj : j < ((List.range len).map fun i => (q i).2.2.2).length := hj
            simpa using hj
          obtain ⟨b1, b2, b3, b4⟩ := hq j hj'
          rw [add_at] at b1 b2 b3
          simp only [Nat.add_assoc] at b1 b2 b3 ⊢
          refine ⟨(q j).1, (q j).2.1, (q j).2.2.1, b1, b2, b3, ?_⟩
          have : ((List.range len).map fun i => (q i).2.2.2)[j]'(by simpa using hj') = (q j).2.2.2 := by simp
          show TyAt W W.heap.size (n + 1) _ (((List.range len).map fun i => (q i).2.2.2)[j]'_)
          rw [this]
          exact b4
end Go.Proofs.YtgdflaapgfpdeaaGreatDoor
