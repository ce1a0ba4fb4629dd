/- What is handed in: rows of bounds. -/
import Derived.Test.YtikpipenhamdbaaOq
import Derived.Test.YtikpipenhamdbaaMdx
import Derived.Test.YtikpipenhamdbaaMnx
namespace Go.Proofs.Ytikpipenhamdbaa
open Go.ChangeShapes Go.WideShapes Go.RowKit

set_option maxRecDepth 100000
theorem Try.cells46 : Try.prog.cellsOf 46 = 4 := by kernel_rfl
theorem Try.bytes46 : Try.prog.bytesOf 46 = 64 := by kernel_rfl
theorem list4 {α : Type} {l : List α} (h : l.length = 4) : ∃ a b c d, l = [a, b, c, d] := by
  match l, h with
  | [a, b, c, d], _ => exact ⟨a, b, c, d, rfl⟩
theorem list2 {α : Type} {l : List α} (h : l.length = 2) : ∃ a b, l = [a, b] := by
  match l, h with
  | [a, b], _ => exact ⟨a, b, rfl⟩
theorem TyAt.form3 {w : World} {B d : Nat} {a b c : Value} {t : Tn d} (h : TyAt w B d (.agg #[a, b, c]) t) : ∃ ad len cap, c = .slice ad len cap := by
  obtain ⟨k, n, ad, len, cap, e⟩ := tree_form h
  simp only [Value.agg.injEq, Array.mk.injEq, List.cons.injEq, and_true] at e
  exact ⟨ad, len, cap, e.2.2⟩
/-- What is read at type Bound is a name and a tree. -/
theorem open_bound {H : Type} {enc : TypeId × Value → H} {W : World} (fuel : Nat) (cs : List Value) (x : DataW H × List MemPlace) (h : DataW.trod enc Try.prog W 0 (fun _ => true) true fuel 46 cs = some x) (hz : ∀ y ∈ x.1.weights Try.prog 46, y ≤ reachBytes) :
    ∃ (s : ByteArray) (k : Int) (n : ByteArray) (ad : Option Addr) (len cap : Nat) (t : Tn (fuel - 1)), cs = [.string s, .int .i64 k, .string n, .slice ad len cap] ∧ s.data.toList.length < 140737488355328 ∧ TyAt W W.heap.size (fuel - 1) (.agg #[.int .i64 k, .string n, .slice ad len cap]) t := by
  obtain ⟨xs, m, hm, hx, hlen, hxl, hf⟩ := DataW.trod_struct Try.underlying46 h
  subst hm
  rw [Try.cells46] at hlen
  obtain ⟨c0, c1, c2, c3, rfl⟩ := list4 hlen
  obtain ⟨y0, y1, rfl⟩ := list2 (show xs.length = 2 from hxl)
  have g0 : DataW.trod enc Try.prog W 0 (fun _ => true) true m 9 (([c0, c1, c2, c3].drop 0).take (Try.prog.cellsOf 9)) = some y0 := hf 0 _ rfl
  have g1 : DataW.trod enc Try.prog W 0 (fun _ => true) true m 31 (([c0, c1, c2, c3].drop 1).take (Try.prog.cellsOf 31)) = some y1 := hf 1 _ rfl
  rw [Try.cells9] at g0
  rw [Try.cells31] at g1
  obtain ⟨s, e0, hy0, _⟩ := DataW.trod_string Try.underlying9 g0
  simp at e0
  have hw0 : s.size ≤ reachBytes := by
    refine hz _ ?_
    subst hx hy0
    show s.size ∈ DataW.weights Try.prog 46 (.agg [.lit (.string s.data.toList), y1.1])
    unfold DataW.weights
    rw [Try.underlying46]
    exact DataW.weights_mem_each (j := 0) (t := 9) rfl rfl _ (by simp [DataW.weights])
  have hw1 : ∀ y ∈ y1.1.weights Try.prog 31, y ≤ reachBytes := by
    intro y hy
    refine hz _ ?_
    subst hx
    show y ∈ DataW.weights Try.prog 46 (.agg [y0.1, y1.1])
    unfold DataW.weights
    rw [Try.underlying46]
    exact DataW.weights_mem_each (j := 1) (t := 31) rfl rfl _ hy
  obtain ⟨k, n, u, t, hcs, hT⟩ := open_cells m _ _ g1 hw1
  obtain ⟨ad, len, cap, rfl⟩ := hT.form3
  simp at hcs
  obtain ⟨rfl, rfl, rfl⟩ := hcs
  unfold reachBytes at hw0
  refine ⟨s, k, n, ad, len, cap, t, by rw [e0], ?_, hT⟩
  have : s.data.toList.length = s.size := by simp
  omega
/-- A row of bounds that was handed in. -/
theorem open_bounds {H : Type} {enc : TypeId × Value → H} {W : World} {r : Reach} {b0 : Nat} {v : Value} {d : DataW H} {ps : List MemPlace} (hval : Value.okWide Try.prog W r b0 25 v) (h : DataW.Trod enc Try.prog W 0 (fun _ => true) true 25 v d ps) (hz : ∀ x ∈ d.weights Try.prog 25, x ≤ reachBytes) :
    ∃ bs : List Bd, BdAt W W.heap.size v bs := by
  obtain ⟨va, vl, vc, rfl⟩ := okWide_slice Try.underlying25 hval
  obtain ⟨fuel, hf⟩ := h
  have zero : vl = 0 → ∃ bs : List Bd, BdAt W W.heap.size (.slice va vl vc) bs := fun h0 => ⟨[], va, vc, by rw [h0]; rfl, by simp, fun h => absurd rfl h⟩
  rcases DataW.trod_slice Try.underlying25 hf with ⟨hcs, _⟩ | ⟨a, len, cap, elems, rest, n, hn, hcs, hy2, _, hlc, hcm, hel, hx, _, _⟩
  · have hcs : [Value.slice va vl vc] = [Value.slice none 0 0] := hcs
    simp at hcs
    exact zero hcs.2.1
  · have hcs : [Value.slice va vl vc] = [Value.slice (some a) len cap] := hcs
    simp at hcs
    obtain ⟨rfl, rfl, rfl⟩ := hcs
    by_cases h0 : vl = 0
    · exact zero h0
    · clear zero
      rw [Try.cells46] at hx
      have hd : d = .slice (elems.map (·.1)) (rest.map (·.1)) := congrArg Prod.fst hy2
      have hlen2 : vl * 64 ≤ reachBytes := by
        have := hz ((elems.map (·.1)).length + (rest.map (·.1)).length |> (· * Try.prog.bytesOf 46)) (by
          rw [hd]
          unfold DataW.weights
          rw [Try.underlying25]
          exact List.mem_cons_self)
        rw [Try.bytes46] at this
        simp at this
        unfold reachBytes at this ⊢
        omega
      have each : ∀ i, i < vl → ∃ q : ByteArray × Int × ByteArray × (Option Addr × Nat × Nat) × Tn (n - 1 + 1), (W.cell? (a.add (i * 4)) = some (.string q.1) ∧ W.cell? (a.add (i * 4 + 1)) = some (.int .i64 q.2.1) ∧ W.cell? (a.add (i * 4 + 2)) = some (.string q.2.2.1) ∧ W.cell? (a.add (i * 4 + 3)) = some (.slice q.2.2.2.1.1 q.2.2.2.1.2.1 q.2.2.2.1.2.2)) ∧ q.1.data.toList.length < 140737488355328 ∧ TyAt W W.heap.size (n - 1 + 1) (.agg #[.int .i64 q.2.1, .string q.2.2.1, .slice q.2.2.2.1.1 q.2.2.2.1.2.1 q.2.2.2.1.2.2]) q.2.2.2.2 := by
        intro i hi
        have hi' : i < elems.length := by omega
        have hxi := hx i hi
        rw [List.getElem?_eq_getElem hi'] at hxi
        obtain ⟨cs', c1', c2'⟩ := Option.bind_eq_some_iff.1 hxi
        obtain ⟨_, _, hcell⟩ := World.cells?_some c1'
        obtain ⟨s', k', n', ad', l', cp', t', rfl, hs', ht'⟩ := open_bound n cs' _ c2' (fun y hy => hz y (by
          rw [hd]
          unfold DataW.weights
          rw [Try.underlying25]
          refine List.mem_cons_of_mem _ (List.mem_append_left _ (weights_mem_all (d := elems[i].1) (List.mem_map.2 ⟨elems[i], List.getElem_mem hi', rfl⟩) _ hy))))
        have f0 := hcell 0 (by omega)
        have f1 := hcell 1 (by omega)
        have f2 := hcell 2 (by omega)
        have f3 := hcell 3 (by omega)
        rw [Deep.add_add] at f0 f1 f2 f3
        exact ⟨(s', k', n', (ad', l', cp'), up _ t'), ⟨f0, f1, f2, f3⟩, hs', TyAt.up _ _ _ ht'⟩
      have some0 : Inhabited (ByteArray × Int × ByteArray × (Option Addr × Nat × Nat) × Tn (n - 1 + 1)) := ⟨(⟨#[]⟩, 0, ⟨#[]⟩, (none, 0, 0), (((0, []), []) : Tn (n - 1 + 1)))⟩
      obtain ⟨q, hq⟩ := Deep.choose_lt each
      have ha : a = ⟨a.block, a.off, none⟩ := cell_spot (by have := (hq 0 (by omega)).1.1; rw [Nat.zero_mul] at this; exact this : W.cell? (a.add 0) = some _)
      generalize a.block = g at ha
      generalize a.off = o at ha
      subst ha
      have hgl : g < W.heap.size := by
        have := (hq 0 (by omega)).1.1
        rw [add_at] at this
        exact World.block_lt_of_cell? W _ this
      have hln : ((List.range vl).map fun i => (((q i).1.data.toList, ⟨n - 1 + 1, (q i).2.2.2.2⟩) : Bd)).length = vl := by simp
      refine ⟨(List.range vl).map fun i => ((q i).1.data.toList, ⟨n - 1 + 1, (q i).2.2.2.2⟩), some ⟨g, o, none⟩, vc, by rw [hln], ?_, fun _ => ⟨g, o, rfl, by rw [hln]; exact hlc, hgl, fun j hj => ?_⟩⟩
      · unfold reachBytes at hlen2
        rw [hln]
        omega
      · rw [hln] at hj
        obtain ⟨⟨b1, b2, b3, b4⟩, b5, b6⟩ := hq j hj
        rw [add_at] at b1 b2 b3 b4
        have hget : ∀ hh, ((List.range vl).map fun i => (((q i).1.data.toList, ⟨n - 1 + 1, (q i).2.2.2.2⟩) : Bd))[j]'hh = ((q j).1.data.toList, ⟨n - 1 + 1, (q j).2.2.2.2⟩) := fun hh => by simp
        rw [hget]
        refine ⟨b5, (q j).2.1, (q j).2.2.1, (q j).2.2.2.1.1, (q j).2.2.2.1.2.1, (q j).2.2.2.1.2.2, fun w' hb => ?_, b6⟩
        have hs : (⟨(q j).1.data.toList.toArray⟩ : ByteArray) = (q j).1 := by simp
        rw [hs]
        exact ⟨(hb.cell (p := ⟨g, o + j * 4, none⟩) hgl).trans b1, (hb.cell (p := ⟨g, o + j * 4 + 1, none⟩) hgl).trans b2, (hb.cell (p := ⟨g, o + j * 4 + 2, none⟩) hgl).trans b3, (hb.cell (p := ⟨g, o + j * 4 + 3, none⟩) hgl).trans b4⟩
end Go.Proofs.Ytikpipenhamdbaa
