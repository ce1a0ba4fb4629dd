/- What is handed in: rows of pairs. -/
import Derived.Test.YtikpipenhamdbaaGreatOb
import Derived.Test.YtikpipenhamdbaaGreatMaux
namespace Go.Proofs.YtikpipenhamdbaaGreat
open Go.ChangeShapes Go.WideShapes Go.RowKit

set_option maxRecDepth 100000
theorem Tryz.cells34 : Tryz.prog.cellsOf 34 = 6 := by kernel_rfl
theorem Tryz.bytes34 : Tryz.prog.bytesOf 34 = 96 := by kernel_rfl
theorem list6 {α : Type} {l : List α} (h : l.length = 6) : ∃ a b c d e f, l = [a, b, c, d, e, f] := by
 match l, h with
 | [a, b, c, d, e, f], _ => exact ⟨a, b, c, d, e, f, rfl⟩
/-- What is read at type Pair is two trees. -/
theorem open_pair {H : Type} {enc : TypeId × Value → H} {W : World} (fuel : Nat) (cs : List Value) (x : DataW H × List MemPlace) (h : DataW.trod enc Tryz.prog W 0 (fun _ => true) true fuel 34 cs = some x) (hz : ∀ y ∈ x.1.weights Tryz.prog 34, y ≤ reachBytes) :
  ∃ (k : Int) (n : ByteArray) (ad : Option Addr) (len cap : Nat) (k' : Int) (n' : ByteArray) (ad' : Option Addr) (len' cap' : Nat) (t s : Tn (fuel - 1)), cs = [.int .i64 k, .string n, .slice ad len cap, .int .i64 k', .string n', .slice ad' len' cap'] ∧ TyAt W W.heap.size (fuel - 1) (.agg #[.int .i64 k, .string n, .slice ad len cap]) t ∧ TyAt W W.heap.size (fuel - 1) (.agg #[.int .i64 k', .string n', .slice ad' len' cap']) s := by
 obtain ⟨xs, m, hm, hx, hlen, hxl, hf⟩ := DataW.trod_struct Tryz.underlying34 h
 subst hm
 rw [Tryz.cells34] at hlen
 obtain ⟨c0, c1, c2, c3, c4, c5, rfl⟩ := list6 hlen
 obtain ⟨y0, y1, rfl⟩ := list2 (show xs.length = 2 from hxl)
 have g0 : DataW.trod enc Tryz.prog W 0 (fun _ => true) true m 29 (([c0, c1, c2, c3, c4, c5].drop 0).take (Tryz.prog.cellsOf 29)) = some y0 := hf 0 _ rfl
 have g1 : DataW.trod enc Tryz.prog W 0 (fun _ => true) true m 29 (([c0, c1, c2, c3, c4, c5].drop 3).take (Tryz.prog.cellsOf 29)) = some y1 := hf 1 _ rfl
 rw [Tryz.cells29] at g0 g1
 have hw0 : ∀ y ∈ y0.1.weights Tryz.prog 29, y ≤ reachBytes := by
  intro y hy
  refine hz _ ?_
  subst hx
  show y ∈ DataW.weights Tryz.prog 34 (.agg [y0.1, y1.1])
  unfold DataW.weights
  rw [Tryz.underlying34]
  exact DataW.weights_mem_each (j := 0) (t := 29) rfl rfl _ hy
 have hw1 : ∀ y ∈ y1.1.weights Tryz.prog 29, y ≤ reachBytes := by
  intro y hy
  refine hz _ ?_
  subst hx
  show y ∈ DataW.weights Tryz.prog 34 (.agg [y0.1, y1.1])
  unfold DataW.weights
  rw [Tryz.underlying34]
  exact DataW.weights_mem_each (j := 1) (t := 29) rfl rfl _ hy
 obtain ⟨k, n, u, t, hcs, hT⟩ := open_cells m _ _ g0 hw0
 obtain ⟨ad, len, cap, rfl⟩ := hT.form3
 obtain ⟨k', n', u', s, hcs', hS⟩ := open_cells m _ _ g1 hw1
 obtain ⟨ad', len', cap', rfl⟩ := hS.form3
 simp at hcs hcs'
 obtain ⟨rfl, rfl, rfl⟩ := hcs
 obtain ⟨rfl, rfl, rfl⟩ := hcs'
 exact ⟨k, n, ad, len, cap, k', n', ad', len', cap', t, s, rfl, hT, hS⟩
/-- A row of pairs that was handed in. -/
theorem open_pairs {H : Type} {enc : TypeId × Value → H} {W : World} {r : Reach} {b0 : Nat} {v : Value} {d : DataW H} {ps : List MemPlace} (hval : Value.okWide Tryz.prog W r b0 22 v) (h : DataW.Trod enc Tryz.prog W 0 (fun _ => true) true 22 v d ps) (hz : ∀ x ∈ d.weights Tryz.prog 22, x ≤ reachBytes) :
  ∃ qs : List Pr, PrAt W W.heap.size v qs := by
 obtain ⟨va, vl, vc, rfl⟩ := okWide_slice Tryz.underlying22 hval
 obtain ⟨fuel, hf⟩ := h
 have zero : vl = 0 → ∃ qs : List Pr, PrAt W W.heap.size (.slice va vl vc) qs := fun h0 => ⟨[], va, vc, by rw [h0]; rfl, by simp, fun h => absurd rfl h⟩
 rcases DataW.trod_slice Tryz.underlying22 hf with ⟨hcs, _⟩ | ⟨a, len, cap, elems, rest, n, hn, hcs, hy2, _, hlc, hcm, hel, hx, _, _⟩
 ·have hcs : [Value.slice va vl vc] = [Value.slice none 0 0] := hcs
  simp at hcs
  exact zero hcs.2.1
 ·have hcs : [Value.slice va vl vc] = [Value.slice (some a) len cap] := hcs
  simp at hcs
  obtain ⟨rfl, rfl, rfl⟩ := hcs
  by_cases h0 : vl = 0
  ·exact zero h0
  ·clear zero
   rw [Tryz.cells34] at hx
   have hd : d = .slice (elems.map (·.1)) (rest.map (·.1)) := congrArg Prod.fst hy2
   have hlen2 : vl * 96 ≤ reachBytes := by
    have := hz ((elems.map (·.1)).length + (rest.map (·.1)).length |> (· * Tryz.prog.bytesOf 34)) (by
     rw [hd]
     unfold DataW.weights
     rw [Tryz.underlying22]
     exact List.mem_cons_self)
    rw [Tryz.bytes34] at this
    simp at this
    unfold reachBytes at this ⊢
    omega
   have each : ∀ i, i < vl → ∃ q : Int × ByteArray × (Option Addr × Nat × Nat) × Tn (n - 1 + 1) × Int × ByteArray × (Option Addr × Nat × Nat) × Tn (n - 1 + 1), (W.cell? (a.add (i * 6)) = some (.int .i64 q.1) ∧ W.cell? (a.add (i * 6 + 1)) = some (.string q.2.1) ∧ W.cell? (a.add (i * 6 + 2)) = some (.slice q.2.2.1.1 q.2.2.1.2.1 q.2.2.1.2.2) ∧ W.cell? (a.add (i * 6 + 3)) = some (.int .i64 q.2.2.2.2.1) ∧ W.cell? (a.add (i * 6 + 4)) = some (.string q.2.2.2.2.2.1) ∧ W.cell? (a.add (i * 6 + 5)) = some (.slice q.2.2.2.2.2.2.1.1 q.2.2.2.2.2.2.1.2.1 q.2.2.2.2.2.2.1.2.2)) ∧ TyAt W W.heap.size (n - 1 + 1) (.agg #[.int .i64 q.1, .string q.2.1, .slice q.2.2.1.1 q.2.2.1.2.1 q.2.2.1.2.2]) q.2.2.2.1 ∧ TyAt W W.heap.size (n - 1 + 1) (.agg #[.int .i64 q.2.2.2.2.1, .string q.2.2.2.2.2.1, .slice q.2.2.2.2.2.2.1.1 q.2.2.2.2.2.2.1.2.1 q.2.2.2.2.2.2.1.2.2]) q.2.2.2.2.2.2.2 := by
    intro i hi
    have hi' : i < elems.length := by omega
    have hxi := hx i hi
    rw [List.getElem?_eq_getElem hi'] at hxi
    obtain ⟨cs', c1', c2'⟩ := Option.bind_eq_some_iff.1 hxi
    obtain ⟨_, _, hcell⟩ := World.cells?_some c1'
    obtain ⟨k1, n1, ad1, l1, cp1, k2, n2, ad2, l2, cp2, t', s', rfl, ht', hs'⟩ := open_pair n cs' _ c2' (fun y hy => hz y (by
     rw [hd]
     unfold DataW.weights
     rw [Tryz.underlying22]
     refine List.mem_cons_of_mem _ (List.mem_append_left _ (weights_mem_all (d := elems[i].1) (List.mem_map.2 ⟨elems[i], List.getElem_mem hi', rfl⟩) _ hy))))
    have f0 := hcell 0 (by omega)
    have f1 := hcell 1 (by omega)
    have f2 := hcell 2 (by omega)
    have f3 := hcell 3 (by omega)
    have f4 := hcell 4 (by omega)
    have f5 := hcell 5 (by omega)
    rw [Deep.add_add] at f0 f1 f2 f3 f4 f5
    exact ⟨(k1, n1, (ad1, l1, cp1), up _ t', k2, n2, (ad2, l2, cp2), up _ s'), ⟨f0, f1, f2, f3, f4, f5⟩, TyAt.up _ _ _ ht', TyAt.up _ _ _ hs'⟩
   have some0 : Inhabited (Int × ByteArray × (Option Addr × Nat × Nat) × Tn (n - 1 + 1) × Int × ByteArray × (Option Addr × Nat × Nat) × Tn (n - 1 + 1)) := ⟨(0, ⟨#[]⟩, (none, 0, 0), (((0, []), []) : Tn (n - 1 + 1)), 0, ⟨#[]⟩, (none, 0, 0), (((0, []), []) : Tn (n - 1 + 1)))⟩
   obtain ⟨q, hq⟩ := Deep.choose_lt each
   have ha : a = ⟨a.block, a.off, none⟩ := cell_spot (by have := (hq 0 (by omega)).1.1; rw [Nat.zero_mul] at this; exact this : W.cell? (a.add 0) = some _)
   generalize a.block = g at ha
   generalize a.off = o at ha
   subst ha
   have hgl : g < W.heap.size := by
    have := (hq 0 (by omega)).1.1
    rw [add_at] at this
    exact World.block_lt_of_cell? W _ this
   have hln : ((List.range vl).map fun i => ((⟨n - 1 + 1, (q i).2.2.2.1⟩, ⟨n - 1 + 1, (q i).2.2.2.2.2.2.2⟩) : Pr)).length = vl := by simp
   refine ⟨(List.range vl).map fun i => ((⟨n - 1 + 1, (q i).2.2.2.1⟩, ⟨n - 1 + 1, (q i).2.2.2.2.2.2.2⟩) : Pr), some ⟨g, o, none⟩, vc, by rw [hln], ?_, fun _ => ⟨g, o, rfl, by rw [hln]; exact hlc, hgl, fun j hj => ?_⟩⟩
   ·unfold reachBytes at hlen2
    rw [hln]
    omega
   ·rw [hln] at hj
    obtain ⟨⟨b1, b2, b3, b4, b5, b6⟩, b7, b8⟩ := hq j hj
    rw [add_at] at b1 b2 b3 b4 b5 b6
    have hget : ∀ hh, ((List.range vl).map fun i => ((⟨n - 1 + 1, (q i).2.2.2.1⟩, ⟨n - 1 + 1, (q i).2.2.2.2.2.2.2⟩) : Pr))[j]'hh = (⟨n - 1 + 1, (q j).2.2.2.1⟩, ⟨n - 1 + 1, (q j).2.2.2.2.2.2.2⟩) := fun hh => by simp
    rw [hget]
    exact ⟨_, _, _, _, _, _, _, _, _, _, fun w' hb => ⟨(hb.cell (p := ⟨g, o + j * 6, none⟩) hgl).trans b1, (hb.cell (p := ⟨g, o + j * 6 + 1, none⟩) hgl).trans b2, (hb.cell (p := ⟨g, o + j * 6 + 2, none⟩) hgl).trans b3, (hb.cell (p := ⟨g, o + j * 6 + 3, none⟩) hgl).trans b4, (hb.cell (p := ⟨g, o + j * 6 + 4, none⟩) hgl).trans b5, (hb.cell (p := ⟨g, o + j * 6 + 5, none⟩) hgl).trans b6⟩, b7, b8⟩
end Go.Proofs.YtikpipenhamdbaaGreat
