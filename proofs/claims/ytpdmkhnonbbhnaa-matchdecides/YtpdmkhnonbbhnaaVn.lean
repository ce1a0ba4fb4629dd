/- coverage: what the tree of some rows says of them. -/
import Derived.Test.YtpdmkhnonbbhnaaVm
import Derived.Test.YtpdmkhnonbbhnaaVh
import Derived.Test.YtpdmkhnonbbhnaaUe
namespace Go.Proofs.Ytpdmkhnonbbhnaa
open Go.RowKit Go.Maps

theorem Try.info4 : (Try.prog.info? 4).map (fun i => (i.zero, i.size, i.bytes)) = some (some (.bool false), 1, 1) := by kernel_rfl
theorem make_bools (w : World) (n : Nat) (hn : n ≤ 1000) : (Instr.makeSlice 96 (.int .i64 n) (.int .i64 n)).run Try.prog w = .ok (.slice (some ⟨w.heap.size, 0, none⟩) n n) (w.alloc (.cells (bV (List.replicate n false)) 4)) := by
  obtain ⟨i0, hi, hz0, hz1, hz2⟩ := info_parts Try.info4
  have := run_makeSlice (P := Try.prog) w 96 4 i0 _ Try.underlying96 hi hz0 .i64 .i64 n n (by omega) (Int.le_refl _) (by rw [hz1]; simp; omega) (by rw [hz2]; omega) (by omega)
  have hzc : (Value.bool false).cells = #[.bool false] := rfl
  have e : madeCells #[.bool false] n = bV (List.replicate n false) := by
    apply Array.ext_getElem?
    intro i
    unfold madeCells bV
    rw [Array.getElem?_map, Array.getElem?_range]
    by_cases h : i < n
    · rw [if_pos h]
      simp [h, Nat.mod_one]
    · rw [if_neg h]
      simp [h]
  rw [hzc] at this
  rw [← e]
  simpa [hz1] using this
/-- The rows that are not met, of the first so many. -/
def idleP (bs : List Bool) (i : Nat) : List Nat := (List.range i).filter fun r => !(bs[r]?.getD false)
theorem idleP_succ (bs : List Bool) (i : Nat) (h : i < bs.length) : idleP bs (i + 1) = idleP bs i ++ (if bs[i] then [] else [i]) := by
  unfold idleP
  rw [List.range_succ, List.filter_append]
  congr 1
  rw [List.filter_cons, List.filter_nil, List.getElem?_eq_getElem h]
  simp only [Option.getD_some]
  cases bs[i] <;> rfl
theorem mark_get : ∀ (l : List Nat) (bs : List Bool) (r : Nat) (h : r < bs.length), (markP bs l)[r]?.getD false = (bs[r] || l.contains r)
  | [], bs, r, h => by
    show bs[r]?.getD false = _
    rw [List.getElem?_eq_getElem h]
    simp
  | a :: l, bs, r, h => by
    show (markP (bs.set a true) l)[r]?.getD false = _
    rw [mark_get l (bs.set a true) r (by rw [List.length_set]; exact h), List.getElem_set, List.contains_cons]
    by_cases e : a = r
    · subst e
      simp
    · rw [if_neg e]
      have : (r == a) = false := beq_eq_false_iff_ne.2 fun q => e q.symm
      rw [this, Bool.false_or]
theorem idle_all {f : Nat} (t : Tr f) (n : Nat) : idleP (markP (List.replicate n false) (metP f t)) n = (List.range n).filter fun r => !(metP f t).contains r := by
  unfold idleP
  refine List.filter_congr fun r hr => ?_
  rw [List.mem_range] at hr
  rw [mark_get _ _ r (by simpa using hr)]
  simp
/-- Between the rounds that gather idle rows: block Cb is the coverage, v its row. -/
structure Cw (W : World) (Cb : Nat) (bs : List Bool) (mb : Nat) (i : Nat) (v : Value) (wr : World) : Prop where
  below : Below Cb W wr
  blk : wr.heap[Cb]? = some (.cells #[.bool false, v, .slice none 0 0] 34 (0, 0))
  own : wr.ownsRow (Cb + 1) 3 1 v (idleP bs i).length ((idleP bs i).map fun (r : Nat) => Value.int .i64 r)
theorem Cw.lt {W : World} {Cb : Nat} {bs : List Bool} {mb i : Nat} {v : Value} {wr : World} (h : Cw W Cb bs mb i v wr) : Cb < wr.heap.size := lt_of_heap h.blk
theorem Cw.skip {W : World} {Cb : Nat} {bs : List Bool} {mb i : Nat} {v : Value} {wr : World} (h : Cw W Cb bs mb i v wr) (hi : i < bs.length) (hb : bs[i] = true) : Cw W Cb bs mb (i + 1) v wr := by
  have e : idleP bs (i + 1) = idleP bs i := by rw [idleP_succ bs i hi, if_pos hb, List.append_nil]
  exact ⟨h.below, h.blk, by rw [e]; exact h.own⟩
theorem Cw.put {W : World} {Cb : Nat} {bs : List Bool} {mb i : Nat} {v : Value} {wr : World} (h : Cw W Cb bs mb i v wr) (hi : i < bs.length) (hb : bs[i] = false) {o : Obj} {g cap : Nat} {w5 : World} (ho : w5.ownsRow (Cb + 1) 3 1 (.slice (some ⟨g, 0, none⟩) ((idleP bs i).length + 1) cap) ((idleP bs i).length + 1) ((idleP bs i).map (fun (r : Nat) => Value.int .i64 r) ++ [.int .i64 i])) (hg : (wr.alloc o).grownBy w5 v.ownBlock) :
    w5.heap[Cb]? = some (.cells #[.bool false, v, .slice none 0 0] 34 (0, 0)) ∧ Cw W Cb bs mb (i + 1) (.slice (some ⟨g, 0, none⟩) ((idleP bs i).length + 1) cap) (w5.setCell ⟨Cb, 1, none⟩ (.slice (some ⟨g, 0, none⟩) ((idleP bs i).length + 1) cap)) := by
  have hlt := h.lt
  have hvb : ∀ y, v.ownBlock = some y → Cb + 1 ≤ y := fun y e => (h.own.lt y e).1
  have hbA : Below Cb W (wr.alloc o) := h.below.alloc (by have := h.below.size; omega) _
  have hb5 : Below Cb W w5 := hbA.grown hg (by simp; omega) (fun y e => by have := hvb y e; omega)
  have hblk : w5.heap[Cb]? = some (.cells #[.bool false, v, .slice none 0 0] 34 (0, 0)) := by
    rw [hg.block Cb (by simp; omega) (fun e => by have := hvb _ e.symm; omega), Below.heap_alloc _ _ _ hlt]
    exact h.blk
  have e : idleP bs (i + 1) = idleP bs i ++ [i] := by rw [idleP_succ bs i hi, if_neg (by rw [hb]; simp)]
  refine ⟨hblk, hb5.setCell (p := ⟨Cb, 1, none⟩) (Nat.le_refl _) _, ?_, ?_⟩
  · have := setCell_block (i := 1) (v := .slice (some ⟨g, 0, none⟩) ((idleP bs i).length + 1) cap) hblk
    exact this
  · rw [e, List.length_append, List.map_append]
    obtain ⟨q1, q2⟩ := ho
    refine ⟨q1, ?_⟩
    rcases q2 with ⟨q2, _⟩ | ⟨g', cap', cur, q2, q3, q4, q5⟩
    · cases q2
    · refine .inr ⟨g', cap', cur, q2, q3, ?_, q5⟩
      rw [Below.heap_setCell _ _ _ _ (by show g' ≠ Cb; omega)]
      exact q4
theorem Cw.nats {W : World} {Cb : Nat} {bs : List Bool} {mb i : Nat} {v : Value} {wr w' : World} (h : Cw W Cb bs mb i v wr) (hk : ∀ y, Cb < y → y < wr.heap.size → w'.heap[y]? = wr.heap[y]?) (hs : wr.heap.size ≤ w'.heap.size) {lo : Nat} (hlo : lo ≤ Cb) : ∃ ad cap, v = .slice ad (idleP bs i).length cap ∧ Nats w' (fun y => lo ≤ y ∧ y < w'.heap.size) (.slice ad (idleP bs i).length cap) (idleP bs i) := by
  obtain ⟨q1, q2⟩ := h.own
  rcases q2 with ⟨rfl, q2⟩ | ⟨g, cap, cur, rfl, q3, q4, q5, q6, q7, q8⟩
  · exact ⟨none, 0, by rw [q2], .inl ⟨List.eq_nil_of_length_eq_zero q2, none, 0, by rw [q2]⟩⟩
  · refine ⟨_, cap, rfl, ?_⟩
    by_cases h0 : idleP bs i = []
    · exact .inl ⟨h0, _, _, by rw [h0]; rfl⟩
    · have hg := lt_of_heap q4
      refine .inr ⟨g, 0, cap, rfl, h0, q5, fun j hj => ⟨⟨by omega, by omega⟩, ?_⟩⟩
      refine heap_cell' ((hk g (by omega) hg).trans q4) ?_
      have h9 : cur.toList[j]? = some (.int .i64 (idleP bs i)[j]) := by
        have := congrArg (fun l : List Value => l[j]?) q8
        simp only [List.getElem?_take] at this
        rw [if_pos (by omega)] at this
        rw [this]
        simp [hj]
      rw [Nat.zero_add, Nat.mul_one, ← Array.getElem?_toList]
      exact h9
def missR (F : Nat) (way : List Stp) : List (List Pt) → List (Pn (F + 1))
  | [] => []
  | r :: _ => missQ F r.length way
theorem cover_some {F : Nat} {k : Kn} {fs : List Fam} {f : Nat} {t : Tr f} {rows : List (List Pt)} {way : List Stp} (h : toFail k fs f t = some way) : coverQ F k fs f t rows = (false, (List.range rows.length).filter (fun r => !(metP f t).contains r), missR F way rows) := by
  unfold coverQ
  rw [h]
  cases rows <;> rfl
theorem cover_none {F : Nat} {k : Kn} {fs : List Fam} {f : Nat} {t : Tr f} {rows : List (List Pt)} (h : toFail k fs f t = none) : coverQ F k fs f t rows = (true, (List.range rows.length).filter (fun r => !(metP f t).contains r), []) := by
  unfold coverQ
  rw [h]
  rfl
theorem missR_at {F : Nat} {way : List Stp} {rows : List (List Pt)} (h : 0 < rows.length) : missR F way rows = missQ F rows[0].length way := by
  cases rows with
  | nil => simp at h
  | cons a r => rfl
theorem WayOk.len {n : Nat} : ∀ {l : List Stp}, WayOk n l → ∀ x ∈ l, x.1.length ≤ l.length
  | a :: r, h, x, hx => by
    rcases List.mem_cons.1 hx with rfl | hx
    · have := h.2.2.1
      rw [List.length_cons]
      exact this
    · have := WayOk.len h.1 x hx
      rw [List.length_cons]
      omega
def CovPost (F : Nat) (c : Cv F) (w : World) (r : Ending) (w' : World) : Prop := Below w.heap.size w w' ∧ ∃ ad1 c1 ad2 c2, r = .returned (.agg #[.bool c.1, .slice ad1 c.2.1.length c1, .slice ad2 c.2.2.length c2]) ∧ Nats w' (fun y => w.heap.size ≤ y ∧ y < w'.heap.size) (.slice ad1 c.2.1.length c1) c.2.1 ∧ Pats w' (fun y => w.heap.size ≤ y ∧ y < w'.heap.size) (.slice ad2 c.2.2.length c2) (c.2.2.map fun u => (⟨F + 1, u⟩ : Pt))
theorem cov_fin {w wr w6 W3 : World} {Cb mb n : Nat} {bs : List Bool} {iad : Option Addr} {icap : Nat} (c0 : Bool) (m : Value) (hC : w.heap.size + 3 ≤ Cb) (hb : Below w.heap.size w w6) (hR : w6.heap[w.heap.size + 1 + 1]? = some (.cells #[.bool false, .slice none 0 0, .slice none 0 0] 34 (0, 0))) (hc : Cw W3 Cb bs mb n (.slice iad (idleP bs n).length icap) wr) (hk : ∀ y, Cb < y → y < wr.heap.size → w6.heap[y]? = wr.heap[y]?) (hs : wr.heap.size ≤ w6.heap.size) :
    ∃ U, U = ((w6.setCell ⟨w.heap.size + 1 + 1, 0, none⟩ (.bool c0)).setCell ⟨w.heap.size + 1 + 1, 1, none⟩ (.slice iad (idleP bs n).length icap)).setCell ⟨w.heap.size + 1 + 1, 2, none⟩ m ∧ U.heap[w.heap.size + 1 + 1]? = some (.cells #[.bool c0, .slice iad (idleP bs n).length icap, m] 34 (0, 0)) ∧ Below w.heap.size w U ∧ U.heap.size = w6.heap.size ∧ (∀ y, y ≠ w.heap.size + 1 + 1 → U.heap[y]? = w6.heap[y]?) ∧ Nats U (fun y => w.heap.size ≤ y ∧ y < U.heap.size) (.slice iad (idleP bs n).length icap) (idleP bs n) := by
  have a0 := setCell_block (i := 0) (v := .bool c0) hR
  have a1 := setCell_block (i := 1) (v := .slice iad (idleP bs n).length icap) a0
  have a2 := setCell_block (i := 2) (v := m) a1
  have hsz : (((w6.setCell ⟨w.heap.size + 1 + 1, 0, none⟩ (.bool c0)).setCell ⟨w.heap.size + 1 + 1, 1, none⟩ (.slice iad (idleP bs n).length icap)).setCell ⟨w.heap.size + 1 + 1, 2, none⟩ m).heap.size = w6.heap.size := by simp [World.setCell]
  have hoth : ∀ y, y ≠ w.heap.size + 1 + 1 → (((w6.setCell ⟨w.heap.size + 1 + 1, 0, none⟩ (.bool c0)).setCell ⟨w.heap.size + 1 + 1, 1, none⟩ (.slice iad (idleP bs n).length icap)).setCell ⟨w.heap.size + 1 + 1, 2, none⟩ m).heap[y]? = w6.heap[y]? := fun y hy => by
    rw [Below.heap_setCell _ _ _ _ hy, Below.heap_setCell _ _ _ _ hy, Below.heap_setCell _ _ _ _ hy]
  refine ⟨_, rfl, a2, ((hb.setCell (p := ⟨w.heap.size + 1 + 1, 0, none⟩) (by show w.heap.size ≤ w.heap.size + 1 + 1; omega) _).setCell (p := ⟨w.heap.size + 1 + 1, 1, none⟩) (by show w.heap.size ≤ w.heap.size + 1 + 1; omega) _).setCell (p := ⟨w.heap.size + 1 + 1, 2, none⟩) (by show w.heap.size ≤ w.heap.size + 1 + 1; omega) _, hsz, hoth, ?_⟩
  obtain ⟨ad, cap, e, hn⟩ := hc.nats (lo := w.heap.size) (fun y h1 h2 => (hoth y (by omega)).trans (hk y h1 h2)) (by rw [hsz]; exact hs) (by omega)
  injection e with e1 _ e3
  subst e1 e3
  exact hn
set_option maxHeartbeats 8000000 in
set_option maxRecDepth 10000 in
theorem cover_any {F : Nat} {k : Kn} {fs : List Fam} (hF : F ≤ 5001) (t : Tr F) (rows : List (List Pt)) (hSm : Sm F t) (hTk : Tok k fs F t) (hK : KnOk k fs) (hmet : ∀ r ∈ metP F t, r < rows.length) (hway : ∀ way, toFail k fs F t = some way → WayOk (rows.headD []).length way ∧ ∀ s ∈ way, s.2.2 ≤ 8)
    {w : World} {S : Nat → Prop} {b : Nat} (fa : Option Addr) (fc : Nat) (x rv : Value) (hS : ∀ b, S b → b < w.heap.size) (hM : MapK w b k) (hFm : Fams w S (.slice fa fs.length fc) fs) (hx : TrV w S F x t) (hR : RowsAt w S rv rows) (hl : rows.length ≤ 200) (hl2 : ∀ r ∈ rows, r.length ≤ 16) :
    Calls Try.prog 24 #[.agg #[.slice fa fs.length fc, .map (some b)], x, rv] w (CovPost F (coverQ F k fs F t rows) w) := by
  obtain ⟨a, b', pa, pl, pc, ca, cl, cc, ea, el, ec, rfl⟩ := hx.parts
  have hW : ∃ W, W = ((w.alloc (Obj.cells #[.slice fa fs.length fc, .map (some b)] 58)).alloc (Obj.cells #[.int .i64 a, .int .i64 b', .slice pa pl pc, .slice ca cl cc, .slice ea el ec] 32)).alloc (Obj.cells #[.bool false, .slice none 0 0, .slice none 0 0] 34) ∧ Below w.heap.size w W ∧ W.heap.size = w.heap.size + 3 ∧ W.heap[w.heap.size]? = some (.cells #[.slice fa fs.length fc, .map (some b)] 58 (0, 0)) ∧ W.heap[w.heap.size + 1]? = some (.cells #[.int .i64 a, .int .i64 b', .slice pa pl pc, .slice ca cl cc, .slice ea el ec] 32 (0, 0)) ∧ W.heap[w.heap.size + 1 + 1]? = some (.cells #[.bool false, .slice none 0 0, .slice none 0 0] 34 (0, 0)) := by
    refine ⟨_, rfl, (((Below.refl _ _).alloc (Nat.le_refl _) _).alloc (by simp) _).alloc (by simp; omega) _, by simp, ?_, ?_, ?_⟩
    · rw [Below.heap_alloc _ _ _ (by simp; omega), Below.heap_alloc _ _ _ (by simp)]
      exact new_block w _
    · rw [Below.heap_alloc _ _ _ (by simp)]
      have := new_block (w.alloc (Obj.cells #[.slice fa fs.length fc, .map (some b)] 58)) (Obj.cells #[.int .i64 a, .int .i64 b', .slice pa pl pc, .slice ca cl cc, .slice ea el ec] 32)
      simpa using this
    · have := new_block ((w.alloc (Obj.cells #[.slice fa fs.length fc, .map (some b)] 58)).alloc (Obj.cells #[.int .i64 a, .int .i64 b', .slice pa pl pc, .slice ca cl cc, .slice ea el ec] 32)) (Obj.cells #[.bool false, .slice none 0 0, .slice none 0 0] 34)
      simpa using this
  obtain ⟨W, hW, hbW, hsW, hkW, htW, hrW⟩ := hW
  have hmk := make_bools W rows.length (by omega)
  rw [hsW] at hmk
  have hW1 : ∃ W1, W1 = W.alloc (.cells (bV (List.replicate rows.length false)) 4) ∧ Below W.heap.size W W1 ∧ W1.heap.size = w.heap.size + 4 ∧ W1.heap[w.heap.size + 3]? = some (.cells (bV (List.replicate rows.length false)) 4 (0, 0)) := ⟨_, rfl, (Below.refl _ _).alloc (Nat.le_refl _) _, by simp [hsW], by have := new_block W (.cells (bV (List.replicate rows.length false)) 4); rwa [hsW] at this⟩
  obtain ⟨W1, hW1, hb1, hs1, hm1⟩ := hW1
  rw [← hW1] at hmk
  have hbw1 : Below w.heap.size w W1 := hbW.trans (hb1.mono hbW.size)
  have CM := meet_any F t hSm W1 S _ (w.heap.size + 3) (List.replicate rows.length false) (fun y hy => by have := hS y hy; omega) (TrV.below (Keeps.of hbw1 hS) (fun _ h => h) F _ _ hx) hm1 (fun r hr => by rw [List.length_replicate]; exact hmet r hr) (by rw [List.length_replicate]; exact hl)
  rw [List.length_replicate] at CM
  obtain ⟨rad, rcap, rfl, hrr⟩ := RowP.open hR
  have d0 := heap_cell' (i := 0) ((hb1.block _ (by omega)).trans htW) rfl
  have d1 := heap_cell' (i := 1) ((hb1.block _ (by omega)).trans htW) rfl
  have d2 := heap_cell' (i := 2) ((hb1.block _ (by omega)).trans htW) rfl
  have d3 := heap_cell' (i := 3) ((hb1.block _ (by omega)).trans htW) rfl
  have d4 := heap_cell' (i := 4) ((hb1.block _ (by omega)).trans htW) rfl
  have HRR : Hid (rows ≠ [] → ∃ g o, rad = some ⟨g, o, none⟩ ∧ rows.length ≤ rcap ∧ ∀ j (h : j < rows.length), S g ∧ ∃ ad cap, w.cell? ⟨g, o + j * 1, none⟩ = some (.slice ad rows[j].length cap) ∧ Pats w S (.slice ad rows[j].length cap) rows[j]) := hrr
  have HX : Hid (∀ w2, Kx (w.heap.size + 3) W1 w2 → w2.heap[w.heap.size + 3]? = some (.cells (bV (markP (List.replicate rows.length false) (metP F t))) 4 (0, 0)) → ∃ W3, W3 = w2.alloc (.cells #[.bool false, .slice none 0 0, .slice none 0 0] 34) ∧ w.heap.size + 4 ≤ w2.heap.size ∧ Below w.heap.size w W3 ∧ W3.heap[w.heap.size]? = some (.cells #[.slice fa fs.length fc, .map (some b)] 58 (0, 0)) ∧ W3.heap[w.heap.size + 1]? = some (.cells #[.int .i64 a, .int .i64 b', .slice pa pl pc, .slice ca cl cc, .slice ea el ec] 32 (0, 0)) ∧ W3.heap[w.heap.size + 1 + 1]? = some (.cells #[.bool false, .slice none 0 0, .slice none 0 0] 34 (0, 0)) ∧ W3.heap[w.heap.size + 3]? = some (.cells (bV (markP (List.replicate rows.length false) (metP F t))) 4 (0, 0)) ∧ Cw W3 w2.heap.size (markP (List.replicate rows.length false) (metP F t)) (w.heap.size + 3) 0 (.slice none 0 0) W3) := fun w2 hk2 hm2 => by
    have h4 : w.heap.size + 4 ≤ w2.heap.size := by have := hk2.size; omega
    have hA : ∀ y, y < w2.heap.size → (w2.alloc (.cells #[.bool false, .slice none 0 0, .slice none 0 0] 34)).heap[y]? = w2.heap[y]? := fun y hy => Below.heap_alloc _ _ _ hy
    have hB : ∀ y, y < w.heap.size + 3 → (w2.alloc (.cells #[.bool false, .slice none 0 0, .slice none 0 0] 34)).heap[y]? = W1.heap[y]? := fun y hy => (hA y (by omega)).trans (hk2.block y (by omega) (by omega))
    refine ⟨_, rfl, h4, ⟨hk2.os.trans hbw1.os, hk2.tape.trans hbw1.tape, hk2.output.trans hbw1.output, by simp; omega, fun y hy => (hB y (by omega)).trans (hbw1.block y hy)⟩, ?_, ?_, ?_, (hA _ (by omega)).trans hm2, Below.refl _ _, new_block w2 _, World.ownsRow_nil _ _ _ _⟩
    · exact (hB _ (by omega)).trans ((hb1.block _ (by omega)).trans hkW)
    · exact (hB _ (by omega)).trans ((hb1.block _ (by omega)).trans htW)
    · exact (hB _ (by omega)).trans ((hb1.block _ (by omega)).trans hrW)
  have HFM : Hid (Sm F t ∧ Tok k fs F t ∧ KnOk k fs ∧ MapK w b k ∧ Fams w S (.slice fa fs.length fc) fs ∧ TrV w S F (.agg #[.int .i64 a, .int .i64 b', .slice pa pl pc, .slice ca cl cc, .slice ea el ec]) t ∧ ∀ b, S b → b < w.heap.size) := ⟨hSm, hTk, hK, hM, hFm, hx, hS⟩
  have HWY : Hid (∀ way, toFail k fs F t = some way → WayOk (rows.headD []).length way ∧ ∀ s ∈ way, s.2.2 ≤ 8) := hway
  have HID : Hid (idleP (markP (List.replicate rows.length false) (metP F t)) rows.length = (List.range rows.length).filter fun r => !(metP F t).contains r) := idle_all t rows.length
  have hbl : (markP (List.replicate rows.length false) (metP F t)).length = rows.length := by rw [markP_len, List.length_replicate]
  have HBL : Hid ((markP (List.replicate rows.length false) (metP F t)).length = rows.length) := hbl
  clear hSm hTk hK hM hFm hx hS hway hmet hbl hbw1 hm1 hs1 hb1 hrW htW hkW hsW hbW hR hrr
  have HL2 : Hid (∀ r ∈ rows, r.length ≤ 16) := hl2
  clear hl2 hW1
  generalize hbs : markP (List.replicate rows.length false) (metP F t) = bs at *
  clear hbs
  go_enter Try.func24, Try.ntmps24
  go_upto_region 1 with fail
  rw [← hW]
  clear hW
  go_upto_region 4 with (first | (go_at_call 38; (with_reducible refine Calls.mono CM ?_); rintro e' w2 ⟨rfl, hk2, hm2⟩))
  obtain ⟨W3, hW3, h4, hb3, hk3, ht3, hr3, hm3, hcw⟩ := HX.out w2 hk2 hm2
  rw [← hW3]
  have H3 : Hid (w.heap.size + 4 ≤ w2.heap.size ∧ Below w.heap.size w W3 ∧ W3.heap[w.heap.size]? = some (.cells #[.slice fa fs.length fc, .map (some b)] 58 (0, 0)) ∧ W3.heap[w.heap.size + 1]? = some (.cells #[.int .i64 a, .int .i64 b', .slice pa pl pc, .slice ca cl cc, .slice ea el ec] 32 (0, 0)) ∧ W3.heap[w.heap.size + 1 + 1]? = some (.cells #[.bool false, .slice none 0 0, .slice none 0 0] 34 (0, 0)) ∧ W3.heap[w.heap.size + 3]? = some (.cells (bV bs) 4 (0, 0)) ∧ Cw W3 w2.heap.size bs (w.heap.size + 3) 0 (.slice none 0 0) W3) := ⟨h4, hb3, hk3, ht3, hr3, hm3, hcw⟩
  clear hW3 h4 hb3 hk3 ht3 hr3 hm3 hcw hk2 hm2 CM HX d0 d1 d2 d3 d4 hmk
  generalize hCb : w2.heap.size = Cb at *
  clear hCb
  obtain ⟨i0, hi0, hz0, hz1, hz2⟩ := info_parts Try.info3
  go_wp2
  go_loopw [21] (fun iv wr => ∃ (i : Nat) (v : Value), i ≤ rows.length ∧ iv = .int .i64 i ∧ Hid (Cw W3 Cb bs (w.heap.size + 3) i v wr)) (fun iv _ => rows.length - (intOf iv).toNat)
  case atStart => exact ⟨0, _, by omega, by go_num, H3.out.2.2.2.2.2.2⟩
  case round =>
    obtain ⟨i, v, hi, rfl, HC⟩ := hrel
    have hCl : w.heap.size + 4 ≤ Cb := H3.out.1
    by_cases hil : i < rows.length
    · have hib : i < bs.length := by have := HBL.out; omega
      have q := heap_cell' ((HC.out.below.block (w.heap.size + 3) (by omega)).trans H3.out.2.2.2.2.2.1) (bV_get hib)
      have i1 : (0 : Int) ≤ (i : Int) := by omega
      have i2 : (i : Int) < (rows.length : Int) := by omega
      cases hb : bs[i] with
      | true =>
        rw [hb] at q
        have HC2 : Hid (Cw W3 Cb bs (w.heap.size + 3) (i + 1) v wr) := HC.out.skip hib hb
        clear hb
        go_wp2
        exact ⟨⟨i + 1, v, hil, by go_num, HC2.out⟩, by simp [intOf]; omega⟩
      | false =>
        rw [hb] at q
        have HBI : Hid (bs[i] = false ∧ i < bs.length) := ⟨hb, hib⟩
        have c1 := heap_cell' (i := 1) HC.out.blk rfl
        have hown := HC.out.own
        have hcs := HC.out.lt
        have hil2 : (idleP bs i).length ≤ 200 := by
          have : (idleP bs i).length ≤ i := by
            unfold idleP
            exact Nat.le_trans (List.length_filter_le _ _) (by simp)
          omega
        clear hb
        go_wp2_with (at_builtin; refine wpList_append_lies _ rfl _ _ 28 rfl (Cb + 1) 3 i0 _ 1 8 Try.underlying28 hi0 hz0 hz1 hz2 rfl (by decide) _ _ _ rfl (hown.alloc _) ⟨wr.heap.size, 0, none⟩ 1 1 [.int .i64 i] rfl rfl (World.news_of_block (new_block' wr _)) (by intro u hu; simp at hu; subst hu; rfl) (by omega) (by unfold maxLen; omega) (by omega) (by simp; omega) (wr.heap.size + 1) (by simp) ?_; intro g5 cap5 w5 hown5 hgr5 hat5 hlt5; obtain ⟨hblk5, hcw5⟩ := HC.out.put HBI.out.2 HBI.out.1 hown5 hgr5; have y1 := heap_cell' (i := 1) hblk5 rfl; have z1 := heap_frozen (o := 1) hblk5)
        exact ⟨⟨i + 1, _, hil, by go_num, hcw5⟩, by simp [intOf]; omega⟩
    · obtain rfl : i = rows.length := by omega
      have hfm := HFM.out
      have hbw : Below w.heap.size w wr := H3.out.2.1.trans (HC.out.below.mono (by omega))
      have hkS : Keeps S w wr := Keeps.of hbw hfm.2.2.2.2.2.2
      have CF := fail_any hfm.2.2.1 F hF t hfm.1 hfm.2.1 wr S _ fa fc b (fun y hy => by have := hfm.2.2.2.2.2.2 y hy; have := hbw.size; omega) (hfm.2.2.2.1.on (hbw.block b (Mv.lt hfm.2.2.2.1))) (hfm.2.2.2.2.1.on hkS) (TrV.below hkS (fun _ h => h) F _ _ hfm.2.2.2.2.2.1)
      have hcl := HC.out.lt
      have e1 := (HC.out.below.block w.heap.size (by omega)).trans H3.out.2.2.1
      have e2 := (HC.out.below.block (w.heap.size + 1) (by omega)).trans H3.out.2.2.2.1
      have e3 := (HC.out.below.block (w.heap.size + 1 + 1) (by omega)).trans H3.out.2.2.2.2.1
      have k0 := heap_cell' (i := 0) e1 rfl
      have k1 := heap_cell' (i := 1) e1 rfl
      have d0 := heap_cell' (i := 0) e2 rfl
      have d1 := heap_cell' (i := 1) e2 rfl
      have d2 := heap_cell' (i := 2) e2 rfl
      have d3 := heap_cell' (i := 3) e2 rfl
      have d4 := heap_cell' (i := 4) e2 rfl
      have HWR : Hid (Below w.heap.size w wr ∧ Cb < wr.heap.size ∧ wr.heap[w.heap.size + 1 + 1]? = some (.cells #[.bool false, .slice none 0 0, .slice none 0 0] 34 (0, 0)) ∧ wr.heap[Cb]? = some (.cells #[.bool false, v, .slice none 0 0] 34 (0, 0))) := ⟨hbw, hcl, e3, HC.out.blk⟩
      obtain ⟨iad, icap, rfl⟩ : ∃ ad cap, v = .slice ad (idleP bs rows.length).length cap := by
        obtain ⟨ad, cap, e, _⟩ := HC.out.nats (w' := wr) (lo := 0) (fun _ _ _ => rfl) (Nat.le_refl _) (Nat.zero_le _)
        exact ⟨ad, cap, e⟩
      clear hfm hbw hkS hcl e1 e2 e3
      cases hres : toFail k fs F t with
      | none =>
        rw [hres] at CF
        have CF2 : Calls Try.prog 39 #[.agg #[.slice fa fs.length fc, .map (some b)], .agg #[.int .i64 a, .int .i64 b', .slice pa pl pc, .slice ca cl cc, .slice ea el ec]] wr fun r w' => r = .returned (.tuple #[.slice none 0 0, .bool false]) ∧ Below wr.heap.size wr w' := Calls.mono CF fun r w' h => by
          obtain ⟨hb, ⟨_, h2⟩ | ⟨y, v, l, h2, _⟩⟩ := h
          · exact ⟨h2, hb⟩
          · cases h2
        have HCQ : Hid (coverQ F k fs F t rows = (true, idleP bs rows.length, [])) := by
          show _ = _
          rw [cover_none hres, HID.out]
        clear CF hres
        go_upto_region 11 with (first | (go_at_call 39; (with_reducible refine Calls.mono CF2 ?_); rintro e' w4 ⟨rfl, hb4⟩))
        have hB4 := (hb4.block Cb HWR.out.2.1).trans HWR.out.2.2.2
        have hR4 := (hb4.block (w.heap.size + 1 + 1) (by have := HWR.out.2.1; omega)).trans HWR.out.2.2.1
        have y0 := heap_cell' (i := 0) hB4 rfl
        have z0 := heap_frozen (o := 0) hB4
        have hB5 := setCell_block (i := 0) (v := .bool true) hB4
        have hbw4 : Below w.heap.size w w4 := HWR.out.1.trans (hb4.mono HWR.out.1.size)
        obtain ⟨W5, hW5⟩ : ∃ W5, W5 = w4.setCell ⟨Cb, 0, none⟩ (.bool true) := ⟨_, rfl⟩
        rw [← hW5] at hB5
        have hs5 : W5.heap.size = w4.heap.size := by rw [hW5]; simp [World.setCell]
        have ho5 : ∀ y, y ≠ Cb → W5.heap[y]? = w4.heap[y]? := fun y hy => by rw [hW5]; exact Below.heap_setCell _ _ _ _ hy
        obtain ⟨U, hU, hUR, hUb, hUs, hUo, hUn⟩ := cov_fin (w := w) (wr := wr) (w6 := W5) true (.slice none 0 0) (by omega) (by rw [hW5]; exact hbw4.setCell (p := ⟨Cb, 0, none⟩) (by show w.heap.size ≤ Cb; omega) _) ((ho5 _ (by omega)).trans hR4) HC.out (fun y h1 h2 => (ho5 y (by omega)).trans (hb4.block y h2)) (by rw [hs5]; exact hb4.size)
        have r0 := heap_cell' (i := 0) ((ho5 _ (by omega)).trans hR4) rfl
        have r1 := heap_cell' (i := 1) ((ho5 _ (by omega)).trans hR4) rfl
        have r2 := heap_cell' (i := 2) ((ho5 _ (by omega)).trans hR4) rfl
        have f0 := heap_frozen (o := 0) ((ho5 _ (by omega)).trans hR4)
        have f1 := heap_frozen (o := 1) ((ho5 _ (by omega)).trans hR4)
        have f2 := heap_frozen (o := 2) ((ho5 _ (by omega)).trans hR4)
        have t0 := heap_cell' (i := 0) hB5 rfl
        have t1 := heap_cell' (i := 1) hB5 rfl
        have t2 := heap_cell' (i := 2) hB5 rfl
        have HUX : Hid (Below w.heap.size w U ∧ Nats U (fun y => w.heap.size ≤ y ∧ y < U.heap.size) (.slice iad (idleP bs rows.length).length icap) (idleP bs rows.length)) := ⟨hUb, hUn⟩
        clear hbw4 hs5 ho5 hUb hUs hUo hUn hB4 hR4 hb4 k0 k1 d0 d1 d2 d3 d4 hB5
        generalize hL : idleP bs rows.length = L at *
        clear hL
        go_upto_region 15 with fail
        rw [← hW5]
        clear hW5 y0 z0
        go_wp2
        rw [← hU]
        have u0 := heap_cell' (i := 0) hUR rfl
        have u1 := heap_cell' (i := 1) hUR rfl
        have u2 := heap_cell' (i := 2) hUR rfl
        refine bodyPost_ret (v := .agg #[.bool true, .slice iad L.length icap, .slice none 0 0]) (by simp [results, Try.results24, go_sem, u0, u1, u2]) rfl ?_
        rw [HCQ.out]
        exact ⟨HUX.out.1, iad, icap, none, 0, rfl, HUX.out.2, .inl ⟨rfl, none, 0, rfl⟩⟩
      | some way =>
        rw [hres] at CF
        have CF2 : Calls Try.prog 39 #[.agg #[.slice fa fs.length fc, .map (some b)], .agg #[.int .i64 a, .int .i64 b', .slice pa pl pc, .slice ca cl cc, .slice ea el ec]] wr fun r w' => ∃ v l, r = .returned (.tuple #[v, .bool true]) ∧ Below wr.heap.size wr w' ∧ l.map (·.1) = way ∧ WayAt w' S wr.heap.size v l := Calls.mono CF fun r w' h => by
          obtain ⟨hb, ⟨h2, _⟩ | ⟨y', v, l, h2, h3, h4, h5⟩⟩ := h
          · cases h2
          · obtain rfl := Option.some.inj h2
            exact ⟨v, l, h3, hb, h4, h5⟩
        have hwo := HWY.out way hres
        have hwl := toFail_len F t way hres
        have HWO : Hid ((WayOk (rows.headD []).length way ∧ ∀ s ∈ way, s.2.2 ≤ 8) ∧ way.length ≤ F) := ⟨hwo, hwl⟩
        have HCQ : Hid (coverQ F k fs F t rows = (false, idleP bs rows.length, missR F way rows)) := by
          show _ = _
          rw [cover_some hres, HID.out]
        clear CF hres hwo hwl
        by_cases hr0 : rows = []
        · have hrl : rows.length = 0 := by rw [hr0]; rfl
          have HCQ2 : Hid (coverQ F k fs F t rows = (false, idleP bs rows.length, [])) := by
            show _ = _
            rw [HCQ.out]
            subst hr0
            rfl
          have HRL : Hid (rows.length = 0) := hrl
          clear hr0 hrl HCQ
          go_upto_region 11 with (first | (go_at_call 39; (with_reducible refine Calls.mono CF2 ?_); rintro e' w4 ⟨v4, l, rfl, hb4, hl4, hwa4⟩))
          have hB5 := (hb4.block Cb HWR.out.2.1).trans HWR.out.2.2.2
          have hR4 := (hb4.block (w.heap.size + 1 + 1) (by have := HWR.out.2.1; omega)).trans HWR.out.2.2.1
          have hbw4 : Below w.heap.size w w4 := HWR.out.1.trans (hb4.mono HWR.out.1.size)
          obtain ⟨U, hU, hUR, hUb, hUs, hUo, hUn⟩ := cov_fin (w := w) (wr := wr) (w6 := w4) false (.slice none 0 0) (by omega) hbw4 hR4 HC.out (fun y h1 h2 => hb4.block y h2) hb4.size
          have r0 := heap_cell' (i := 0) hR4 rfl
          have r1 := heap_cell' (i := 1) hR4 rfl
          have r2 := heap_cell' (i := 2) hR4 rfl
          have f0 := heap_frozen (o := 0) hR4
          have f1 := heap_frozen (o := 1) hR4
          have f2 := heap_frozen (o := 2) hR4
          have t0 := heap_cell' (i := 0) hB5 rfl
          have t1 := heap_cell' (i := 1) hB5 rfl
          have t2 := heap_cell' (i := 2) hB5 rfl
          have HUX : Hid (Below w.heap.size w U ∧ Nats U (fun y => w.heap.size ≤ y ∧ y < U.heap.size) (.slice iad (idleP bs rows.length).length icap) (idleP bs rows.length)) := ⟨hUb, hUn⟩
          clear hbw4 hUb hUs hUo hUn hR4 hb4 k0 k1 d0 d1 d2 d3 d4 hB5 hl4 hwa4
          generalize hL : idleP bs rows.length = L at *
          clear hL
          have hz : ¬ ((0 : Int) < (rows.length : Int)) := by have := HRL.out; omega
          go_wp2
          rw [← hU]
          have u0 := heap_cell' (i := 0) hUR rfl
          have u1 := heap_cell' (i := 1) hUR rfl
          have u2 := heap_cell' (i := 2) hUR rfl
          refine bodyPost_ret (v := .agg #[.bool false, .slice iad L.length icap, .slice none 0 0]) (by simp [results, Try.results24, go_sem, u0, u1, u2]) rfl ?_
          rw [HCQ2.out]
          exact ⟨HUX.out.1, iad, icap, none, 0, rfl, HUX.out.2, .inl ⟨rfl, none, 0, rfl⟩⟩
        · have hrl : 0 < rows.length := List.length_pos_iff.2 hr0
          obtain ⟨rg, ro, rfl, hrc, hrr⟩ := HRR.out hr0
          obtain ⟨rs0, rad0, rcap0, q0, _⟩ := hrr 0 hrl
          have hhd : rows.headD [] = rows[0] := by
            cases rows with
            | nil => simp at hrl
            | cons a r => rfl
          have HCQ2 : Hid (coverQ F k fs F t rows = (false, idleP bs rows.length, missQ F rows[0].length way)) := by
            show _ = _
            rw [HCQ.out, missR_at hrl]
          have h16 := HL2.out rows[0] (List.getElem_mem hrl)
          have HQ0 : Hid (∀ w5, Below wr.heap.size wr w5 → w5.cell? ⟨rg, ro, none⟩ = some (.slice rad0 rows[0].length rcap0)) := fun w5 hb5 => by
            have h1 : w.cell? ⟨rg, ro, none⟩ = some (.slice rad0 rows[0].length rcap0) := by simpa using q0
            have hlt := HFM.out.2.2.2.2.2.2 rg rs0
            exact ((HWR.out.1.trans (hb5.mono HWR.out.1.size)).cell (p := ⟨rg, ro, none⟩) hlt).trans h1
          have HWO2 : Hid ((WayOk rows[0].length way ∧ ∀ s ∈ way, s.2.2 ≤ 8) ∧ way.length ≤ F) := by
            have := HWO.out
            rw [hhd] at this
            exact this
          have HS : Hid (∀ x, S x → x < wr.heap.size) := fun y hy => by have := HFM.out.2.2.2.2.2.2 y hy; have := HWR.out.1.size; omega
          clear hr0 HCQ hrr q0 hhd HWO
          generalize rows[0].length = n0 at *
          go_upto_region 11 with (first | (go_at_call 39; (with_reducible refine Calls.mono CF2 ?_); rintro e' w4 ⟨v4, l, rfl, hb4, hl4, hwa4⟩))
          have hll : l.length = way.length := by rw [← hl4, List.length_map]
          have CMS := missing_any (w := w4) (S := S) (lo := wr.heap.size) n0 (by omega) HS.out hb4.size hwa4 (by have := HWO2.out.2; omega) (by rw [hl4]; exact HWO2.out.1.1)
          have q := HQ0.out w4 hb4
          have H4 : Hid (Below wr.heap.size wr w4 ∧ l.map (·.1) = way ∧ WayAt w4 S wr.heap.size v4 l) := ⟨hb4, hl4, hwa4⟩
          have i1 : (0 : Int) < (rows.length : Int) := by omega
          clear hb4 hl4 hwa4 hll CF2 k0 k1 d0 d1 d2 d3 d4
          go_upto_region 15 with (first | (go_at_call 40; (with_reducible refine Calls.mono CMS ?_); rintro e' w5 ⟨Lb, rfl, hLb, hmi, hs45⟩; have hB5 := (hmi.below.block Cb (by have := HWR.out.2.1; omega)).trans ((H4.out.1.block Cb HWR.out.2.1).trans HWR.out.2.2.2); have y2 := heap_cell' (i := 2) hB5 rfl; have z2 := heap_frozen (o := 2) hB5))
          have h4 := H4.out
          have hwr := HWR.out
          have hB6 := setCell_block (i := 2) (v := .slice (some ⟨Lb, 0, none⟩) n0 n0) hB5
          have hb5 : Below wr.heap.size wr w5 := h4.1.trans hmi.below
          have hR5 := (hb5.block (w.heap.size + 1 + 1) (by omega)).trans hwr.2.2.1
          have hbw5 : Below w.heap.size w w5 := hwr.1.trans (hb5.mono hwr.1.size)
          have hmw : Mw w4 wr.heap.size Lb n0 l := ⟨by rw [h4.2.1]; exact HWO2.out.1.1, fun x hx => (h4.2.2.args x hx).imp_right fun ⟨B, h1, h2, h3, h4, _⟩ => ⟨B, h1, h2, h3, h4⟩, h4.2.2.apart, hLb, h4.1.size⟩
          have hpt := mi_pats (D := F) (S' := fun y => wr.heap.size ≤ y ∧ y < w5.heap.size) hmw hmi (fun y h1 h2 => ⟨h1, h2⟩) (fun x hx => by
            have hq := HWO2.out
            have := hq.1.1.len x.1 (by rw [← h4.2.1]; exact List.mem_map.2 ⟨x, hx, rfl⟩)
            omega) (fun x hx => HWO2.out.1.2 x.1 (by rw [← h4.2.1]; exact List.mem_map.2 ⟨x, hx, rfl⟩)) h4.2.2.name
          rw [h4.2.1] at hpt
          obtain ⟨W5, hW5⟩ : ∃ W5, W5 = w5.setCell ⟨Cb, 2, none⟩ (.slice (some ⟨Lb, 0, none⟩) n0 n0) := ⟨_, rfl⟩
          rw [← hW5] at hB6 ⊢
          have hs5 : W5.heap.size = w5.heap.size := by rw [hW5]; simp [World.setCell]
          have ho5 : ∀ y, y ≠ Cb → W5.heap[y]? = w5.heap[y]? := fun y hy => by rw [hW5]; exact Below.heap_setCell _ _ _ _ hy
          have hR6 := (ho5 (w.heap.size + 1 + 1) (by omega)).trans hR5
          obtain ⟨U, hU, hUR, hUb, hUs, hUo, hUn⟩ := cov_fin (w := w) (wr := wr) (w6 := W5) false (.slice (some ⟨Lb, 0, none⟩) n0 n0) (by omega) (by rw [hW5]; exact hbw5.setCell (p := ⟨Cb, 2, none⟩) (by show w.heap.size ≤ Cb; omega) _) hR6 HC.out (fun y h1 h2 => (ho5 y (by omega)).trans (hb5.block y h2)) (by rw [hs5]; exact hb5.size)
          have hpu : Pats U (fun y => w.heap.size ≤ y ∧ y < U.heap.size) (.slice (some ⟨Lb, 0, none⟩) n0 n0) ((missQ F n0 way).map fun u => (⟨F + 1, u⟩ : Pt)) := (hpt.on (fun y hy => by
            have h1 := hwr.2.1
            rw [hUo y (by omega), ho5 y (by omega)])).up fun y hy => ⟨by have := hwr.1.size; omega, by omega⟩
          have r0 := heap_cell' (i := 0) hR6 rfl
          have r1 := heap_cell' (i := 1) hR6 rfl
          have r2 := heap_cell' (i := 2) hR6 rfl
          have f0 := heap_frozen (o := 0) hR6
          have f1 := heap_frozen (o := 1) hR6
          have f2 := heap_frozen (o := 2) hR6
          have t0 := heap_cell' (i := 0) hB6 rfl
          have t1 := heap_cell' (i := 1) hB6 rfl
          have t2 := heap_cell' (i := 2) hB6 rfl
          have HUX : Hid (Below w.heap.size w U ∧ Nats U (fun y => w.heap.size ≤ y ∧ y < U.heap.size) (.slice iad (idleP bs rows.length).length icap) (idleP bs rows.length) ∧ Pats U (fun y => w.heap.size ≤ y ∧ y < U.heap.size) (.slice (some ⟨Lb, 0, none⟩) n0 n0) ((missQ F n0 way).map fun u => (⟨F + 1, u⟩ : Pt))) := ⟨hUb, hUn, hpu⟩
          clear hbw5 hs5 ho5 hUb hUs hUo hUn hR5 hR6 hb5 hB5 hB6 hmw hpt hpu h4 hwr hW5 hmi hLb hs45 q y2 z2
          generalize hL : idleP bs rows.length = L at *
          clear hL
          go_wp2
          rw [← hU]
          have u0 := heap_cell' (i := 0) hUR rfl
          have u1 := heap_cell' (i := 1) hUR rfl
          have u2 := heap_cell' (i := 2) hUR rfl
          refine bodyPost_ret (v := .agg #[.bool false, .slice iad L.length icap, .slice (some ⟨Lb, 0, none⟩) n0 n0]) (by simp [results, Try.results24, go_sem, u0, u1, u2]) rfl ?_
          rw [HCQ2.out]
          have e : (missQ F n0 way).length = n0 := by simp [missQ]
          refine ⟨HUX.out.1, iad, icap, some ⟨Lb, 0, none⟩, n0, by rw [e], HUX.out.2.1, ?_⟩
          show Pats U _ (.slice (some ⟨Lb, 0, none⟩) (missQ F n0 way).length n0) _
          rw [e]
          exact HUX.out.2.2
end Go.Proofs.Ytpdmkhnonbbhnaa
