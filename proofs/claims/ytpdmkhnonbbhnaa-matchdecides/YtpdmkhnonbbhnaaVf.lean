/- rightColumns: the columns of rows, and whether the rows are right. -/
import Derived.Test.YtpdmkhnonbbhnaaVe
namespace Go.Proofs.Ytpdmkhnonbbhnaa
open Go.RowKit Go.Maps

def linesR (rows : List (List Pt)) : List (Nat × List Pt) := (List.range rows.length).zip rows
theorem linesR_len (rows : List (List Pt)) : (linesR rows).length = rows.length := by simp [linesR]
theorem linesR_get (rows : List (List Pt)) (j : Nat) (h : j < (linesR rows).length) : (linesR rows)[j] = (j, rows[j]'(by rw [linesR_len] at h; exact h)) := by
  simp [linesR]
theorem linesR_fst (rows : List (List Pt)) : (linesR rows).map (·.1) = List.range rows.length := by
  unfold linesR
  rw [List.map_fst_zip]
  simp
theorem linesR_snd (rows : List (List Pt)) : (linesR rows).map (·.2) = rows := by
  unfold linesR
  rw [List.map_snd_zip]
  simp
theorem linesR_wt {rows : List (List Pt)} (hl : rows.length ≤ 200) {around : List Nat} {width : Nat} : ∀ c ∈ colsOf around width (linesR rows), Wt c := fun c hc => by
  obtain ⟨n, _, hne, rfl⟩ := mem_colsOf.1 hc
  obtain ⟨h1, h2⟩ := spots_lines (n := n) (linesR rows)
  rw [linesR_fst] at h1
  refine ⟨hne, List.pairwise_lt_range.sublist h1, fun s hs => ?_⟩
  have := h1.subset (List.mem_map.2 ⟨s, hs, rfl⟩)
  rw [List.mem_range] at this
  omega
theorem linesR_csz (rows : List (List Pt)) (around : List Nat) (width : Nat) : csz (colsOf around width (linesR rows)) ≤ (rows.map szs).sum := by
  refine Nat.le_trans (colsOf_csz _ _ _) (Nat.le_trans (kidz_le _ _) ?_)
  have : ((linesR rows).map fun x => szs x.2) = (((linesR rows).map (·.2)).map szs) := by rw [List.map_map]; rfl
  rw [this, linesR_snd]
  exact Nat.le_refl _
structure Lr (w : World) (g o : Nat) (n : Nat) (Lb : Nat) (W : World) (i : Nat) (cur : Array Value) (wr : World) : Prop where
  below : Below Lb W wr
  blk : wr.heap[Lb]? = some (.cells cur 83 (0, 0))
  size : cur.size = n * 2
  row : ∀ j, j < n → j < i → cur[j * 2]? = some (.int .i64 j) ∧ cur[j * 2 + 1]? = w.cell? ⟨g, o + j, none⟩
theorem Lr.lt {w : World} {g o n Lb : Nat} {W : World} {i : Nat} {cur : Array Value} {wr : World} (h : Lr w g o n Lb W i cur wr) : Lb < wr.heap.size := lt_of_heap h.blk
theorem Lr.put {w : World} {g o n Lb : Nat} {W : World} {i : Nat} {cur : Array Value} {wr : World} (h : Lr w g o n Lb W i cur wr) (hi : i < n) {v : Value} (hv : w.cell? ⟨g, o + i, none⟩ = some v) :
    Lr w g o n Lb W (i + 1) ((cur.setIfInBounds (i * 2) (.int .i64 i)).setIfInBounds (i * 2 + 1) v) ((wr.setCell ⟨Lb, i * 2, none⟩ (.int .i64 i)).setCell ⟨Lb, i * 2 + 1, none⟩ v) := by
  have hs := h.size
  refine ⟨(h.below.setCell (p := ⟨Lb, i * 2, none⟩) (Nat.le_refl _) _).setCell (p := ⟨Lb, i * 2 + 1, none⟩) (Nat.le_refl _) _, setCell_block (setCell_block h.blk), by simpa using hs, fun j hj hji => ?_⟩
  by_cases e : j = i
  · subst e
    refine ⟨?_, ?_⟩
    · rw [Array.getElem?_setIfInBounds, if_neg (by omega), Array.getElem?_setIfInBounds, if_pos rfl, if_pos (by omega)]
    · rw [Array.getElem?_setIfInBounds, if_pos rfl, if_pos (by simp; omega), hv]
  · obtain ⟨r0, r1⟩ := h.row j hj (by omega)
    refine ⟨?_, ?_⟩
    · rw [Array.getElem?_setIfInBounds, if_neg (by omega), Array.getElem?_setIfInBounds, if_neg (by omega), r0]
    · rw [Array.getElem?_setIfInBounds, if_neg (by omega), Array.getElem?_setIfInBounds, if_neg (by omega), r1]
theorem Lr.lines {w : World} {S : Nat → Prop} {rows : List (List Pt)} {g o Lb : Nat} {W : World} {cur : Array Value} {wr : World} (h : Lr w g o rows.length Lb W rows.length cur wr) (hne : rows ≠ []) (hk : Keeps S w wr) (hr : ∀ j (h : j < rows.length), S g ∧ ∃ ad cap, w.cell? ⟨g, o + j, none⟩ = some (.slice ad rows[j].length cap) ∧ Pats w S (.slice ad rows[j].length cap) rows[j]) : Lines wr (fun b => S b ∨ b = Lb) (.slice (some ⟨Lb, 0, none⟩) rows.length rows.length) (linesR rows) := by
  refine .inr ⟨Lb, 0, rows.length, by rw [linesR_len], fun e => hne (by have := congrArg List.length e; rw [linesR_len] at this; simpa using this), by rw [linesR_len]; exact Nat.le_refl _, fun j hj => ?_⟩
  have hj' : j < rows.length := by rw [linesR_len] at hj; exact hj
  obtain ⟨r0, r1⟩ := h.row j hj' hj'
  obtain ⟨s0, ad, cap, c0, hp⟩ := hr j hj'
  rw [linesR_get rows j hj]
  refine ⟨.inr rfl, heap_cell' h.blk (by simpa using r0), ad, cap, heap_cell' h.blk ?_, (hp.on hk).up fun b hb => .inl hb⟩
  have e : 0 + j * 2 + 1 = j * 2 + 1 := by omega
  rw [e, r1, c0]
def RcPost (k : Kn) (S : Nat → Prop) (rows : List (List Pt)) (w : World) (r : Ending) (w' : World) : Prop := Below w.heap.size w w' ∧
  (((∃ x ∈ rows, x.length ≠ (rows.headD []).length) ∧ r = .returned (.tuple #[.slice none 0 0, .bool false])) ∨
   ((∀ x ∈ rows, x.length = (rows.headD []).length) ∧ ∃ v a, r = .returned (.tuple #[v, .bool a]) ∧ Cols w' (fun b => S b ∨ (w.heap.size ≤ b ∧ b < w'.heap.size)) v (colsOf [] (rows.headD []).length (linesR rows)) ∧ (a = true ↔ ∀ c ∈ colsOf [] (rows.headD []).length (linesR rows), Rall k c.2.2)))
theorem neq_nat (n m : Nat) : ((n : Int) != m) = decide (n ≠ m) := by
  by_cases h : n = m
  · subst h; simp
  · have : (n : Int) ≠ m := by omega
    simp [h, this]
set_option maxHeartbeats 8000000 in
set_option maxRecDepth 10000 in
theorem rcols_any {w : World} {S : Nat → Prop} {b : Nat} {k : Kn} {fs : List Fam} (fa : Option Addr) (fl fc : Nat) (rv : Value) (rows : List (List Pt)) (hK : KnOk k fs) (hS : ∀ b, S b → b < w.heap.size) (hM : MapK w b k) (hR : RowsAt w S rv rows) (hl : rows.length ≤ 200) (hl2 : ∀ r ∈ rows, r.length ≤ 16) (hsz : (rows.map szs).sum ≤ 100000) :
    Calls Try.prog 19 #[.agg #[.slice fa fl fc, .map (some b)], rv] w (RcPost k S rows w) := by
  have hW : ∃ W, W = w.alloc (Obj.cells #[.slice fa fl fc, .map (some b)] 58) ∧ Below w.heap.size w W ∧ W.heap.size = w.heap.size + 1 ∧ W.heap[w.heap.size]? = some (.cells #[.slice fa fl fc, .map (some b)] 58 (0, 0)) := ⟨_, rfl, (Below.refl _ _).alloc (Nat.le_refl _) _, by simp, new_block' w _⟩
  obtain ⟨W, hW, hbW, hsW, hkb⟩ := hW
  have HbW : Hid (Below w.heap.size w W ∧ W.heap.size = w.heap.size + 1 ∧ W.heap[w.heap.size]? = some (.cells #[.slice fa fl fc, .map (some b)] 58 (0, 0))) := ⟨hbW, hsW, hkb⟩
  have HM : Hid (MapK w b k ∧ KnOk k fs) := ⟨hM, hK⟩
  have HS : Hid (∀ b, S b → b < w.heap.size) := hS
  have HSZ : Hid ((rows.map szs).sum ≤ 100000) := hsz
  rcases hR with ⟨h0, ad, cap, rfl⟩ | ⟨g, o, cap, rfl, h0, hcap, hr⟩
  · subst h0
    clear hl2 hsz hS hM hK hbW hsW hkb
    go_enter Try.func19, Try.ntmps19
    go_upto_region 1 with fail
    rw [← hW]
    clear hW
    go_wp2
    refine bodyPost_ret (v := .tuple #[.slice none 0 0, .bool true]) (by simp [results, Try.results19, go_sem]) rfl ?_
    refine ⟨HbW.out.1, .inr ⟨fun x hx => (by simp at hx), _, true, rfl, .inl ⟨rfl, none, 0, rfl⟩, fun _ c hc => ?_, fun _ => rfl⟩⟩
    simp [linesR, colsOf] at hc
  · have hr : ∀ j (h : j < rows.length), S g ∧ ∃ ad cap, w.cell? ⟨g, o + j, none⟩ = some (.slice ad rows[j].length cap) ∧ Pats w S (.slice ad rows[j].length cap) rows[j] := fun j h => by
      have := hr j h
      rw [Nat.mul_one] at this
      exact this
    have hpos : 0 < rows.length := List.length_pos_iff.2 h0
    obtain ⟨s0, ad0, cap0, c0, _⟩ := hr 0 hpos
    have hhd : rows.headD [] = rows[0] := by
      cases rows with
      | nil => simp at hpos
      | cons a r => rfl
    have HR : Hid (∀ j (h : j < rows.length), S g ∧ ∃ ad cap, w.cell? ⟨g, o + j, none⟩ = some (.slice ad rows[j].length cap) ∧ Pats w S (.slice ad rows[j].length cap) rows[j]) := hr
    have HL2 : Hid (∀ r ∈ rows, r.length ≤ 16) := hl2
    have HWD : Hid ((rows.headD []).length = rows[0].length ∧ rows ≠ []) := ⟨by rw [hhd], h0⟩
    have c0 := (hbW.cell (p := ⟨g, o, none⟩) (hS g s0)).trans c0
    obtain ⟨cz, hmk, hcz⟩ := make_lines W rows.length (by omega)
    rw [hsW] at hmk
    have HX : Hid (Lr w g o rows.length (w.heap.size + 1) (W.alloc (.cells cz 83)) 0 cz (W.alloc (.cells cz 83))) := ⟨Below.refl _ _, by have := new_block W (.cells cz 83); rwa [hsW] at this, hcz, fun j _ h => by omega⟩
    have HX2 : Hid (Below (w.heap.size + 1) W (W.alloc (.cells cz 83))) := by
      have := (Below.refl W.heap.size W).alloc (Nat.le_refl _) (.cells cz 83)
      rwa [hsW] at this
    have hnz : ((rows.length : Int) == 0) = false := beq_eq_false_iff_ne.2 (by omega)
    have h0l : (0 : Int) < rows.length := by omega
    generalize hW2 : W.alloc (.cells cz 83) = W2 at *
    clear hW2 hr hl2 hsz hS hM hK hbW hsW hkb hcz hhd h0
    generalize hwd : rows[0].length = wd at *
    clear hwd
    go_enter Try.func19, Try.ntmps19
    go_upto_region 1 with fail
    rw [← hW]
    clear hW
    go_wp2
    clear c0 hmk hnz
    go_loopw [23] (fun iv wr => ∃ (i : Nat) (cur : Array Value), i ≤ rows.length ∧ iv = .int .i64 i ∧ Hid (Lr w g o rows.length (w.heap.size + 1) W2 i cur wr) ∧ Hid (∀ j (h : j < rows.length), j < i → rows[j].length = wd)) (fun iv _ => rows.length - (intOf iv).toNat)
    case atStart => exact ⟨0, cz, by omega, by go_num, HX.out, fun j _ h => by omega⟩
    case round =>
      obtain ⟨i, cur, hi, rfl, HT, HW⟩ := hrel
      have HB : Hid (Below (w.heap.size + 1) W wr) := HX2.out.trans HT.out.below
      have HBw : Hid (Below w.heap.size w wr) := HbW.out.1.trans (HB.out.mono (by have := HbW.out.2.1; omega))
      by_cases hil : i < rows.length
      · obtain ⟨s0, ad, rcap, q, _⟩ := HR.out i hil
        have HV : Hid (w.cell? ⟨g, o + i, none⟩ = some (.slice ad rows[i].length rcap)) := q
        have q := (HBw.out.cell (p := ⟨g, o + i, none⟩) (HS.out g s0)).trans q
        have i1 : (0 : Int) ≤ (i : Int) := by omega
        have i2 : (i : Int) < (rows.length : Int) := by omega
        have hnq := neq_nat rows[i].length wd
        by_cases hw : rows[i].length = wd
        · have hcs := HT.out.size
          have y0 := heap_cell' HT.out.blk (Array.getElem?_eq_getElem (show i * 2 < cur.size by omega))
          have y1 := heap_cell' HT.out.blk (Array.getElem?_eq_getElem (show i * 2 + 1 < cur.size by omega))
          have z0 := heap_frozen (o := i * 2) HT.out.blk
          have z1 := heap_frozen (o := i * 2 + 1) HT.out.blk
          have HW2 : Hid (∀ j (h : j < rows.length), j < i + 1 → rows[j].length = wd) := fun j h hj => by
            by_cases e : j = i
            · subst e; exact hw
            · exact HW.out j h (by omega)
          rw [hw] at hnq HV q
          rw [decide_eq_false (by simp)] at hnq
          generalize cur[i * 2] = cv0 at y0
          generalize cur[i * 2 + 1] = cv1 at y1
          clear hw
          go_wp2
          exact ⟨⟨i + 1, _, hil, by go_num, HT.out.put hil HV.out, HW2.out⟩, by simp [intOf]; omega⟩
        · rw [decide_eq_true hw] at hnq
          have HE : Hid (∃ x ∈ rows, x.length ≠ (rows.headD []).length) := ⟨rows[i], List.getElem_mem hil, by rw [HWD.out.1]; exact hw⟩
          clear hw
          go_wp2
          refine bodyPost_ret (v := .tuple #[.slice none 0 0, .bool false]) (by simp [results, Try.results19, go_sem]) rfl ?_
          exact ⟨HBw.out, .inl ⟨HE.out, rfl⟩⟩
      · obtain rfl : i = rows.length := by omega
        have hk : Keeps S w wr := Keeps.of HBw.out HS.out
        have hLi := HT.out.lines HWD.out.2 hk HR.out
        have hlt := HT.out.lt
        have HAL : Hid (∀ x ∈ rows, x.length = wd) := fun x hx => by
          obtain ⟨j, hj, rfl⟩ := List.getElem_of_mem hx
          exact HW.out j hj hj
        have hwd16 : wd ≤ 16 := by
          have h1 := HAL.out rows[0] (List.getElem_mem hpos)
          have h2 := HL2.out rows[0] (List.getElem_mem hpos)
          omega
        have CC := cols_any (fun b => S b ∨ b = w.heap.size + 1) [] none 0 wd (linesR rows) (.slice (some ⟨w.heap.size + 1, 0, none⟩) rows.length rows.length) wr (fun b hb => by
          rcases hb with hb | rfl
          · have := HS.out b hb
            have := HBw.out.size
            omega
          · exact hlt) (.inl ⟨rfl, none, 0, rfl⟩) (by omega) hLi (fun l hl => by
            have h1 : l.1 ∈ (linesR rows).map (·.1) := List.mem_map.2 ⟨l, hl, rfl⟩
            rw [linesR_fst, List.mem_range] at h1
            omega) (fun l hl => by
            have h1 : l.2 ∈ (linesR rows).map (·.2) := List.mem_map.2 ⟨l, hl, rfl⟩
            rw [linesR_snd] at h1
            have h2 := HAL.out _ h1
            omega) (by rw [linesR_len]; exact hl)
        have HCR : Hid (∀ (w1 : World) (v : Value), Below wr.heap.size wr w1 → Cols w1 (fun b => (S b ∨ b = w.heap.size + 1) ∨ (wr.heap.size ≤ b ∧ b < w1.heap.size)) v (colsOf [] wd (linesR rows)) → (w1.cell? ⟨w.heap.size, 0, none⟩ = some (.slice fa fl fc) ∧ w1.cell? ⟨w.heap.size, 1, none⟩ = some (.map (some b))) ∧ Calls Try.prog 32 #[.agg #[.slice fa fl fc, .map (some b)], v] w1 fun r w2 => ∃ a : Bool, r = .returned (.bool a) ∧ RcPost k S rows w (.returned (.tuple #[v, .bool a])) w2) := fun w1 v hb1 hv => by
          have hb01 := HBw.out.trans (hb1.mono HBw.out.size)
          have hB1 := HB.out.trans (hb1.mono (by omega))
          have hk1 : w1.heap[w.heap.size]? = some (.cells #[.slice fa fl fc, .map (some b)] 58 (0, 0)) := (hB1.block _ (by omega)).trans HbW.out.2.2
          refine ⟨⟨heap_cell' hk1 rfl, heap_cell' hk1 rfl⟩, ?_⟩
          have hv2 : Cols w1 (fun b => S b ∨ (w.heap.size ≤ b ∧ b < w1.heap.size)) v (colsOf [] wd (linesR rows)) := hv.up fun b hb => by
            have := hb1.size
            have := HBw.out.size
            rcases hb with (hb | rfl) | hb
            · exact .inl hb
            · exact .inr ⟨by omega, by omega⟩
            · exact .inr ⟨by omega, by omega⟩
          have hS1 : ∀ x, (S x ∨ (w.heap.size ≤ x ∧ x < w1.heap.size)) → x < w1.heap.size := fun x hx => by
            rcases hx with hx | hx
            · have := HS.out x hx; have := hb01.size; omega
            · exact hx.2
          refine Calls.mono (right_any fa fl fc v _ HM.out.2 hS1 (HM.out.1.on (hb01.block b (Mv.lt HM.out.1))) hv2 (linesR_wt hl) (Nat.le_trans (linesR_csz _ _ _) HSZ.out)) ?_
          rintro r w2 ⟨hb2, a, rfl, ha⟩
          refine ⟨a, rfl, hb01.trans (hb2.mono hb01.size), .inr ⟨fun x hx => by rw [HWD.out.1]; exact HAL.out x hx, v, a, rfl, ?_, ?_⟩⟩
          · rw [HWD.out.1]
            exact (hv2.on (Keeps.of hb2 hS1)).up fun b hb => hb.imp_right fun e => ⟨e.1, by have := hb2.size; omega⟩
          · rw [HWD.out.1]
            exact ha
        clear hLi hk HR HX HX2
        go_upto_region 13 with (first | (go_at_call 31; (with_reducible refine Calls.mono CC ?_); rintro e' w1 ⟨hb1, v1, rfl, hv1⟩))
        obtain ⟨⟨k0, k1⟩, CR⟩ := HCR.out w1 v1 hb1 hv1
        go_wp2_with (first | (go_at_call 32; (with_reducible refine Calls.mono CR ?_); rintro e' w2 ⟨a2, rfl, hE⟩))
        refine bodyPost_ret (v := .tuple #[v1, .bool a2]) (by simp [results, Try.results19, go_sem]) rfl ?_
        exact hE
end Go.Proofs.Ytpdmkhnonbbhnaa
