/- within: the columns of a constructor's fields. -/
import Derived.Test.YtpdmkhnonbbhnaaSc
import Derived.Test.YtpdmkhnonbbhnaaCp
import Derived.Test.YtpdmkhnonbbhnaaMc
import Derived.Laws.MakeOwn
namespace Go.Proofs.Ytpdmkhnonbbhnaa
open Go.RowKit Go.Maps

theorem Try.info83 : (Try.prog.info? 83).map (fun i => (i.zero, i.size, i.bytes)) = some (some (.agg #[.int .i64 0, .slice none 0 0]), 2, 32) := by kernel_rfl
set_option maxRecDepth 100000 in
theorem fld2 (a b c : Int) (W : World) : (Instr.field 79 (.agg #[.int .i64 a, .int .i64 b, .int .i64 c]) 2).run Try.prog W = .ok (.int .i64 c) W := by
  rfl
theorem make_lines (w : World) (n : Nat) (hn : n ≤ 1000) : ∃ c, (Instr.makeSlice 81 (.int .i64 n) (.int .i64 n)).run Try.prog w = .ok (.slice (some ⟨w.heap.size, 0, none⟩) n n) (w.alloc (.cells c 83)) ∧ c.size = n * 2 := by
  obtain ⟨i0, hi, hz0, hz1, hz2⟩ := info_parts Try.info83
  have := run_makeSlice (P := Try.prog) w 81 83 i0 _ Try.underlying81 hi hz0 .i64 .i64 n n (by omega) (Int.le_refl _) (by rw [hz1]; simp; omega) (by rw [hz2]; omega) (by omega)
  refine ⟨_, by simpa using this, ?_⟩
  simp [madeCells, hz1]
/-- Between the rounds: the first i lines are laid in block Lb. -/
structure Lw (w : World) (L : List Sr) (Lb : Nat) (W : World) (i : Nat) (cur : Array Value) (wr : World) : Prop where
  below : Below Lb W wr
  blk : wr.heap[Lb]? = some (.cells cur 83 (0, 0))
  size : cur.size = L.length * 2
  row : ∀ j (h : j < L.length), j < i → cur[j * 2]? = some (.int .i64 L[j].1) ∧ cur[j * 2 + 1]? = w.cell? ⟨L[j].2.1, L[j].2.2.1 + 3, none⟩
theorem Lw.lt {w : World} {L : List Sr} {Lb : Nat} {W : World} {i : Nat} {cur : Array Value} {wr : World} (h : Lw w L Lb W i cur wr) : Lb < wr.heap.size := lt_of_heap h.blk
theorem Lw.on {w : World} {L : List Sr} {Lb : Nat} {W : World} {i : Nat} {cur : Array Value} {wr wi : World} (h : Lw w L Lb W i cur wr) (hb : Below wr.heap.size wr wi) : Lw w L Lb W i cur wi :=
  ⟨h.below.trans (hb.mono (Nat.le_of_lt h.lt)), (hb.block _ h.lt).trans h.blk, h.size, h.row⟩
theorem Lw.put {w : World} {L : List Sr} {Lb : Nat} {W : World} {i : Nat} {cur : Array Value} {wr : World} (h : Lw w L Lb W i cur wr) (hi : i < L.length) {v : Value} (hv : w.cell? ⟨L[i].2.1, L[i].2.2.1 + 3, none⟩ = some v) :
    Lw w L Lb W (i + 1) ((cur.setIfInBounds (i * 2) (.int .i64 L[i].1)).setIfInBounds (i * 2 + 1) v) ((wr.setCell ⟨Lb, i * 2, none⟩ (.int .i64 L[i].1)).setCell ⟨Lb, i * 2 + 1, none⟩ v) := by
  refine ⟨(h.below.setCell (p := ⟨Lb, i * 2, none⟩) (Nat.le_refl _) _).setCell (p := ⟨Lb, i * 2 + 1, none⟩) (Nat.le_refl _) _, setCell_block (setCell_block h.blk), by simpa using h.size, fun j hj hji => ?_⟩
  have hs := h.size
  by_cases e : j = i
  · subst e
    refine ⟨?_, ?_⟩
    · rw [Array.getElem?_setIfInBounds, if_neg (by omega), Array.getElem?_setIfInBounds, if_pos rfl, if_pos (by omega)]
    · rw [Array.getElem?_setIfInBounds, if_pos rfl, if_pos (by simp; omega), hv]
  · obtain ⟨r1, r2⟩ := h.row j hj (by omega)
    refine ⟨?_, ?_⟩
    · rw [Array.getElem?_setIfInBounds, if_neg (by omega), Array.getElem?_setIfInBounds, if_neg (by omega), r1]
    · rw [Array.getElem?_setIfInBounds, if_neg (by omega), Array.getElem?_setIfInBounds, if_neg (by omega), r2]
theorem Lw.lines {w : World} {S : Nat → Prop} {L : List Sr} {Lb : Nat} {W : World} {cur : Array Value} {wr : World} (h : Lw w L Lb W L.length cur wr) (hk : Keeps S w wr) (hp : ∀ s ∈ L, PtP w S s.2.1 s.2.2.1 s.2.2.2) : Lines wr (fun b => S b ∨ b = Lb) (.slice (some ⟨Lb, 0, none⟩) L.length L.length) (linesOf (L.map sS)) := by
  have hl : linesOf (L.map sS) = L.map fun s => (s.1, s.2.2.2.kids) := by
    unfold linesOf
    rw [List.map_map]
    rfl
  rw [hl]
  by_cases h0 : L = []
  · subst h0
    exact .inl ⟨rfl, _, _, rfl⟩
  · refine .inr ⟨Lb, 0, L.length, by rw [List.length_map], by simpa using h0, by simp, fun j hj => ?_⟩
    have hj' : j < L.length := by simpa using hj
    obtain ⟨r1, r2⟩ := h.row j hj' hj'
    obtain ⟨_, _, _, _, _, _, ad, cap, c3, hP⟩ := (hp L[j] (List.getElem_mem hj')).open
    rw [List.getElem_map]
    refine ⟨.inr rfl, ?_, ad, cap, ?_, (hP.on hk).up fun b hb => .inl hb⟩
    · rw [Nat.zero_add]
      exact heap_cell h.blk r1
    · rw [Nat.zero_add]
      exact heap_cell h.blk (r2.trans c3)
set_option maxHeartbeats 4000000 in
set_option maxRecDepth 10000 in
theorem within_any {w : World} {S : Nat → Prop} {b : Nat} {k : Kn} (fa : Option Addr) (fl fc : Nat) (sv : Value) (spots : List Sp) (con : Str) (path : List Nat) (pa : Option Addr) (pc : Nat) (hS : ∀ b, S b → b < w.heap.size) (hM : MapK w b k) (hp : Spots w S sv spots) (hP : Nats w S (.slice pa path.length pc) path)
    (hbig : spots.length ≤ 200) (hcon : con.length < 140737488355328) (hrow : ∀ s ∈ spots, s.1 < 200) (hf : ∀ s ∈ spots, (looks k con).2.2 ≤ s.2.kids.length) (hf2 : (looks k con).2.2 < 100000) :
    Calls Try.prog 47 #[.agg #[.slice fa fl fc, .map (some b)], sv, .string ⟨con.toArray⟩, .slice pa path.length pc] w fun r w' => Below w.heap.size w w' ∧ ∃ v, r = .returned v ∧ Cols w' (fun b => S b ∨ (w.heap.size ≤ b ∧ b < w'.heap.size)) v (within k spots con path) := by
  obtain ⟨L, hL, hrow2, hpat⟩ := hp.list
  have hlen : L.length ≤ 200 := by rw [← hL, List.length_map] at hbig; exact hbig
  have HPAT : Hid (∀ s ∈ L, PtP w S s.2.1 s.2.2.1 s.2.2.2) := hpat
  have HS : Hid (∀ b, S b → b < w.heap.size) := hS
  have HM : Hid (MapK w b k) := hM
  have HPA : Hid (Nats w S (.slice pa path.length pc) path) := hP
  have HL : Hid (L.map sS = spots) := hL
  have HQ : Hid (con.length < 140737488355328 ∧ (∀ s ∈ spots, s.1 < 200) ∧ (∀ s ∈ spots, (looks k con).2.2 ≤ s.2.kids.length) ∧ (looks k con).2.2 < 100000) := ⟨hcon, hrow, hf, hf2⟩
  obtain ⟨ad, cap, rfl, hrow3⟩ := hrow2.open
  have HROW : Hid (L ≠ [] → ∃ g o, ad = some ⟨g, o, none⟩ ∧ L.length ≤ cap ∧ ∀ j (h : j < L.length), S g ∧ w.cell? ⟨g, o + j * 2, none⟩ = some (.int .i64 L[j].1) ∧ w.cell? ⟨g, o + j * 2 + 1, none⟩ = some (.pointer (some ⟨L[j].2.1, L[j].2.2.1, none⟩))) := hrow3
  have hW : ∃ W, W = w.alloc (Obj.cells #[.slice fa fl fc, .map (some b)] 58) ∧ Below w.heap.size w W ∧ W.heap.size = w.heap.size + 1 ∧ W.cell? ⟨w.heap.size, 1, none⟩ = some (.map (some b)) := ⟨_, rfl, (Below.refl _ _).alloc (Nat.le_refl _) _, by simp, heap_cell' (new_block' w _) rfl⟩
  obtain ⟨W, hW, hbW, hsW, d1⟩ := hW
  have HbW : Hid (Below w.heap.size w W ∧ W.heap.size = w.heap.size + 1 ∧ W.cell? ⟨w.heap.size, 1, none⟩ = some (.map (some b))) := ⟨hbW, hsW, d1⟩
  obtain ⟨c0, hmk, hc0⟩ := make_lines W L.length (by omega)
  rw [hsW] at hmk
  have HX : Hid (Lw w L (w.heap.size + 1) (W.alloc (.cells c0 83)) 0 c0 (W.alloc (.cells c0 83))) := ⟨Below.refl _ _, by have := new_block W (.cells c0 83); rwa [hsW] at this, hc0, fun j _ h => by omega⟩
  have HX2 : Hid (Below (w.heap.size + 1) W (W.alloc (.cells c0 83))) := by
    have := (Below.refl W.heap.size W).alloc (Nat.le_refl _) (.cells c0 83)
    rwa [hsW] at this
  generalize hW2 : W.alloc (.cells c0 83) = W2 at *
  clear hW2 hrow2 hrow3 hpat hS hL hbig hp hbW d1 hM hP hc0 hcon hrow hf hf2
  have HsW : Hid (W.heap.size = w.heap.size + 1) := hsW
  clear hsW
  go_enter Try.func47, Try.ntmps47
  go_upto_region 1 with fail
  rw [← hW]
  clear hW
  go_wp2
  go_loopw [17] (fun iv wr => ∃ (i : Nat) (cur : Array Value), i ≤ L.length ∧ iv = .int .i64 i ∧ Hid (Lw w L (w.heap.size + 1) W2 i cur wr)) (fun iv _ => L.length - (intOf iv).toNat)
  case atStart => exact ⟨0, c0, by omega, by go_num, HX.out⟩
  case round =>
    obtain ⟨i, cur, hi, rfl, HT⟩ := hrel
    have HB : Hid (Below (w.heap.size + 1) W wr) := HX2.out.trans HT.out.below
    have HBw : Hid (Below w.heap.size w wr) := HbW.out.1.trans (HB.out.mono (by omega))
    by_cases hil : i < L.length
    · obtain ⟨g, o, rfl, hc, hr⟩ := HROW.out (fun e => by rw [e] at hil; simp at hil)
      obtain ⟨s0, q1, q2⟩ := hr i hil
      have hk := Keeps.of HBw.out HS.out
      have q1 := (hk.cell (p := ⟨g, o + i * 2, none⟩) s0).trans q1
      have q2 := (hk.cell (p := ⟨g, o + i * 2 + 1, none⟩) s0).trans q2
      obtain ⟨hp0, _, _, _, _, _, ad3, cap3, t3, _⟩ := (HPAT.out L[i] (List.getElem_mem hil)).open
      have HV : Hid (w.cell? ⟨L[i].2.1, L[i].2.2.1 + 3, none⟩ = some (.slice ad3 L[i].2.2.2.kids.length cap3)) := t3
      have t3 := (hk.cell (p := ⟨L[i].2.1, L[i].2.2.1 + 3, none⟩) hp0).trans t3
      have hsz : w.heap.size + 1 < wr.heap.size := HT.out.lt
      have hpg : L[i].2.1 < wr.heap.size := by have := HS.out _ hp0; omega
      have i1 : (0 : Int) ≤ (i : Int) := by omega
      have i2 : (i : Int) < (L.length : Int) := by omega
      go_upto_region 5 with fail
      have hW1 : ∃ W1, W1 = wr.alloc (Obj.cells #[.int .i64 L[i].1, .pointer (some ⟨L[i].2.1, L[i].2.2.1, none⟩)] 106) ∧ Below wr.heap.size wr W1 ∧ W1.heap.size = wr.heap.size + 1 ∧ W1.cell? ⟨wr.heap.size, 0, none⟩ = some (.int .i64 L[i].1) ∧ W1.cell? ⟨wr.heap.size, 1, none⟩ = some (.pointer (some ⟨L[i].2.1, L[i].2.2.1, none⟩)) := ⟨_, rfl, (Below.refl _ _).alloc (Nat.le_refl _) _, by simp, heap_cell' (new_block' wr _) rfl, heap_cell' (new_block' wr _) rfl⟩
      obtain ⟨W1, hW1, hb1, hs1, x0, x1⟩ := hW1
      rw [← hW1]
      clear hW1
      have t3 := (hb1.cell (p := ⟨L[i].2.1, L[i].2.2.1 + 3, none⟩) hpg).trans t3
      have HT1 : Hid (Lw w L (w.heap.size + 1) W2 i cur W1) := HT.out.on hb1
      have hcs := HT1.out.size
      have y0 := heap_cell HT1.out.blk (Array.getElem?_eq_getElem (show i * 2 < cur.size by omega))
      have y1 := heap_cell HT1.out.blk (Array.getElem?_eq_getElem (show i * 2 + 1 < cur.size by omega))
      have z0 := heap_frozen (o := i * 2) HT1.out.blk
      have z1 := heap_frozen (o := i * 2 + 1) HT1.out.blk
      generalize cur[i * 2] = cv0 at y0
      generalize cur[i * 2 + 1] = cv1 at y1
      generalize L[i].2.2.2.kids.length = nk at *
      clear hs1 hb1 hcs q1 q2 hk hr
      go_region
      all_goals
        go_wp2
        go_roundw
        case rel => exact ⟨i + 1, _, hil, by go_num, (HT1.out.put hil HV.out).on ⟨rfl, rfl, rfl, Nat.le_refl _, fun _ _ => rfl⟩⟩
        case measure => simp [intOf]; omega
    · obtain rfl : i = L.length := by omega
      have hk : Keeps S w wr := Keeps.of HBw.out HS.out
      have hLi := HT.out.lines hk HPAT.out
      have hlt := HT.out.lt
      have d1 := (HB.out.cell (p := ⟨w.heap.size, 1, none⟩) (by simp)).trans HbW.out.2.2
      have hMr : MapK wr b k := HM.out.on (HBw.out.block b (Mv.lt HM.out))
      have hl := hMr.look1 con HQ.out.1
      unfold kV at hl
      have CC := cols_any (fun b => S b ∨ b = w.heap.size + 1) path pa pc (looks k con).2.2 (linesOf (L.map sS)) (.slice (some ⟨w.heap.size + 1, 0, none⟩) L.length L.length) wr (fun b hb => by
        rcases hb with hb | rfl
        · have := HS.out b hb
          have := HBw.out.size
          omega
        · exact hlt) ((HPA.out.on hk).up fun b hb => .inl hb) HQ.out.2.2.2 hLi (fun l hl => by
          obtain ⟨s, hs, rfl⟩ := List.mem_map.1 hl
          exact HQ.out.2.1 s (by rw [← HL.out]; exact hs)) (fun l hl => by
          obtain ⟨s, hs, rfl⟩ := List.mem_map.1 hl
          refine ⟨HQ.out.2.2.1 s (by rw [← HL.out]; exact hs), ?_⟩
          obtain ⟨r, hr, rfl⟩ := List.mem_map.1 hs
          exact (HPAT.out r hr).open.2.2.2.2.2.1) (by simp [linesOf]; omega)
      have HE : Hid (colsOf path (looks k con).2.2 (linesOf (L.map sS)) = within k spots con path) := by
        show _ = _
        rw [HL.out]
        rfl
      have hsz : w.heap.size + 1 < wr.heap.size := hlt
      generalize (looks k con).2.2 = fn at *
      generalize (looks k con).1 = f1 at *
      generalize (looks k con).2.1 = f2 at *
      have hfl := fld2 f1 f2 fn wr
      clear hLi hk hMr HPAT HROW
      go_wp2_with (go_at_call 31; (with_reducible refine Calls.mono CC ?_); rintro e' w1 ⟨hb1, v, rfl, hcols⟩)
      go_ret
      refine ⟨HBw.out.trans (hb1.mono HBw.out.size), v, rfl, ?_⟩
      rw [HE.out] at hcols
      refine hcols.up fun b hb => ?_
      have := hb1.size
      have := HBw.out.size
      rcases hb with (hb | rfl) | hb
      · exact .inl hb
      · exact .inr ⟨by omega, by omega⟩
      · exact .inr ⟨by omega, by omega⟩
end Go.Proofs.Ytpdmkhnonbbhnaa
