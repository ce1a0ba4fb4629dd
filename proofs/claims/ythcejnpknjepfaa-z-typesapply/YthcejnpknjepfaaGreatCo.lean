/- The reference's Copy: its contract. -/
import Derived.Test.YthcejnpknjepfaaGreatMvx
import Derived.Test.YthcejnpknjepfaaGreatLe
namespace Go.Proofs.YthcejnpknjepfaaGreat
open Go.RowKit

/-- What Copy answers: the same tree in new blocks. -/
def CpPost (w : World) (d : Nat) (t : Tn d) (r : Ending) (w' : World) : Prop :=
  Below w.heap.size w w' ∧ ∃ (kd : Int) (nm : ByteArray) (ad : Option Addr) (len cap : Nat), r = .returned (.agg #[.int .i64 kd, .string nm, .slice ad len cap]) ∧ TyS w' (fun g => w.heap.size ≤ g ∧ g < w'.heap.size) d (.agg #[.int .i64 kd, .string nm, .slice ad len cap]) t
/-- Between the rounds of Copy. -/
structure CpW (w wr : World) (z d : Nat) (k : Int) (n : List UInt8) (av : Value) (ts : List (Tn d)) (j : Nat) (u : Value) (es : List El) : Prop where
  bel : Below z w wr
  arg : wr.heap[z]? = some (.cells #[.int .i64 k, .string ⟨n.toArray⟩, av] 25 (0, 0))
  res : wr.heap[z + 1]? = some (.cells #[.int .i64 0, .string ⟨#[]⟩, .slice none 0 0] 25 (0, 0))
  box : wr.heap[z + 2]? = some (.cells #[.int .i64 k, .string ⟨n.toArray⟩, u] 25 (0, 0))
  row : RowM wr (z + 3) d u es (ts.take j)
theorem CpW.more {w wr w1 U w5 : World} {z d : Nat} {k : Int} {n : List UInt8} {av : Value} {ts : List (Tn d)} {j : Nat} {u : Value} {es : List El} (T : CpW w wr z d k n av ts j u es) (hj : j < ts.length) {kd : Int} {nm : ByteArray} {ad : Option Addr} {len cap : Nat} (hb1 : Below wr.heap.size wr w1)
    (hT : TyS w1 (fun g => wr.heap.size ≤ g ∧ g < w1.heap.size) d (.agg #[.int .i64 kd, .string nm, .slice ad len cap]) ts[j]) {o o' : Obj} (hU : U = w1.alloc o) {g cap' : Nat}
    (hown : w5.ownsRow (z + 3) 25 3 (.slice (some ⟨g, 0, none⟩) (es.length + 1) cap') (es.length + 1) (es.flatMap elCells ++ [.int .i64 kd, .string nm, .slice ad len cap])) (hg : (U.alloc o').grownBy w5 u.ownBlock) (hat : u.ownBlock = some g ∨ g = U.heap.size + 1) :
    CpW w (w5.setCell ⟨z + 2, 2, none⟩ (.slice (some ⟨g, 0, none⟩) (es.length + 1) cap')) z d k n av ts (j + 1) (.slice (some ⟨g, 0, none⟩) (es.length + 1) cap') (es ++ [(kd, nm, .slice ad len cap)]) := by
  have hz := heap_lt T.box
  have hU1 : U.heap.size = w1.heap.size + 1 := by rw [hU]; simp
  have hbU : Below wr.heap.size wr U := by rw [hU]; exact hb1.alloc hb1.size o
  have hUz : wr.heap.size ≤ U.heap.size := hbU.size
  have rowU : RowM U (z + 3) d u es (ts.take j) := T.row.on hUz fun g _ hlt => hbU.block g hlt
  have ownlt : ∀ k, u.ownBlock = some k → z + 3 ≤ k ∧ k < wr.heap.size := fun k hk => T.row.own.lt k hk
  have heU : TyS U (fun g => z + 3 ≤ g ∧ g < U.heap.size ∧ u.ownBlock ≠ some g) d (elV (kd, nm, .slice ad len cap)) ts[j] := by
    refine TyS.on (S := fun g => wr.heap.size ≤ g ∧ g < w1.heap.size) (fun g q => ⟨by omega, by omega, ?side⟩) (fun g q => ?keep) d _ _ hT
    case side =>
      intro e
      have := (ownlt g e).2
      omega
    case keep =>
      rw [hU]
      exact Below.heap_alloc _ _ _ q.2
  have row5 := rowU.snoc (e := (kd, nm, .slice ad len cap)) (t := ts[j]) (o := o') heU (v' := .slice (some ⟨g, 0, none⟩) (es.length + 1) cap') hown hg (by
    rcases hat with h | h
    · exact .inl h.symm
    · exact .inr ⟨g, rfl, by omega⟩)
  have h5 : ∀ b, b < z + 3 → w5.heap[b]? = wr.heap[b]? := fun b hb => by
    rw [hg.block b (by simp; omega) (fun e => by have := (ownlt b e.symm).1; omega), Below.heap_alloc _ _ _ (by omega)]
    exact hbU.block b (by omega)
  have h5s : U.heap.size + 1 ≤ w5.heap.size := by have := hg.size; simp at this; omega
  have hset : ∀ b, b ≠ z + 2 → (w5.setCell ⟨z + 2, 2, none⟩ (.slice (some ⟨g, 0, none⟩) (es.length + 1) cap')).heap[b]? = w5.heap[b]? := fun b hb => Below.heap_setCell _ _ _ _ hb
  refine ⟨?_, ?_, ?_, ?_, ?_⟩
  · have : Below z w w5 := by
      refine T.bel.trans ⟨?_, ?_, ?_, ?_, fun b hb => h5 b (by omega)⟩
      · rw [hg.os, hU]; exact hb1.os
      · rw [hg.tape, hU]; exact hb1.tape
      · rw [hg.output, hU]; exact hb1.output
      · omega
    exact this.setCell (by show z ≤ z + 2; omega) _
  · rw [hset z (by omega), h5 z (by omega)]; exact T.arg
  · rw [hset (z + 1) (by omega), h5 (z + 1) (by omega)]; exact T.res
  · exact (setCell_block ((h5 (z + 2) (by omega)).trans T.box)).trans rfl
  · rw [take_next ts j hj]
    exact row5.on (by simp [World.setCell]) fun b hb _ => hset b (by omega)
set_option maxHeartbeats 8000000 in
set_option maxRecDepth 10000 in
theorem copy_row (d : Nat) (IH : ∀ (x : Value) (t : Tn d) (w : World) (B : Nat), B ≤ w.heap.size → TyAt w B d x t → (flat d t).length ≤ 4194304 → Calls Tryz.prog 59 #[x] w (CpPost w d t)) (k : Int) (n : List UInt8) (ts : List (Tn d)) (ad : Option Addr) (cap : Nat) (w : World) (B : Nat) (hB : B ≤ w.heap.size) (hnl : n.length < 140737488355328) (hN : (flats d ts).length + 1 ≤ 4194304) (h6 : ts.length ≤ 4194304)
    (hrow : ts ≠ [] → ∃ g o, ad = some ⟨g, o, none⟩ ∧ ts.length ≤ cap ∧ g < B ∧ ∀ j (h : j < ts.length), ∃ k n ad' len' cap', (∀ w', Below B w w' → w'.cell? ⟨g, o + j * 3, none⟩ = some (.int .i64 k) ∧ w'.cell? ⟨g, o + j * 3 + 1, none⟩ = some (.string n) ∧ w'.cell? ⟨g, o + j * 3 + 2, none⟩ = some (.slice ad' len' cap')) ∧ TyAt w B d (.agg #[.int .i64 k, .string n, .slice ad' len' cap']) ts[j]) :
    Calls Tryz.prog 59 #[.agg #[.int .i64 k, strV n, .slice ad ts.length cap]] w (CpPost w (d + 1) ((k, n), ts)) := by
  have T0 : CpW w (((w.alloc (Obj.cells #[.int .i64 k, strV n, .slice ad ts.length cap] 25)).alloc (Obj.cells #[.int .i64 0, .string ⟨#[]⟩, .slice none 0 0] 25)).alloc (Obj.cells #[.int .i64 k, .string ⟨n.toArray⟩, .slice none 0 0] 25)) w.heap.size d k n (.slice ad ts.length cap) ts 0 (.slice none 0 0) [] := by
    refine ⟨(((Below.refl _ _).alloc (Nat.le_refl _) _).alloc (by simp) _).alloc (by simp; omega) _, ?_, ?_, ?_, RowM.nil _ _ _⟩
    · rw [Below.heap_alloc _ _ _ (by simp; omega), Below.heap_alloc _ _ _ (by simp)]
      show (w.heap.push _)[w.heap.size]? = _
      simp
    · rw [Below.heap_alloc _ _ _ (by simp)]
      show ((w.heap.push _).push _)[w.heap.size + 1]? = _
      rw [Array.getElem?_push, if_pos (by simp)]
    · show (((w.heap.push _).push _).push _)[w.heap.size + 2]? = _
      rw [Array.getElem?_push, if_pos (by simp)]
  have HR : Hid (ts ≠ [] → ∃ g o, ad = some ⟨g, o, none⟩ ∧ ts.length ≤ cap ∧ g < B ∧ ∀ j (h : j < ts.length), ∃ k n ad' len' cap', (∀ w', Below B w w' → w'.cell? ⟨g, o + j * 3, none⟩ = some (.int .i64 k) ∧ w'.cell? ⟨g, o + j * 3 + 1, none⟩ = some (.string n) ∧ w'.cell? ⟨g, o + j * 3 + 2, none⟩ = some (.slice ad' len' cap')) ∧ TyAt w B d (.agg #[.int .i64 k, .string n, .slice ad' len' cap']) ts[j]) := hrow
  have HN : Hid ((flats d ts).length + 1 ≤ 4194304) := hN
  have HL : Hid (B ≤ w.heap.size) := hB
  have HNL : Hid (n.length < 140737488355328) := hnl
  have HI : Hid (∀ (x : Value) (t : Tn d) (w : World) (B : Nat), B ≤ w.heap.size → TyAt w B d x t → (flat d t).length ≤ 4194304 → Calls Tryz.prog 59 #[x] w (CpPost w d t)) := IH
  clear hrow hN hB hnl IH
  go_enter Tryz.func59, Tryz.ntmps59
  go_wp2
  generalize hz : w.heap.size = z at T0 ⊢
  have HZ : Hid (w.heap.size = z) := hz
  generalize ((w.alloc (Obj.cells #[.int .i64 k, strV n, .slice ad ts.length cap] 25)).alloc (Obj.cells #[.int .i64 0, .string ⟨#[]⟩, .slice none 0 0] 25)).alloc (Obj.cells #[.int .i64 k, .string ⟨n.toArray⟩, .slice none 0 0] 25) = W0 at T0 ⊢
  obtain ⟨i0, hi, hz0, hz1, hz2⟩ := info_parts Tryz.info25
  clear hz
  go_loopw [4] (fun i wr => ∃ (j : Nat) (u : Value) (es : List El), j ≤ ts.length ∧ i = .int .i64 j ∧ Hid (CpW w wr z d k n (.slice ad ts.length cap) ts j u es)) (fun i _ => ts.length - (intOf i).toNat)
  case atStart => exact ⟨0, _, _, by omega, by go_num, T0⟩
  case round =>
    obtain ⟨j, u, es, hj, rfl, HT⟩ := hrel
    have T := HT.out
    obtain ⟨x0, x1, x2⟩ := heap_cells T.arg
    obtain ⟨y0, y1, y2⟩ := heap_cells T.box
    have hbz := heap_lt T.box
    obtain ⟨ua, uc, hu⟩ : ∃ ua uc, u = .slice ua es.length uc := by
      rcases T.row.own.2 with ⟨h1, h2⟩ | ⟨g', cap', cur, h1, _⟩
      · exact ⟨none, 0, by rw [h1, h2]⟩
      · exact ⟨_, _, h1⟩
    subst hu
    have hej : es.length = j := by
      rw [T.row.len, List.length_take]
      omega
    have hel : es.length ≤ 4194304 := by omega
    by_cases hlt : j < ts.length
    · obtain ⟨g, o, had, _, _, hels⟩ := HR.out (by intro e; rw [e] at hlt; simp at hlt)
      obtain ⟨k1, n1, ad1, l1, cp1, hcel, T1⟩ := hels j hlt
      have hL := HL.out
      have hzz := HZ.out
      have hbB : Below B w wr := T.bel.mono (by omega)
      obtain ⟨p0, p1, p2⟩ := hcel wr hbB
      rw [had] at x2
      have CJ := HI.out _ ts[j] wr B (by have := T.bel.size; omega) (T1.on hbB) (by
        have h2 := flats_take ts j hlt
        have h3 := HN.out
        omega)
      have i1 : (0 : Int) ≤ (j : Int) := by omega
      have i2 : (j : Int) < (ts.length : Int) := by omega
      have hjl : j + 1 ≤ ts.length := hlt
      have HBox : Hid (wr.heap[z + 2]? = some (.cells #[.int .i64 k, .string ⟨n.toArray⟩, .slice ua es.length uc] 25 (0, 0))) := T.box
      have HOwn : Hid (wr.ownsRow (z + 3) 25 3 (.slice ua es.length uc) es.length (es.flatMap elCells)) := T.row.own
      clear T1 T hels hcel T0 had hbB y0 y1 hej hL hzz
      go_upto_region 6 with (go_at_call 59; (with_reducible refine Calls.mono CJ ?_); intro e' w1 hpost; obtain ⟨hb1, kd, nm, ad2, len2, cap2, rfl, hT1⟩ := hpost)
      obtain ⟨U, hU, hbU, hsU, c0', c1', c2'⟩ := cells_box w1 (.int .i64 kd) (.string nm) (.slice ad2 len2 cap2) 25
      rw [← hU]
      have HUe : Hid (U = w1.alloc (Obj.cells #[.int .i64 kd, .string nm, .slice ad2 len2 cap2] 25)) := hU
      have hs1 := hb1.size
      have boxU : U.heap[z + 2]? = some (.cells #[.int .i64 k, .string ⟨n.toArray⟩, .slice ua es.length uc] 25 (0, 0)) := by
        rw [hU, Below.heap_alloc _ _ _ (by omega), hb1.block (z + 2) (by omega)]
        exact HBox.out
      have ownU : U.ownsRow (z + 3) 25 3 (.slice ua es.length uc) es.length (es.flatMap elCells) := own_move HOwn.out fun b hb => by
        have := (HOwn.out.lt b hb).2
        rw [hU, Below.heap_alloc _ _ _ (by omega)]
        exact hb1.block b (by omega)
      have w2 := (heap_cells boxU).2.2
      have hzU : z + 3 ≤ U.heap.size := by omega
      have HB1 : Hid (Below wr.heap.size wr w1) := hb1
      have HT1 : Hid (TyS w1 (fun g => wr.heap.size ≤ g ∧ g < w1.heap.size) d (.agg #[.int .i64 kd, .string nm, .slice ad2 len2 cap2]) ts[j]) := hT1
      generalize hq1 : w1.heap.size = q1 at c0' c1' c2' ⊢
      have hq1U : q1 < U.heap.size := by omega
      clear hU hsU hbU CJ x0 x1 x2 y2 p0 p1 p2 hq1 hs1 hb1 hT1
      go_wp2_with (at_builtin; refine wpList_append_lies _ rfl _ _ 23 rfl (z + 3) 25 i0 _ 3 48 Tryz.underlying23 hi hz0 hz1 hz2 rfl (by decide) (.slice ua es.length uc) es.length (es.flatMap elCells) rfl (ownU.alloc _) ⟨U.heap.size, 0, none⟩ 1 1 [.int .i64 kd, .string nm, .slice ad2 len2 cap2] rfl rfl (World.news_of_block (cs := #[.int .i64 kd, .string nm, .slice ad2 len2 cap2]) (t := 25) (fr := (0, 0)) (heap_alloc_new U _)) (by simp [Value.oneCell']) (by omega) (by unfold maxLen; omega) (by omega) (by simp; omega) (U.heap.size + 1) (by simp) ?_; intro g' cap' w5 hown5 hgrow hat hlt5; have b5 : w5.heap[z + 2]? = some (.cells #[.int .i64 k, .string ⟨n.toArray⟩, .slice ua es.length uc] 25 (0, 0)) := (hgrow.block (z + 2) (by simp; omega) (fun e => by have := (ownU.lt _ e.symm).1; omega)).trans ((Below.heap_alloc _ _ _ (by omega)).trans boxU); have c5 := (heap_cells b5).2.2; have f5 := heap_frozen (o := 2) b5)
      have T2 := HT.out.more hlt HB1.out HT1.out HUe.out hown5 hgrow (by simpa using hat)
      go_roundw
      case rel => exact ⟨j + 1, _, _, hjl, by go_num, T2⟩
      case measure => simp [intOf]; omega
    · obtain ⟨r0, r1, r2⟩ := heap_cells T.res
      have g0 := heap_frozen (o := 0) T.res
      have g1 := heap_frozen (o := 1) T.res
      have g2 := heap_frozen (o := 2) T.res
      have HJT : Hid (j = ts.length) := by show j = ts.length; omega
      have h1 : ¬ (j : Int) < (ts.length : Int) := by omega
      clear T T0 hej hlt hj
      go_wp2
      have T := HT.out
      obtain ⟨W', hW', hz', hoth, hsz, hbz'⟩ := store3 T.res (.int .i64 k) (strV n) (.slice ua es.length uc)
      rw [← hW']
      obtain ⟨s0, s1, s2⟩ := heap_cells hz'
      refine bodyPost_ret (v := .agg #[.int .i64 k, strV n, .slice ua es.length uc]) (by simp [results, Tryz.results59, go_sem, s0, s1, s2]) rfl ?_
      have hzz := HZ.out
      have hrow := T.row
      rw [List.take_of_length_le (by have := HJT.out; omega)] at hrow
      refine ⟨by rw [hzz]; exact T.bel.trans (hbz'.mono (by omega)), k, ⟨n.toArray⟩, ua, es.length, uc, rfl, ?_⟩
      exact TyS.on (S := fun g => z + 3 ≤ g ∧ g < wr.heap.size) (fun b q => ⟨by omega, by omega⟩) (fun b q => hoth b (by omega)) _ _ _ (hrow.tree k n HNL.out (by omega))
theorem copy_any : ∀ (d : Nat) (x : Value) (t : Tn d) (w : World) (B : Nat), B ≤ w.heap.size → TyAt w B d x t → (flat d t).length ≤ 4194304 → Calls Tryz.prog 59 #[x] w (CpPost w d t)
  | 0, _, _, _, _, _, h, _ => h.elim
  | d + 1, x, ((k, n), ts), w, B, hB, ⟨v, hx, h1, h2, hr⟩, hN => by
    simp only at hx h1 h2 hr
    obtain ⟨ad, cap, rfl, hrow⟩ := hr.cells
    subst hx
    have hN : (flats d ts).length + 1 ≤ 4194304 := hN
    have := flats_many ts
    exact copy_row d (copy_any d) k n ts ad cap w B hB h1 hN (by omega) hrow
end Go.Proofs.YthcejnpknjepfaaGreat
