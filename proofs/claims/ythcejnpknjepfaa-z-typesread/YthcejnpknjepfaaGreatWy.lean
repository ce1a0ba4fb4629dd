/- Print answers as the document says. -/
import Derived.Test.YthcejnpknjepfaaGreatWx
import Derived.Test.YthcejnpknjepfaaGreatBk
namespace Go.Proofs.YthcejnpknjepfaaGreat
open Go.RowKit

theorem wrongs_one (d : Nat) (t : Tn d) : wrongs [⟨d, t⟩] = wrongT d t := by
  show (if wrongT d t = 0 then 0 else wrongT d t) = _
  split
  · rename_i h; exact h.symm
  · rfl
theorem lt_cell {w : World} {b i : Nat} {v : Value} (h : w.cell? ⟨b, i, none⟩ = some v) : b < w.heap.size := by
  rcases Nat.lt_or_ge b w.heap.size with hlt | hge
  · exact hlt
  · simp [World.cell?, Array.getElem?_eq_none hge] at h
/-- One tree, in a row of its own. -/
theorem wrong_one (d : Nat) (k : Int) (n : ByteArray) (ad : Option Addr) (len cap : Nat) (t : Tn d) (w W : World) (B g : Nat) (hB : B ≤ W.heap.size) (hg : g < W.heap.size) (hT : TyAt w B d (.agg #[.int .i64 k, .string n, .slice ad len cap]) t) (hb : Below B w W) (hN : (flat d t).length ≤ 4194304)
    (c0 : W.cell? ⟨g, 0, none⟩ = some (.int .i64 k)) (c1 : W.cell? ⟨g, 1, none⟩ = some (.string n)) (c2 : W.cell? ⟨g, 2, none⟩ = some (.slice ad len cap)) :
    Calls Tryz.prog 31 #[.slice (some ⟨g, 0, none⟩) 1 1] W fun r w' => r = .returned (.int .i64 (wrongT d t)) ∧ Below W.heap.size W w' := by
  have := wrong_list [(k, n, .slice ad len cap)] [⟨d, t⟩] g 1 W B hB hg (fun j u hu => by
    match j with
    | 0 => simp [elCells] at hu; rw [← hu]; exact c0
    | 1 => simp [elCells] at hu; rw [← hu]; exact c1
    | 2 => simp [elCells] at hu; rw [← hu]; exact c2
    | j + 3 => simp [elCells] at hu) ⟨rfl, fun j hj hj' => by
      have : j = 0 := by simp at hj; omega
      subst this
      exact hT.on hb⟩ (by simpa using hN) (by simp)
  rw [wrongs_one] at this
  exact this
set_option maxHeartbeats 16000000 in
set_option maxRecDepth 10000 in
theorem print_any : Prints 27 := by
  intro d x t w B hB h hN
  obtain ⟨d, rfl⟩ : ∃ e, d = e + 1 := by
    cases d with
    | zero => exact h.elim
    | succ e => exact ⟨e, rfl⟩
  have h0 := h
  obtain ⟨v, hx, h1, h2, hrow⟩ := h
  subst hx
  obtain ⟨ad, cap, rfl⟩ := hrow.len
  clear hrow
  obtain ⟨W, hW, hbW, hsW, b0, b1, b2, c0, c1, c2⟩ := cells_boxes w (.int .i64 t.1.1) (.string ⟨t.1.2.toArray⟩) (.slice ad t.2.length cap) (.int .i64 t.1.1) (.string ⟨t.1.2.toArray⟩) (.slice ad t.2.length cap) 25
  have C1 := wrong_one (d + 1) _ _ _ _ _ t w W B (w.heap.size + 1) (Nat.le_trans hB hbW.size) (by omega) h0 (hbW.mono hB) hN c0 c1 c2
  have HX : Hid (∀ w1, Below W.heap.size W w1 → Below w.heap.size w w1 ∧ w1.cell? ⟨w.heap.size, 0, none⟩ = some (.int .i64 t.1.1) ∧ w1.cell? ⟨w.heap.size, 1, none⟩ = some (.string ⟨t.1.2.toArray⟩) ∧ w1.cell? ⟨w.heap.size, 2, none⟩ = some (.slice ad t.2.length cap)) := fun w1 hb =>
    ⟨hbW.trans (hb.mono (by omega)), (hb.cell (by simp; omega)).trans b0, (hb.cell (by simp; omega)).trans b1, (hb.cell (by simp; omega)).trans b2⟩
  unfold printV
  by_cases hw : wrongT (d + 1) t = 0
  · obtain ⟨hF, hS⟩ := wrong_zero hw
    have hTL := text_len (d + 1) t hF
    have HW : Hid (∀ w1, Below w.heap.size w w1 → ∀ l, IsB w.heap.size w1.heap.size l (w1.alloc (Obj.cells #[.pointer none, .slice none 0 0] 82)) → l = [] → Calls Tryz.prog 45 #[.pointer (some ⟨w1.heap.size, 0, none⟩), .agg #[.int .i64 t.1.1, .string ⟨t.1.2.toArray⟩, .slice ad t.2.length cap]] (w1.alloc (Obj.cells #[.pointer none, .slice none 0 0] 82)) (WPost w.heap.size w1.heap.size (textT (d + 1) t) (w1.alloc (Obj.cells #[.pointer none, .slice none 0 0] 82)))) := fun w1 hb l hi hl0 => by
      subst hl0
      have hb2 : Below w.heap.size w (w1.alloc (Obj.cells #[.pointer none, .slice none 0 0] 82)) := hb.alloc hb.size _
      have := write_any (d + 1) _ t (w1.alloc (Obj.cells #[.pointer none, .slice none 0 0] 82)) w.heap.size w1.heap.size [] hi hb2.size (TyAt.below (hb2.mono hB) hB _ _ _ h0) hF (by simp; omega)
      simpa using this
    rw [if_neg (by simpa using hw)]
    rw [hw] at C1
    generalize hR : (if 65536 < (textT (d + 1) t).length then Value.tuple #[.string ⟨#[]⟩, .int .i64 4] else .tuple #[strV (textT (d + 1) t), .int .i64 0]) = R
    have HR : Hid ((if 65536 < (textT (d + 1) t).length then Value.tuple #[.string ⟨#[]⟩, .int .i64 4] else .tuple #[strV (textT (d + 1) t), .int .i64 0]) = R) := hR
    generalize textT (d + 1) t = tx at *
    generalize (flat (d + 1) t).length = nn at *
    generalize t.1.1 = k at *
    generalize t.1.2 = n at *
    generalize t.2.length = len at *
    have CL : Hid (∀ U w2, Below w.heap.size w U → WPost w.heap.size U.heap.size tx (U.alloc (Obj.cells #[.pointer none, .slice none 0 0] 82)) (.returned (.tuple #[])) w2 → Calls Tryz.prog 46 #[.pointer (some ⟨U.heap.size, 0, none⟩)] w2 (fun e w' => e = .returned (.int .i64 tx.length) ∧ w' = w2) ∧ Calls Tryz.prog 47 #[.pointer (some ⟨U.heap.size, 0, none⟩)] w2 (fun e w' => e = .returned (.string ⟨tx.toArray⟩) ∧ Below w.heap.size w w') ∧ Below w.heap.size w w2) := fun U w2 hb hp => by
      have hU : Below w.heap.size w (U.alloc (Obj.cells #[.pointer none, .slice none 0 0] 82)) := hb.alloc hb.size _
      have h2 := hU.trans hp.2.2.1
      refine ⟨?_, ?_, h2⟩
      · have := Tryz.Builder_Len_f _ _ _ w2 hp.2.1
        rw [Lib.byteCells_length] at this
        exact this
      · exact Calls.mono (Tryz.Builder_String_any_k _ _ _ w2 hp.2.1 h2.size) (fun e w' q => ⟨q.1, h2.trans q.2.2.1⟩)
    have IB : Hid (∀ U : World, w.heap.size ≤ U.heap.size → IsB w.heap.size U.heap.size [] (U.alloc (Obj.cells #[.pointer none, .slice none 0 0] 82))) := fun U hs => .inl ⟨hs, .slice none 0 0, heap_alloc_new U _, World.ownsRowF_nil _ _ _ _, by simp [Value.ownBlock]⟩
    have htx : tx.length ≤ 4194304000 := by omega
    clear hF hS hw h0 hR c0 c1 c2 hbW hsW hTL hN h1 h2 t hB
    by_cases hbig : 65536 < tx.length
    · have hbig' : (65536 : Int) < (tx.length : Int) := by omega
      go_enter Tryz.func27, Tryz.ntmps27
      go_upto_region 2 with (first | (rw [← hW]; go_at_call 31; (with_reducible refine Calls.mono C1 ?_); rintro e' w1 ⟨rfl, hb1⟩; obtain ⟨hB1, y0, y1, y2⟩ := HX.out _ hb1))
      have hz1 : w.heap.size < w1.heap.size := by have := lt_cell y0; exact this
      have ya : ∀ o i, (w1.alloc o).cell? ⟨w.heap.size, i, none⟩ = w1.cell? ⟨w.heap.size, i, none⟩ := fun o i => World.cell?_alloc_old w1 o ⟨w.heap.size, i, none⟩ (by show w.heap.size ≠ w1.heap.size; omega)
      go_wp2_with (first
        | (go_at_call 45; (with_reducible refine Calls.mono (HW.out w1 hB1 [] (IB.out w1 hB1.size) rfl) ?_); rintro e' w2 hp; obtain ⟨rfl, _⟩ := id hp; obtain ⟨L1, L2, hB2⟩ := CL.out _ _ hB1 hp)
        | (go_at_call 46; (with_reducible refine Calls.mono L1 ?_); rintro e' w3 ⟨rfl, rfl⟩))
      refine bodyPost_ret (v := .tuple #[.string ⟨#[]⟩, .int .i64 4]) (by simp [results, Tryz.results27, go_sem]) rfl ?_
      exact ⟨by rw [← HR.out, if_pos hbig], hB2⟩
    · have hbig' : ¬ (65536 : Int) < (tx.length : Int) := by omega
      go_enter Tryz.func27, Tryz.ntmps27
      go_upto_region 2 with (first | (rw [← hW]; go_at_call 31; (with_reducible refine Calls.mono C1 ?_); rintro e' w1 ⟨rfl, hb1⟩; obtain ⟨hB1, y0, y1, y2⟩ := HX.out _ hb1))
      have hz1 : w.heap.size < w1.heap.size := by have := lt_cell y0; exact this
      have ya : ∀ o i, (w1.alloc o).cell? ⟨w.heap.size, i, none⟩ = w1.cell? ⟨w.heap.size, i, none⟩ := fun o i => World.cell?_alloc_old w1 o ⟨w.heap.size, i, none⟩ (by show w.heap.size ≠ w1.heap.size; omega)
      go_wp2_with (first
        | (go_at_call 45; (with_reducible refine Calls.mono (HW.out w1 hB1 [] (IB.out w1 hB1.size) rfl) ?_); rintro e' w2 hp; obtain ⟨rfl, _⟩ := id hp; obtain ⟨L1, L2, hB2⟩ := CL.out _ _ hB1 hp)
        | (go_at_call 46; (with_reducible refine Calls.mono L1 ?_); rintro e' w3 ⟨rfl, rfl⟩)
        | (go_at_call 47; (with_reducible refine Calls.mono L2 ?_); rintro e' w4 ⟨rfl, hB4⟩))
      refine bodyPost_ret (v := .tuple #[.string ⟨tx.toArray⟩, .int .i64 0]) (by simp [results, Tryz.results27, go_sem]) rfl ?_
      exact ⟨by rw [← HR.out, if_neg hbig], hB4⟩
  · rw [if_pos hw]
    generalize wrongT (d + 1) t = e at *
    generalize t.1.1 = k at *
    generalize t.1.2 = n at *
    generalize t.2.length = len at *
    have hw1 : (e != 0) = true := by simpa using hw
    have hw2 : (e == 0) = false := by simpa using hw
    clear h0 c0 c1 c2 hbW hsW hN h1 h2 hB
    go_enter Tryz.func27, Tryz.ntmps27
    go_upto_region 2 with (first | (rw [← hW]; go_at_call 31; (with_reducible refine Calls.mono C1 ?_); rintro e' w1 ⟨rfl, hb1⟩; obtain ⟨hB1, y0, y1, y2⟩ := HX.out _ hb1))
    go_wp2
    refine bodyPost_ret (v := .tuple #[.string ⟨#[]⟩, .int .i64 e]) (by simp [results, Tryz.results27, go_sem]) rfl ?_
    exact ⟨rfl, hB1⟩
end Go.Proofs.YthcejnpknjepfaaGreat
