/- slices.CompactFunc of a row of cases. -/
import Derived.Test.YtpdmkhnonbbhnaaMdx
import Derived.Lib.SliceRun
namespace Go.Proofs.Ytpdmkhnonbbhnaa
open Go.RowKit Go.Maps

/-- Nothing that was there has turned but block blk. -/
structure Kx (blk : Nat) (w w' : World) : Prop where
  os : w'.os = w.os
  tape : w'.tape = w.tape
  output : w'.output = w.output
  size : w.heap.size ≤ w'.heap.size
  block : ∀ k, k < w.heap.size → k ≠ blk → w'.heap[k]? = w.heap[k]?
theorem Kx.refl (blk : Nat) (w : World) : Kx blk w w := ⟨rfl, rfl, rfl, Nat.le_refl _, fun _ _ _ => rfl⟩
theorem Kx.trans {blk : Nat} {a b c : World} (h : Kx blk a b) (k : Kx blk b c) : Kx blk a c := ⟨k.os.trans h.os, k.tape.trans h.tape, k.output.trans h.output, Nat.le_trans h.size k.size, fun i hi hne => (k.block i (by have := h.size; omega) hne).trans (h.block i hi hne)⟩
theorem Kx.of {blk : Nat} {w w' : World} (h : Below w.heap.size w w') : Kx blk w w' := ⟨h.os, h.tape, h.output, h.size, fun k hk _ => h.block k hk⟩
theorem Kx.setCell {blk : Nat} {a w : World} (h : Kx blk a w) (o : Nat) (u : Value) : Kx blk a (w.setCell ⟨blk, o, none⟩ u) := ⟨h.os, h.tape, h.output, by simpa [World.setCell] using h.size, fun k hk hne => (Below.heap_setCell _ _ _ _ hne).trans (h.block k hk hne)⟩
/-- The seven cells of one case in a row. -/
theorem row_cells {w : World} {blk : Nat} {ds : List Cs} (h : w.heap[blk]? = some (.cells (rowC ds) 53 (0, 0))) (j : Nat) (hj : j < ds.length) :
    w.cell? ⟨blk, j * 7, none⟩ = some (.string ⟨ds[j].1.toArray⟩) ∧ w.cell? ⟨blk, j * 7 + 1, none⟩ = some (.int .i64 ds[j].2) ∧ w.cell? ⟨blk, j * 7 + 2, none⟩ = some (.int .i64 0) ∧ w.cell? ⟨blk, j * 7 + 3, none⟩ = some (.int .i64 0) ∧ w.cell? ⟨blk, j * 7 + 4, none⟩ = some (.slice none 0 0) ∧ w.cell? ⟨blk, j * 7 + 5, none⟩ = some (.slice none 0 0) ∧ w.cell? ⟨blk, j * 7 + 6, none⟩ = some (.slice none 0 0) :=
  ⟨heap_cell h (rowC_get ds j hj 0 (by omega)), heap_cell h (rowC_get ds j hj 1 (by omega)), heap_cell h (rowC_get ds j hj 2 (by omega)), heap_cell h (rowC_get ds j hj 3 (by omega)), heap_cell h (rowC_get ds j hj 4 (by omega)), heap_cell h (rowC_get ds j hj 5 (by omega)), heap_cell h (rowC_get ds j hj 6 (by omega))⟩
theorem setCells_blk {b : Nat} {t : TypeId} : ∀ (vs : List Value) (o : Nat) (w : World) (c : Array Value), w.heap[b]? = some (.cells c t (0, 0)) → ∃ c', (w.setCells b o vs).heap[b]? = some (.cells c' t (0, 0)) ∧ ∀ i, i < o → c'[i]? = c[i]?
  | [], o, w, c, h => ⟨c, h, fun _ _ => rfl⟩
  | v :: vs, o, w, c, h => by
    obtain ⟨c', h1, h2⟩ := setCells_blk vs (o + 1) (w.setCell ⟨b, o, none⟩ v) _ (setCell_block h)
    refine ⟨c', h1, fun i hi => (h2 i (by omega)).trans ?_⟩
    rw [Array.getElem?_setIfInBounds, if_neg (by omega)]
theorem setCells_kx {b : Nat} {a : World} : ∀ (vs : List Value) (o : Nat) (w : World), Kx b a w → Kx b a (w.setCells b o vs)
  | [], _, _, h => h
  | v :: vs, o, _, h => setCells_kx vs (o + 1) _ (h.setCell o v)
def zeroC : List Value := [.string ⟨#[]⟩, .int .i64 0, .int .i64 0, .int .i64 0, .slice none 0 0, .slice none 0 0, .slice none 0 0]
theorem clear_cases (w : World) (ty : TypeId) (b o n c : Nat) (hn : 0 < n) (hc : ∀ j, j < n * 7 → (w.cell? ⟨b, o + j, none⟩).isSome = true) (hf : ∀ j, j < n * 7 → w.frozen? ⟨b, o + j, none⟩ = false) :
    ∃ vs, (Builtin.clear_ #[29] ty #[.slice (some ⟨b, o, none⟩) n c]).run Try.prog w = .ok (.tuple #[]) (w.setCells b o vs) := by
  have hl : (Builtin.zeroCells zeroC.toArray n).toList.length = n * 7 := by simp [Builtin.zeroCells, zeroC]
  have h1 : ∀ v ∈ (Builtin.zeroCells zeroC.toArray n).toList, v.oneCell' = true := by
    intro v hv
    simp only [Builtin.zeroCells, Array.toList_map, List.mem_map] at hv
    obtain ⟨i, _, rfl⟩ := hv
    have : i % 7 = 0 ∨ i % 7 = 1 ∨ i % 7 = 2 ∨ i % 7 = 3 ∨ i % 7 = 4 ∨ i % 7 = 5 ∨ i % 7 = 6 := by omega
    simp only [zeroC, List.size_toArray, List.length_cons, List.length_nil]
    rcases this with h | h | h | h | h | h | h <;> rw [h] <;> rfl
  have hst := run_storeCells_cells (P := Try.prog) b o (Builtin.zeroCells zeroC.toArray n).toList 0 w (by rw [hl]; simpa using hc) (by rw [hl]; simpa using hf) h1
  simp only [Nat.add_zero] at hst
  obtain ⟨m, rfl⟩ : ∃ m, n = m + 1 := ⟨n - 1, by omega⟩
  refine ⟨(Builtin.zeroCells zeroC.toArray (m + 1)).toList, ?_⟩
  have hz : ∀ w, (zeroValue 53).run Try.prog w = .ok (.agg zeroC.toArray) w := Try.zeroValue53
  have hzc : (Value.agg zeroC.toArray).cells = zeroC.toArray := rfl
  simp [Builtin.clear_, run_underlying Try.underlying29, hz, hzc, hst]
set_option maxHeartbeats 8000000 in
set_option maxRecDepth 10000 in
theorem compact_any (ds : List Cs) (blk : Nat) (w : World) (hb : w.heap[blk]? = some (.cells (rowC ds) 53 (0, 0))) (hn : ds.length ≤ 200) :
    Calls Try.prog 64 #[.slice (some ⟨blk, 0, none⟩) ds.length ds.length, .func (.func 65) #[] #[]] w fun r w' => r = .returned (.slice (some ⟨blk, 0, none⟩) (compactP ds).length ds.length) ∧ Kx blk w w' ∧ ∃ cur, w'.heap[blk]? = some (.cells cur 53 (0, 0)) ∧ ∀ j (h : j < (compactP ds).length) i, i < 7 → cur[j * 7 + i]? = (csE (compactP ds)[j])[i]? := by
  have HEND : Hid (∀ w', Kx blk w w' → w'.heap[blk]? = some (.cells (rowC ds) 53 (0, 0)) → compactP ds = ds → Ending.returned (.slice (some ⟨blk, 0, none⟩) ds.length ds.length) = .returned (.slice (some ⟨blk, 0, none⟩) (compactP ds).length ds.length) ∧ Kx blk w w' ∧ ∃ cur, w'.heap[blk]? = some (.cells cur 53 (0, 0)) ∧ ∀ j (h : j < (compactP ds).length) i, i < 7 → cur[j * 7 + i]? = (csE (compactP ds)[j])[i]?) := fun w' hk hb he => by
    refine ⟨by rw [he], hk, _, hb, ?_⟩
    rw [he]
    exact fun j h i hi => rowC_get ds j h i hi
  by_cases h2 : ds.length < 2
  · have hE := HEND.out w (Kx.refl _ _) hb (by
      match ds, h2 with
      | [], _ => rfl
      | [a], _ => rfl)
    have h2' : (ds.length : Int) < 2 := by omega
    clear HEND hb
    go_enter Try.func64, Try.ntmps64
    go_wp2
    go_ret
    exact hE
  · have h2' : ¬ (ds.length : Int) < 2 := by omega
    have HB : Hid (w.heap[blk]? = some (.cells (rowC ds) 53 (0, 0))) := hb
    clear hb
    go_enter Try.func64, Try.ntmps64
    go_wp2
    go_loopw [5] (fun kv wr => ∃ k : Nat, 1 ≤ k ∧ k ≤ ds.length ∧ kv = .int .i64 k ∧ Hid (Kx blk w wr ∧ wr.heap[blk]? = some (.cells (rowC ds) 53 (0, 0))) ∧ Hid (compactP (ds.take k) = ds.take k)) (fun kv _ => ds.length - (intOf kv).toNat)
    case atStart => exact ⟨1, by omega, by omega, by go_num, ⟨Kx.refl _ _, HB.out⟩, compactP_one ds (by omega)⟩
    case round =>
      obtain ⟨k, hk1, hkn, rfl, HK, HC⟩ := hrel
      by_cases hlt : k < ds.length
      · obtain ⟨j, hkj⟩ : ∃ j, k = j + 1 := ⟨k - 1, by omega⟩
        have hjl : j < ds.length := by omega
        obtain ⟨p0, p1, p2, p3, p4, p5, p6⟩ := row_cells HK.out.2 k hlt
        obtain ⟨q0, q1, q2, q3, q4, q5, q6⟩ := row_cells HK.out.2 j hjl
        have CE := ones_any ds[k] ds[j]
        unfold csE at CE
        have HT : Hid (compactP (ds.take (k + 1)) = if ds[k] = ds[j] then compactP (ds.take k) else compactP (ds.take k) ++ [ds[k]]) := by
          subst hkj
          exact compactP_take ds j hlt
        have hlb : blk < wr.heap.size := lt_of_heap HK.out.2
        have i1 : (0 : Int) ≤ (k : Int) := by omega
        have i2 : (k : Int) < (ds.length : Int) := by omega
        have i3 : IntKind.i64.wrap ((k : Int) - 1) = (j : Int) := by rw [IntKind.wrap_i64]; omega
        have i4 : (0 : Int) ≤ (j : Int) := by omega
        have HKJ : Hid (k = j + 1) := hkj
        have i5 : (j : Int) < (ds.length : Int) := by omega
        have HX : Hid (decide (ds[k] = ds[j]) = true ↔ ds[k] = ds[j]) := decide_eq_true_iff
        generalize decide (ds[k] = ds[j]) = eq at CE HX
        generalize ds[k].2 = xm at *
        generalize ds[j].2 = ym at *
        generalize (⟨ds[k].1.toArray⟩ : ByteArray) = xb at *
        generalize (⟨ds[j].1.toArray⟩ : ByteArray) = yb at *
        clear hkj
        go_wp2
        go_region_held3 (fun w' => (w'.cell? ⟨blk, k * 7, none⟩ = some (.string xb) ∧ w'.cell? ⟨blk, k * 7 + 1, none⟩ = some (.int .i64 xm) ∧ w'.cell? ⟨blk, k * 7 + 2, none⟩ = some (.int .i64 0) ∧ w'.cell? ⟨blk, k * 7 + 3, none⟩ = some (.int .i64 0) ∧ w'.cell? ⟨blk, k * 7 + 4, none⟩ = some (.slice none 0 0) ∧ w'.cell? ⟨blk, k * 7 + 5, none⟩ = some (.slice none 0 0) ∧ w'.cell? ⟨blk, k * 7 + 6, none⟩ = some (.slice none 0 0)) ∧ w'.cell? ⟨blk, j * 7, none⟩ = some (.string yb) ∧ w'.cell? ⟨blk, j * 7 + 1, none⟩ = some (.int .i64 ym) ∧ w'.cell? ⟨blk, j * 7 + 2, none⟩ = some (.int .i64 0) ∧ w'.cell? ⟨blk, j * 7 + 3, none⟩ = some (.int .i64 0) ∧ w'.cell? ⟨blk, j * 7 + 4, none⟩ = some (.slice none 0 0) ∧ w'.cell? ⟨blk, j * 7 + 5, none⟩ = some (.slice none 0 0) ∧ w'.cell? ⟨blk, j * 7 + 6, none⟩ = some (.slice none 0 0)) (first | exact ⟨⟨p0, p1, p2, p3, p4, p5, p6⟩, q0, q1, q2, q3, q4, q5, q6⟩ | assumption | (have hk : ∀ o, w1.cell? ⟨blk, o, none⟩ = wr.cell? ⟨blk, o, none⟩ := fun o => hb1.cell (p := ⟨blk, o, none⟩) hlb; exact ⟨⟨(hk _).trans p0, (hk _).trans p1, (hk _).trans p2, (hk _).trans p3, (hk _).trans p4, (hk _).trans p5, (hk _).trans p6⟩, (hk _).trans q0, (hk _).trans q1, (hk _).trans q2, (hk _).trans q3, (hk _).trans q4, (hk _).trans q5, (hk _).trans q6⟩) | go_keep)
          (first | (go_at_call 65; (with_reducible refine Calls.mono (CE _) ?_); rintro e' w1 ⟨rfl, hb1⟩))
        all_goals
          have HK1 : Hid (Kx blk w w1 ∧ w1.heap[blk]? = some (.cells (rowC ds) 53 (0, 0))) := ⟨HK.out.1.trans (Kx.of ⟨hb1.os, hb1.tape, hb1.output, hb1.size, hb1.block⟩), (hb1.block blk hlb).trans HK.out.2⟩
          clear hb1 CE p0 p1 p2 p3 p4 p5 p6 q0 q1 q2 q3 q4 q5 q6
          cases eq with
          | false =>
            have HN : Hid (compactP (ds.take (k + 1)) = ds.take (k + 1)) := by
              have := HT.out
              rw [if_neg (fun h => by have := HX.out.2 h; cases this), HC.out] at this
              show _ = _
              rw [this, List.take_add_one, List.getElem?_eq_getElem hlt]
              rfl
            go_wp2
            go_roundw
            case rel => exact ⟨k + 1, by omega, hlt, by go_num, HK1.out, HN.out⟩
            case measure => simp [intOf]; omega
          | true =>
            have HEQ : Hid (ds[k] = ds[j]) := HX.out.1 rfl
            have HCk : Hid (compactP (ds.take (k + 1)) = compactP (ds.take k)) := by
              have := HT.out
              rwa [if_pos HEQ.out] at this
            have hkle : (k : Int) ≤ (ds.length : Int) := by omega
            go_wp2
            obtain ⟨m, hm⟩ : ∃ m, ds.length - k = m := ⟨_, rfl⟩
            rw [hm]
            have HM : Hid (ds.length - k = m) := hm
            have hm1 : 1 ≤ m := by omega
            have hm2 : m ≤ 200 := by omega
            clear hm
            go_loopw [5, 7] (fun cv dv wr => ∃ (c d : Nat) (es : List Cs), cv = .int .i64 c ∧ dv = .int .i64 d ∧ 1 ≤ d ∧ d ≤ m ∧ c < k + d ∧ Hid (es.length = ds.length) ∧ Hid (Kx blk w wr ∧ wr.heap[blk]? = some (.cells (rowC es) 53 (0, 0))) ∧ Hid (es.take c = compactP (ds.take (k + d))) ∧ Hid (∀ i, c ≤ i → es[i]? = ds[i]?)) (fun _ dv _ => m - (intOf dv).toNat)
            case atStart => exact ⟨k, 1, ds, rfl, by go_num, by omega, by omega, by omega, rfl, HK1.out, by show _ = _; rw [HCk.out, HC.out], fun _ _ => rfl⟩
            case round =>
              obtain ⟨c, d, es, rfl, rfl, hd1, hdm, hcd, HL, HK2, HT2, HE2⟩ := hrel
              by_cases hdl : d < m
              · obtain ⟨e, hde⟩ : ∃ e, d = e + 1 := ⟨d - 1, by omega⟩
                have hlb2 : blk < wr.heap.size := lt_of_heap HK2.out.2
                have hx1 : k + d < ds.length := by have := HM.out; omega
                have hx2 : k + e < ds.length := by omega
                have hx3 : k + d < es.length := by have := HL.out; omega
                have hx4 : k + e < es.length := by have := HL.out; omega
                have y1 : es[k + d] = ds[k + d] := by
                  have := HE2.out (k + d) (by omega)
                  rw [List.getElem?_eq_getElem hx3, List.getElem?_eq_getElem hx1] at this
                  exact Option.some.inj this
                have y2 : es[k + e] = ds[k + e] := by
                  have := HE2.out (k + e) (by omega)
                  rw [List.getElem?_eq_getElem hx4, List.getElem?_eq_getElem hx2] at this
                  exact Option.some.inj this
                obtain ⟨p0, p1, p2, p3, p4, p5, p6⟩ := row_cells HK2.out.2 (k + d) hx3
                obtain ⟨q0, q1, q2, q3, q4, q5, q6⟩ := row_cells HK2.out.2 (k + e) hx4
                have hcl : c < es.length := by have := HL.out; have := HM.out; omega
                obtain ⟨r0, r1, r2, r3, r4, r5, r6⟩ := row_cells HK2.out.2 c hcl
                rw [y1, Nat.add_mul] at p0 p1
                rw [Nat.add_mul] at p2 p3 p4 p5 p6
                rw [y2, Nat.add_mul] at q0 q1
                rw [Nat.add_mul] at q2 q3 q4 q5 q6
                have CE := ones_any ds[k + d] ds[k + e]
                unfold csE at CE
                have HT3 : Hid (compactP (ds.take (k + (d + 1))) = if ds[k + d] = ds[k + e] then compactP (ds.take (k + d)) else compactP (ds.take (k + d)) ++ [ds[k + d]]) := by
                  subst hde
                  exact compactP_take ds (k + e) hx1
                have HP : Hid (∀ w', Kx blk w w' → w'.heap[blk]? = some (.cells (rowC es) 53 (0, 0)) → ∃ U, U = ((((((w'.setCell ⟨blk, c * 7, none⟩ (.string ⟨ds[k + d].1.toArray⟩)).setCell ⟨blk, c * 7 + 1, none⟩ (.int .i64 ds[k + d].2)).setCell ⟨blk, c * 7 + 2, none⟩ (.int .i64 0)).setCell ⟨blk, c * 7 + 3, none⟩ (.int .i64 0)).setCell ⟨blk, c * 7 + 4, none⟩ (.slice none 0 0)).setCell ⟨blk, c * 7 + 5, none⟩ (.slice none 0 0)).setCell ⟨blk, c * 7 + 6, none⟩ (.slice none 0 0) ∧ Kx blk w U ∧ U.heap[blk]? = some (.cells (rowC (es.set c ds[k + d])) 53 (0, 0))) := fun w' hk hw => by
                  refine ⟨_, rfl, ((((((hk.setCell _ _).setCell _ _).setCell _ _).setCell _ _).setCell _ _).setCell _ _).setCell _ _, ?_⟩
                  refine (setCell_block (setCell_block (setCell_block (setCell_block (setCell_block (setCell_block (setCell_block hw))))))).trans ?_
                  rw [rowC_set es c hcl]
                have HS1 : Hid ((es.set c ds[k + d]).take (c + 1) = es.take c ++ [ds[k + d]] ∧ ∀ i, c + 1 ≤ i → (es.set c ds[k + d])[i]? = ds[i]?) := by
                  refine ⟨?_, fun i hi => ?_⟩
                  · rw [List.take_add_one, List.take_set_of_le (Nat.le_refl _), List.getElem?_set_self hcl]
                    rfl
                  · rw [List.getElem?_set_ne (by omega)]
                    exact HE2.out i (by omega)
                have HS2 : Hid ((es.set c ds[k + d]).length = ds.length) := by
                  show _ = _
                  rw [List.length_set, HL.out]
                generalize es.set c ds[k + d] = fs at *
                have fr : ∀ o, wr.frozen? ⟨blk, o, none⟩ = false := fun o => heap_frozen HK2.out.2
                have HX2 : Hid (decide (ds[k + d] = ds[k + e]) = true ↔ ds[k + d] = ds[k + e]) := decide_eq_true_iff
                generalize decide (ds[k + d] = ds[k + e]) = eq2 at CE HX2
                generalize hdk : ds[k + d] = dk at *
                generalize hek : ds[k + e] = ek at *
                generalize dk.2 = xm at *
                generalize ek.2 = ym at *
                generalize (⟨dk.1.toArray⟩ : ByteArray) = xb at *
                generalize (⟨ek.1.toArray⟩ : ByteArray) = yb at *
                generalize (⟨es[c].1.toArray⟩ : ByteArray) = zb at *
                generalize es[c].2 = zm at *
                have i1 : (0 : Int) ≤ (d : Int) := by omega
                have i2 : (d : Int) < (m : Int) := by omega
                have i3 : IntKind.i64.wrap ((d : Int) - 1) = (e : Int) := by rw [IntKind.wrap_i64]; omega
                have i4 : (0 : Int) ≤ (e : Int) := by omega
                have i5 : (e : Int) < (m : Int) := by omega
                have i6 : (0 : Int) ≤ (c : Int) := by omega
                have i7 : (c : Int) < (ds.length : Int) := by omega
                clear hdk hek y1 y2 hde
                go_wp2
                go_region_held3 (fun w' => (w'.cell? ⟨blk, k * 7 + d * 7, none⟩ = some (.string xb) ∧ w'.cell? ⟨blk, k * 7 + d * 7 + 1, none⟩ = some (.int .i64 xm) ∧ w'.cell? ⟨blk, k * 7 + d * 7 + 2, none⟩ = some (.int .i64 0) ∧ w'.cell? ⟨blk, k * 7 + d * 7 + 3, none⟩ = some (.int .i64 0) ∧ w'.cell? ⟨blk, k * 7 + d * 7 + 4, none⟩ = some (.slice none 0 0) ∧ w'.cell? ⟨blk, k * 7 + d * 7 + 5, none⟩ = some (.slice none 0 0) ∧ w'.cell? ⟨blk, k * 7 + d * 7 + 6, none⟩ = some (.slice none 0 0)) ∧ w'.cell? ⟨blk, k * 7 + e * 7, none⟩ = some (.string yb) ∧ w'.cell? ⟨blk, k * 7 + e * 7 + 1, none⟩ = some (.int .i64 ym) ∧ w'.cell? ⟨blk, k * 7 + e * 7 + 2, none⟩ = some (.int .i64 0) ∧ w'.cell? ⟨blk, k * 7 + e * 7 + 3, none⟩ = some (.int .i64 0) ∧ w'.cell? ⟨blk, k * 7 + e * 7 + 4, none⟩ = some (.slice none 0 0) ∧ w'.cell? ⟨blk, k * 7 + e * 7 + 5, none⟩ = some (.slice none 0 0) ∧ w'.cell? ⟨blk, k * 7 + e * 7 + 6, none⟩ = some (.slice none 0 0)) (first | exact ⟨⟨p0, p1, p2, p3, p4, p5, p6⟩, q0, q1, q2, q3, q4, q5, q6⟩ | assumption | (have hk : ∀ o, w2.cell? ⟨blk, o, none⟩ = wr.cell? ⟨blk, o, none⟩ := fun o => hb1.cell (p := ⟨blk, o, none⟩) hlb2; exact ⟨⟨(hk _).trans p0, (hk _).trans p1, (hk _).trans p2, (hk _).trans p3, (hk _).trans p4, (hk _).trans p5, (hk _).trans p6⟩, (hk _).trans q0, (hk _).trans q1, (hk _).trans q2, (hk _).trans q3, (hk _).trans q4, (hk _).trans q5, (hk _).trans q6⟩) | go_keep)
                  (first | (go_at_call 65; (with_reducible refine Calls.mono (CE _) ?_); rintro e' w2 ⟨rfl, hb1⟩))
                all_goals
                  have hb2 : Below wr.heap.size wr w2 := ⟨hb1.os, hb1.tape, hb1.output, hb1.size, hb1.block⟩
                  have hk : ∀ o, w2.cell? ⟨blk, o, none⟩ = wr.cell? ⟨blk, o, none⟩ := fun o => hb2.cell (p := ⟨blk, o, none⟩) hlb2
                  have hkf : ∀ o, w2.frozen? ⟨blk, o, none⟩ = wr.frozen? ⟨blk, o, none⟩ := fun o => hb2.frozen (p := ⟨blk, o, none⟩) hlb2
                  have HK3 : Hid (Kx blk w w2 ∧ w2.heap[blk]? = some (.cells (rowC es) 53 (0, 0))) := ⟨HK2.out.1.trans (Kx.of hb2), (hb2.block blk hlb2).trans HK2.out.2⟩
                  rw [← hk] at p0 p1 p2 p3 p4 p5 p6 r0 r1 r2 r3 r4 r5 r6
                  have g0 := (hkf (c * 7)).trans (fr _)
                  have g1 := (hkf (c * 7 + 1)).trans (fr _)
                  have g2 := (hkf (c * 7 + 2)).trans (fr _)
                  have g3 := (hkf (c * 7 + 3)).trans (fr _)
                  have g4 := (hkf (c * 7 + 4)).trans (fr _)
                  have g5 := (hkf (c * 7 + 5)).trans (fr _)
                  have g6 := (hkf (c * 7 + 6)).trans (fr _)
                  clear hb1 hb2 CE q0 q1 q2 q3 q4 q5 q6 hk hkf fr
                  cases eq2 with
                  | true =>
                    have HQ : Hid (es.take c = compactP (ds.take (k + (d + 1)))) := by
                      have := HT3.out
                      rw [if_pos (HX2.out.1 rfl)] at this
                      show _ = _
                      rw [this, HT2.out]
                    clear p0 p1 p2 p3 p4 p5 p6 r0 r1 r2 r3 r4 r5 r6 g0 g1 g2 g3 g4 g5 g6
                    go_wp2
                    go_roundw
                    case rel => exact ⟨c, d + 1, es, rfl, by go_num, by omega, by omega, by omega, HL.out, HK3.out, HQ.out, HE2.out⟩
                    case measure => simp [intOf]; omega
                  | false =>
                    have HQ : Hid (fs.take (c + 1) = compactP (ds.take (k + (d + 1)))) := by
                      have := HT3.out
                      rw [if_neg (fun h => by have := HX2.out.2 h; cases this)] at this
                      show _ = _
                      rw [this, HS1.out.1, HT2.out]
                    obtain ⟨U, hU, HKU⟩ := HP.out w2 HK3.out.1 HK3.out.2
                    have HKU : Hid (Kx blk w U ∧ U.heap[blk]? = some (.cells (rowC fs) 53 (0, 0))) := HKU
                    go_upto_region 13 with fail
                    rw [← hU]
                    clear hU p0 p1 p2 p3 p4 p5 p6 r0 r1 r2 r3 r4 r5 r6 g0 g1 g2 g3 g4 g5 g6
                    go_wp2
                    go_roundw
                    case rel => exact ⟨c + 1, d + 1, fs, by go_num, by go_num, by omega, by omega, by omega, HS2.out, HKU.out, HQ.out, HS1.out.2⟩
                    case measure => simp [intOf]; omega
              · obtain rfl : d = m := by omega
                have hkm : k + d = ds.length := by have := HM.out; omega
                have HQ : Hid (es.take c = compactP ds) := by
                  have := HT2.out
                  rwa [hkm, List.take_length] at this
                have hcn : c < ds.length := by omega
                have HCL : Hid ((compactP ds).length = c) := by
                  show _ = _
                  rw [← HQ.out, List.length_take, HL.out]
                  omega
                obtain ⟨q, hq⟩ : ∃ q, ds.length - c = q := ⟨_, rfl⟩
                have hq0 : 0 < q := by omega
                have hsz : (rowC es).size = ds.length * 7 := by rw [rowC_size, HL.out]
                have HCLR : Hid (∀ ty, ∃ vs, (Builtin.clear_ #[29] ty #[.slice (some ⟨blk, c * 7, none⟩) q q]).run Try.prog wr = .ok (.tuple #[]) (wr.setCells blk (c * 7) vs)) := fun ty => clear_cases wr ty blk (c * 7) q q hq0 (fun t ht => by
                  have hlt : c * 7 + t < (rowC es).size := by rw [hsz]; omega
                  rw [heap_cell HK2.out.2 (Array.getElem?_eq_getElem hlt)]
                  rfl) (fun t _ => heap_frozen HK2.out.2)
                have HFIN : Hid (∀ vs, Kx blk w (wr.setCells blk (c * 7) vs) ∧ ∃ cur, (wr.setCells blk (c * 7) vs).heap[blk]? = some (.cells cur 53 (0, 0)) ∧ ∀ j (h : j < (compactP ds).length) i, i < 7 → cur[j * 7 + i]? = (csE (compactP ds)[j])[i]?) := fun vs => by
                  obtain ⟨cur, h1, h2⟩ := setCells_blk vs (c * 7) wr _ HK2.out.2
                  refine ⟨setCells_kx vs _ wr HK2.out.1, cur, h1, fun j hj i hi => ?_⟩
                  have hjc : j < c := by have := HCL.out; omega
                  have hje : j < es.length := by have := HL.out; omega
                  rw [h2 _ (by omega), rowC_get es j hje i hi]
                  have : (compactP ds)[j] = es[j] := by
                    have h3 : (compactP ds)[j]? = es[j]? := by rw [← HQ.out, List.getElem?_take, if_pos hjc]
                    rw [List.getElem?_eq_getElem hj, List.getElem?_eq_getElem hje] at h3
                    exact Option.some.inj h3
                  rw [this]
                have c1 : (c : Int) ≤ (ds.length : Int) := by omega
                have c2 : (0 : Int) ≤ (c : Int) := by omega
                obtain ⟨vs, hcl⟩ := HCLR.out 0
                clear HEND hkm hsz
                go_wp2
                go_ret
                exact ⟨by rw [HCL.out]; rfl, HFIN.out vs⟩
      · obtain rfl : k = ds.length := by omega
        have HE : Hid (compactP ds = ds) := by
          have := HC.out
          rwa [List.take_length] at this
        go_wp2
        go_ret
        exact HEND.out _ HK.out.1 HK.out.2 HE.out
end Go.Proofs.Ytpdmkhnonbbhnaa
