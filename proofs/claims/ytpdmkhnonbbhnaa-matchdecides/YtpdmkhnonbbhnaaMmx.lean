/- wilds: patterns of which nothing is said. patOf: a pattern of a case. otherThan: a pattern of what has no case. otherThan: a pattern of a constructor that has no case. -/
import Derived.Test.YtpdmkhnonbbhnaaUe
namespace Go.Proofs.Ytpdmkhnonbbhnaa
open Go.RowKit Go.Maps

theorem Try.info39 : (Try.prog.info? 39).map (fun i => (i.zero, i.size, i.bytes)) = some (some (.agg #[.int .i64 0, .string ⟨#[]⟩, .int .i64 0, .slice none 0 0]), 4, 56) := by kernel_rfl
def patC : Array Value := #[.int .i64 0, .string ⟨#[]⟩, .int .i64 0, .slice none 0 0]
theorem make_pats (w : World) (n : Nat) (hn : n ≤ 1000) : ∃ c, (Instr.makeSlice 24 (.int .i64 n) (.int .i64 n)).run Try.prog w = .ok (.slice (some ⟨w.heap.size, 0, none⟩) n n) (w.alloc (.cells c 39)) ∧ c.size = n * 4 ∧ ∀ j, j < n → c[j * 4]? = some (.int .i64 0) ∧ c[j * 4 + 1]? = some (.string ⟨#[]⟩) ∧ c[j * 4 + 2]? = some (.int .i64 0) ∧ c[j * 4 + 3]? = some (.slice none 0 0) := by
  obtain ⟨i0, hi, hz0, hz1, hz2⟩ := info_parts Try.info39
  have := run_makeSlice (P := Try.prog) w 24 39 i0 _ Try.underlying24 hi hz0 .i64 .i64 n n (by omega) (Int.le_refl _) (by rw [hz1]; simp; omega) (by rw [hz2]; omega) (by omega)
  refine ⟨madeCells patC (n * 4), ?_, by simp [madeCells], fun j hj => ?_⟩
  · have hzc : (Value.agg #[.int .i64 0, .string ⟨#[]⟩, .int .i64 0, .slice none 0 0]).cells = patC := rfl
    rw [hzc] at this
    simpa [hz1] using this
  · have hget : ∀ i, i < 4 → (madeCells patC (n * 4))[j * 4 + i]? = some (patC[i]!) := fun i hi => by
      have h1 : j * 4 + i < n * 4 := by omega
      have h2 : (j * 4 + i) % 4 = i := by omega
      have h3 : patC.size = 4 := rfl
      unfold madeCells
      rw [Array.getElem?_map, Array.getElem?_range, if_pos h1]
      show some (patC[(j * 4 + i) % patC.size]!) = _
      rw [h3, h2]
    exact ⟨hget 0 (by omega), hget 1 (by omega), hget 2 (by omega), hget 3 (by omega)⟩
structure Ww (n Lb : Nat) (W : World) (i : Nat) (cur : Array Value) (wr : World) : Prop where
  below : Below Lb W wr
  hsize : wr.heap.size = W.heap.size
  blk : wr.heap[Lb]? = some (.cells cur 39 (0, 0))
  size : cur.size = n * 4
  row : ∀ j, j < n → cur[j * 4]? = some (.int .i64 (if j < i then 1 else 0)) ∧ cur[j * 4 + 1]? = some (.string ⟨#[]⟩) ∧ cur[j * 4 + 2]? = some (.int .i64 0) ∧ cur[j * 4 + 3]? = some (.slice none 0 0)
theorem Ww.put {n Lb : Nat} {W : World} {i : Nat} {cur : Array Value} {wr : World} (h : Ww n Lb W i cur wr) (hi : i < n) : Ww n Lb W (i + 1) (cur.setIfInBounds (i * 4) (.int .i64 1)) (wr.setCell ⟨Lb, i * 4, none⟩ (.int .i64 1)) := by
  refine ⟨h.below.setCell (p := ⟨Lb, i * 4, none⟩) (Nat.le_refl _) _, by simpa [World.setCell] using h.hsize, setCell_block h.blk, by simpa using h.size, fun j hj => ?_⟩
  have hs := h.size
  obtain ⟨r0, r1, r2, r3⟩ := h.row j hj
  refine ⟨?_, ?_, ?_, ?_⟩
  · by_cases e : j = i
    · subst e
      rw [Array.getElem?_setIfInBounds, if_pos rfl, if_pos (by omega), if_pos (by omega)]
    · rw [Array.getElem?_setIfInBounds, if_neg (by omega), r0]
      by_cases h2 : j < i
      · rw [if_pos h2, if_pos (by omega)]
      · rw [if_neg h2, if_neg (by omega)]
  · rw [Array.getElem?_setIfInBounds, if_neg (by omega), r1]
  · rw [Array.getElem?_setIfInBounds, if_neg (by omega), r2]
  · rw [Array.getElem?_setIfInBounds, if_neg (by omega), r3]
/-- So many patterns of which nothing is said, in block B. -/
def Wild (w : World) (B n : Nat) : Prop := ∃ cur, w.heap[B]? = some (.cells cur 39 (0, 0)) ∧ cur.size = n * 4 ∧ ∀ j, j < n → cur[j * 4]? = some (.int .i64 1) ∧ cur[j * 4 + 1]? = some (.string ⟨#[]⟩) ∧ cur[j * 4 + 2]? = some (.int .i64 0) ∧ cur[j * 4 + 3]? = some (.slice none 0 0)
set_option maxHeartbeats 4000000 in
set_option maxRecDepth 10000 in
theorem wilds_any (w : World) (n : Nat) (hn : n ≤ 1000) : Calls Try.prog 57 #[.int .i64 n] w fun r w' => r = .returned (.slice (some ⟨w.heap.size, 0, none⟩) n n) ∧ Below w.heap.size w w' ∧ w'.heap.size = w.heap.size + 1 ∧ Wild w' w.heap.size n := by
  obtain ⟨c0, hmk, hc0, hc1⟩ := make_pats w n hn
  have HX : Hid (Ww n w.heap.size (w.alloc (.cells c0 39)) 0 c0 (w.alloc (.cells c0 39))) := ⟨Below.refl _ _, rfl, new_block w _, hc0, fun j h => by rw [if_neg (by omega)]; exact hc1 j h⟩
  have HX2 : Hid (Below w.heap.size w (w.alloc (.cells c0 39)) ∧ (w.alloc (.cells c0 39)).heap.size = w.heap.size + 1) := ⟨(Below.refl w.heap.size w).alloc (Nat.le_refl _) _, by simp⟩
  generalize hW2 : w.alloc (.cells c0 39) = W2 at *
  clear hW2 hc0 hc1
  go_enter Try.func57, Try.ntmps57
  go_wp2
  go_loopw [9] (fun iv wr => ∃ (i : Nat) (cur : Array Value), i ≤ n ∧ iv = .int .i64 i ∧ Hid (Ww n w.heap.size W2 i cur wr)) (fun iv _ => n - (intOf iv).toNat)
  case atStart => exact ⟨0, c0, by omega, by go_num, HX.out⟩
  case round =>
    obtain ⟨i, cur, hi, rfl, HT⟩ := hrel
    by_cases hil : i < n
    · have i1 : (0 : Int) ≤ (i : Int) := by omega
      have i2 : (i : Int) < (n : Int) := by omega
      have y0 := heap_cell HT.out.blk (HT.out.row i hil).1
      have z0 := heap_frozen (o := i * 4) HT.out.blk
      go_wp2
      go_roundw
      case rel => exact ⟨i + 1, _, hil, by go_num, HT.out.put hil⟩
      case measure => simp [intOf]; omega
    · obtain rfl : i = n := by omega
      go_wp2
      go_ret
      have h := HT.out
      refine ⟨rfl, HX2.out.1.trans h.below, h.hsize.trans HX2.out.2, cur, h.blk, h.size, fun j hj => ?_⟩
      have := h.row j hj
      rwa [if_pos hj] at this
end Go.Proofs.Ytpdmkhnonbbhnaa

namespace Go.Proofs.Ytpdmkhnonbbhnaa
open Go.RowKit Go.Maps

/-- A pattern with nothing said of its fields, which lie in a block of their own, from block lo on. -/
def BareV (w : World) (lo : Nat) (q : Lb × Nat) (v : Value) : Prop := ∃ ad cap, v = .agg #[.int .i64 q.1.1, .string ⟨q.1.2.1.toArray⟩, .int .i64 q.1.2.2, .slice ad q.2 cap] ∧ ((ad = none ∧ q.2 = 0 ∧ cap = 0) ∨ ∃ B, ad = some ⟨B, 0, none⟩ ∧ cap = q.2 ∧ lo ≤ B ∧ B < w.heap.size ∧ Wild w B q.2)
theorem store4 {w : World} {R : Nat} {c0 c1 c2 c3 : Value} {t : TypeId} (h : w.heap[R]? = some (.cells #[c0, c1, c2, c3] t (0, 0))) (v0 v1 v2 v3 : Value) :
    ∃ U, U = (((w.setCell ⟨R, 0, none⟩ v0).setCell ⟨R, 1, none⟩ v1).setCell ⟨R, 2, none⟩ v2).setCell ⟨R, 3, none⟩ v3 ∧ U.heap[R]? = some (.cells #[v0, v1, v2, v3] t (0, 0)) ∧ U.heap.size = w.heap.size ∧ (∀ x, x ≠ R → U.heap[x]? = w.heap[x]?) ∧ U.os = w.os ∧ U.tape = w.tape ∧ U.output = w.output := by
  have a0 := setCell_block (i := 0) (v := v0) h
  have a1 := setCell_block (i := 1) (v := v1) a0
  have a2 := setCell_block (i := 2) (v := v2) a1
  have a3 := setCell_block (i := 3) (v := v3) a2
  have hk := ((((Kx.refl R w).setCell 0 v0).setCell 1 v1).setCell 2 v2).setCell 3 v3
  have e : (((#[c0, c1, c2, c3].setIfInBounds 0 v0).setIfInBounds 1 v1).setIfInBounds 2 v2).setIfInBounds 3 v3 = #[v0, v1, v2, v3] := rfl
  rw [e] at a3
  refine ⟨_, rfl, a3, by simp [World.setCell], fun x hx => ?_, hk.os, hk.tape, hk.output⟩
  rw [Below.heap_setCell _ _ _ _ hx, Below.heap_setCell _ _ _ _ hx, Below.heap_setCell _ _ _ _ hx, Below.heap_setCell _ _ _ _ hx]
set_option maxHeartbeats 4000000 in
set_option maxRecDepth 10000 in
theorem patOf_any {w : World} {b : Nat} {k : Kn} (fa : Option Addr) (fl fc : Nat) (c : Cs) (hM : MapK w b k) (hn : c.1.length < 140737488355328) (hf : (looks k c.1).2.2 ≤ 8) (h0 : c.1 ≠ [] → c.2 = 0) :
    Calls Try.prog 55 #[.agg #[.slice fa fl fc, .map (some b)], .string ⟨c.1.toArray⟩, .int .i64 c.2] w fun r w' => Below w.heap.size w w' ∧ ∃ v, r = .returned v ∧ BareV w' w.heap.size (patOf k c) v := by
  have hA : ∃ A, A = (w.alloc (.cells #[.slice fa fl fc, .map (some b)] 58)).alloc (.cells #[.int .i64 0, .string ⟨#[]⟩, .int .i64 0, .slice none 0 0] 39) ∧ Below w.heap.size w A ∧ A.heap.size = w.heap.size + 2 ∧ A.cell? ⟨w.heap.size, 1, none⟩ = some (.map (some b)) ∧ A.heap[w.heap.size + 1]? = some (.cells #[.int .i64 0, .string ⟨#[]⟩, .int .i64 0, .slice none 0 0] 39 (0, 0)) := by
    refine ⟨_, rfl, ((Below.refl _ _).alloc (Nat.le_refl _) _).alloc (by simp) _, by simp, ?_, ?_⟩
    · exact heap_cell ((Below.heap_alloc _ _ _ (by simp)).trans (new_block w _)) rfl
    · have := new_block (w.alloc (.cells #[.slice fa fl fc, .map (some b)] 58)) (.cells #[.int .i64 0, .string ⟨#[]⟩, .int .i64 0, .slice none 0 0] 39)
      simpa using this
  obtain ⟨A, hA, hbA, hsA, d1, hR⟩ := hA
  have HA : Hid (Below w.heap.size w A ∧ A.heap.size = w.heap.size + 2 ∧ A.heap[w.heap.size + 1]? = some (.cells #[.int .i64 0, .string ⟨#[]⟩, .int .i64 0, .slice none 0 0] 39 (0, 0))) := ⟨hbA, hsA, hR⟩
  have hMA : MapK A b k := hM.on (hbA.block b (Mv.lt hM))
  have s0 := heap_cell hR (i := 0) rfl
  have s1 := heap_cell hR (i := 1) rfl
  have s2 := heap_cell hR (i := 2) rfl
  have s3 := heap_cell hR (i := 3) rfl
  have z0 := heap_frozen (o := 0) hR
  have z1 := heap_frozen (o := 1) hR
  have z2 := heap_frozen (o := 2) hR
  have z3 := heap_frozen (o := 3) hR
  by_cases hc : c.1 = []
  · have hP : patOf k c = ((3, [], c.2), 0) := by unfold patOf; rw [if_pos hc]
    rw [hP, hc]
    obtain ⟨U, hU, hUR, hUs, hUk, hUo⟩ := store4 hR (.int .i64 3) (.string ⟨#[]⟩) (.int .i64 c.2) (.slice none 0 0)
    have HU : Hid (U.heap.size = A.heap.size ∧ (∀ x, x ≠ w.heap.size + 1 → U.heap[x]? = A.heap[x]?) ∧ U.os = A.os ∧ U.tape = A.tape ∧ U.output = A.output) := ⟨hUs, hUk, hUo⟩
    clear hUs hUk hUo hbA hsA hR hMA hM hf h0
    generalize c.2 = num at *
    clear hc hn hP
    have es : ((⟨([] : List UInt8).toArray⟩ : ByteArray) == ⟨#[]⟩) = true := rfl
    go_enter Try.func55, Try.ntmps55
    go_upto_region 1 with fail
    rw [← hA]
    clear hA
    go_wp2
    rw [← hU]
    have u0 := heap_cell hUR (i := 0) rfl
    have u1 := heap_cell hUR (i := 1) rfl
    have u2 := heap_cell hUR (i := 2) rfl
    have u3 := heap_cell hUR (i := 3) rfl
    refine bodyPost_ret (v := .agg #[.int .i64 3, .string ⟨#[]⟩, .int .i64 num, .slice none 0 0]) (by simp [results, Try.results55, go_sem, u0, u1, u2, u3]) rfl ?_
    have hE := HU.out
    have hb := HA.out
    refine ⟨⟨hE.2.2.1.trans hb.1.os, hE.2.2.2.1.trans hb.1.tape, hE.2.2.2.2.trans hb.1.output, by omega, fun x hx => (hE.2.1 x (by omega)).trans (hb.1.block x hx)⟩, _, rfl, none, 0, rfl, .inl ⟨rfl, rfl, rfl⟩⟩
  · have hP : patOf k c = ((4, c.1, 0), (looks k c.1).2.2) := by unfold patOf; rw [if_neg hc]
    rw [hP, h0 hc]
    have hl := hMA.look1 c.1 hn
    unfold kV at hl
    have CW := wilds_any A (looks k c.1).2.2 (by omega)
    have HC : Hid (c.1 ≠ []) := hc
    have es : c.1.isEmpty = false := by simpa using hc
    generalize (looks k c.1).2.2 = fn at *
    generalize (looks k c.1).1 = f1 at *
    generalize (looks k c.1).2.1 = f2 at *
    have hfl := fld2 f1 f2 fn A
    clear hbA hsA hR hMA hM h0 hP
    generalize c.1 = con at *
    go_enter Try.func55, Try.ntmps55
    go_upto_region 1 with fail
    rw [← hA]
    clear hA
    clear s0 s1 s2 s3 z0 z1 z2 z3
    go_wp2_with (first | (go_at_call 57; (with_reducible refine Calls.mono CW ?_); rintro e' w2 ⟨rfl, hb2, hs2, hw2⟩; have hR2 := (hb2.block (w.heap.size + 1) (by have := HA.out.2.1; omega)).trans HA.out.2.2; have s0 := heap_cell hR2 (i := 0) rfl; have s1 := heap_cell hR2 (i := 1) rfl; have s2 := heap_cell hR2 (i := 2) rfl; have s3 := heap_cell hR2 (i := 3) rfl; have z0 := heap_frozen (o := 0) hR2; have z1 := heap_frozen (o := 1) hR2; have z2 := heap_frozen (o := 2) hR2; have z3 := heap_frozen (o := 3) hR2))
    obtain ⟨U, hU, hUR, hUs, hUk, hUo⟩ := store4 hR2 (.int .i64 4) (.string ⟨con.toArray⟩) (.int .i64 0) (.slice (some ⟨A.heap.size, 0, none⟩) fn fn)
    rw [← hU]
    have u0 := heap_cell hUR (i := 0) rfl
    have u1 := heap_cell hUR (i := 1) rfl
    have u2 := heap_cell hUR (i := 2) rfl
    have u3 := heap_cell hUR (i := 3) rfl
    refine bodyPost_ret (v := .agg #[.int .i64 4, .string ⟨con.toArray⟩, .int .i64 0, .slice (some ⟨A.heap.size, 0, none⟩) fn fn]) (by simp [results, Try.results55, go_sem, u0, u1, u2, u3]) rfl ?_
    have hb := HA.out
    obtain ⟨cur, w1, w3, w4⟩ := hw2
    refine ⟨⟨hUo.1.trans (hb2.os.trans hb.1.os), hUo.2.1.trans (hb2.tape.trans hb.1.tape), hUo.2.2.trans (hb2.output.trans hb.1.output), by omega, fun x hx => (hUk x (by omega)).trans ((hb2.block x (by omega)).trans (hb.1.block x hx))⟩, _, rfl, some ⟨A.heap.size, 0, none⟩, fn, rfl, .inr ⟨A.heap.size, rfl, rfl, by omega, by omega, cur, (hUk _ (by omega)).trans w1, w3, w4⟩⟩
end Go.Proofs.Ytpdmkhnonbbhnaa

namespace Go.Proofs.Ytpdmkhnonbbhnaa
open Go.RowKit Go.Maps

theorem gapP_append (k : Kn) (con : Str) : ∀ (l : List Cs) (c : Cs) (g : Nat), gapP k con (l ++ [c]) g = if (con = [] ∧ c.2 = (gapP k con l g : Int)) ∨ (con ≠ [] ∧ (looks k c.1).2.1 = gapP k con l g) then gapP k con l g + 1 else gapP k con l g
  | [], _, _ => rfl
  | _ :: r, c, _ => gapP_append k con r c _
theorem gapP_snoc (k : Kn) (con : Str) (l : List Cs) (i : Nat) (h : i < l.length) : gapP k con (l.take (i + 1)) 0 = if (con = [] ∧ l[i].2 = (gapP k con (l.take i) 0 : Int)) ∨ (con ≠ [] ∧ (looks k l[i].1).2.1 = gapP k con (l.take i) 0) then gapP k con (l.take i) 0 + 1 else gapP k con (l.take i) 0 := by
  rw [take_snoc l i h, gapP_append]
theorem gapP_le (k : Kn) (con : Str) : ∀ (l : List Cs) (g : Nat), gapP k con l g ≤ g + l.length
  | [], _ => Nat.le_refl _
  | c :: r, g => by
    unfold gapP
    have := gapP_le k con r (if (con = [] ∧ c.2 = (g : Int)) ∨ (con ≠ [] ∧ (looks k c.1).2.1 = g) then g + 1 else g)
    rw [List.length_cons]
    by_cases h : (con = [] ∧ c.2 = (g : Int)) ∨ (con ≠ [] ∧ (looks k c.1).2.1 = g)
    · rw [if_pos h] at this ⊢
      omega
    · rw [if_neg h] at this ⊢
      omega
/-- A row of cases, as trees have them; the trees aside. -/
def CaseR (w : World) (S : Nat → Prop) (g o : Nat) (c : Cs) : Prop := S g ∧ w.cell? ⟨g, o, none⟩ = some (.string ⟨c.1.toArray⟩) ∧ w.cell? ⟨g, o + 1, none⟩ = some (.int .i64 c.2) ∧ c.1.length < 140737488355328 ∧ ∃ a b pa pl pc ca cl cc ea el ec, w.cell? ⟨g, o + 2, none⟩ = some (.int .i64 a) ∧ w.cell? ⟨g, o + 3, none⟩ = some (.int .i64 b) ∧ w.cell? ⟨g, o + 4, none⟩ = some (.slice pa pl pc) ∧ w.cell? ⟨g, o + 5, none⟩ = some (.slice ca cl cc) ∧ w.cell? ⟨g, o + 6, none⟩ = some (.slice ea el ec)
theorem bare_end {w w1 w2 : World} {R : Nat} {q : Lb × Nat} {ad : Option Addr} {cp : Nat} {c0 c1 c2 c3 : Value} (hR : w2.heap[R]? = some (.cells #[c0, c1, c2, c3] 39 (0, 0))) (hb : Below w.heap.size w w2) (hwR : w.heap.size ≤ R) (hR1 : R < w1.heap.size) (hB : (ad = none ∧ q.2 = 0 ∧ cp = 0) ∨ ∃ B, ad = some ⟨B, 0, none⟩ ∧ cp = q.2 ∧ w1.heap.size ≤ B ∧ B < w2.heap.size ∧ Wild w2 B q.2) :
    ∃ U, U = (((w2.setCell ⟨R, 0, none⟩ (.int .i64 q.1.1)).setCell ⟨R, 1, none⟩ (.string ⟨q.1.2.1.toArray⟩)).setCell ⟨R, 2, none⟩ (.int .i64 q.1.2.2)).setCell ⟨R, 3, none⟩ (.slice ad q.2 cp) ∧ U.heap[R]? = some (.cells #[.int .i64 q.1.1, .string ⟨q.1.2.1.toArray⟩, .int .i64 q.1.2.2, .slice ad q.2 cp] 39 (0, 0)) ∧ Below w.heap.size w U ∧ BareV U w.heap.size q (.agg #[.int .i64 q.1.1, .string ⟨q.1.2.1.toArray⟩, .int .i64 q.1.2.2, .slice ad q.2 cp]) := by
  obtain ⟨U, hU, hUR, hUs, hUk, hUo⟩ := store4 hR (.int .i64 q.1.1) (.string ⟨q.1.2.1.toArray⟩) (.int .i64 q.1.2.2) (.slice ad q.2 cp)
  refine ⟨U, hU, hUR, ⟨hUo.1.trans hb.os, hUo.2.1.trans hb.tape, hUo.2.2.trans hb.output, by rw [hUs]; exact hb.size, fun x hx => (hUk x (by omega)).trans (hb.block x hx)⟩, ad, cp, rfl, ?_⟩
  rcases hB with h | ⟨B, e1, e2, e3, e4, cur, w1', w3, w4⟩
  · exact .inl h
  · exact .inr ⟨B, e1, e2, by omega, by omega, cur, (hUk _ (by omega)).trans w1', w3, w4⟩
set_option maxHeartbeats 8000000 in
set_option maxRecDepth 10000 in
theorem other_num {w : World} {S : Nat → Prop} {b : Nat} {k : Kn} (fa : Option Addr) (fs : List Fam) (fc g o cap : Nat) (cs : List Cs) (hS : ∀ b, S b → b < w.heap.size) (hM : MapK w b k) (h0 : 0 < cs.length) (hcap : cs.length ≤ cap) (hcl : cs.length ≤ 200) (hr : ∀ j (h : j < cs.length), CaseR w S g (o + j * 7) cs[j]) (hc : cs[0].1 = []) (hf : (looks k []).2.2 ≤ 8) :
    Calls Try.prog 56 #[.agg #[.slice fa fs.length fc, .map (some b)], .slice (some ⟨g, o, none⟩) cs.length cap] w fun r w' => Below w.heap.size w w' ∧ ∃ v, r = .returned v ∧ BareV w' w.heap.size (otherThan k fs cs) v := by
  have HO : Hid (otherThan k fs cs = patOf k ([], (gapP k [] cs 0 : Nat))) := by
    show _ = _
    cases cs with
    | nil => simp at h0
    | cons c r =>
      have : c.1 = [] := hc
      unfold otherThan
      simp only
      rw [if_pos this]
  rw [HO.out]
  have HS : Hid (∀ b, S b → b < w.heap.size) := hS
  have HM : Hid (MapK w b k) := hM
  have HR : Hid (∀ j (h : j < cs.length), CaseR w S g (o + j * 7) cs[j]) := hr
  have HF : Hid ((looks k []).2.2 ≤ 8) := hf
  have hA : ∃ A, A = (w.alloc (.cells #[.slice fa fs.length fc, .map (some b)] 58)).alloc (.cells #[.int .i64 0, .string ⟨#[]⟩, .int .i64 0, .slice none 0 0] 39) ∧ Below w.heap.size w A ∧ A.heap.size = w.heap.size + 2 ∧ A.heap[w.heap.size]? = some (.cells #[.slice fa fs.length fc, .map (some b)] 58 (0, 0)) ∧ A.heap[w.heap.size + 1]? = some (.cells #[.int .i64 0, .string ⟨#[]⟩, .int .i64 0, .slice none 0 0] 39 (0, 0)) := by
    refine ⟨_, rfl, ((Below.refl _ _).alloc (Nat.le_refl _) _).alloc (by simp) _, by simp, ?_, ?_⟩
    · exact (Below.heap_alloc _ _ _ (by simp)).trans (new_block w _)
    · have := new_block (w.alloc (.cells #[.slice fa fs.length fc, .map (some b)] 58)) (.cells #[.int .i64 0, .string ⟨#[]⟩, .int .i64 0, .slice none 0 0] 39)
      simpa using this
  obtain ⟨A, hA, hbA, hsA, hB, hR⟩ := hA
  have HA : Hid (Below w.heap.size w A ∧ A.heap.size = w.heap.size + 2 ∧ A.heap[w.heap.size]? = some (.cells #[.slice fa fs.length fc, .map (some b)] 58 (0, 0)) ∧ A.heap[w.heap.size + 1]? = some (.cells #[.int .i64 0, .string ⟨#[]⟩, .int .i64 0, .slice none 0 0] 39 (0, 0))) := ⟨hbA, hsA, hB, hR⟩
  obtain ⟨s0, q0, _⟩ := hr 0 h0
  rw [Nat.zero_mul, Nat.add_zero, hc] at q0
  have q0 := (hbA.cell (p := ⟨g, o, none⟩) (hS g s0)).trans q0
  have j1 : (0 : Int) < (cs.length : Int) := by omega
  clear hbA hsA hB hR hM hr hS hf
  go_enter Try.func56, Try.ntmps56
  go_upto_region 1 with fail
  rw [← hA]
  clear hA
  go_wp2
  clear q0
  go_loopw [6, 15] (fun gv iv wr => ∃ i : Nat, i ≤ cs.length ∧ gv = .int .i64 (gapP k [] (cs.take i) 0 : Nat) ∧ iv = .int .i64 i ∧ Hid (Below A.heap.size A wr)) (fun _ iv _ => cs.length - (intOf iv).toNat)
  case atStart => exact ⟨0, by omega, by go_num, by go_num, Below.refl _ _⟩
  case round =>
    obtain ⟨i, hi, rfl, rfl, HT⟩ := hrel
    have HBw : Hid (Below w.heap.size w wr) := HA.out.1.trans (HT.out.mono (by have := HA.out.2.1; omega))
    by_cases hil : i < cs.length
    · obtain ⟨s0, q0, q1, _, a, b', pa', pl', pc', ca', cl', cc', ea', el', ec', q2, q3, q4, q5, q6⟩ := HR.out i hil
      have hk := Keeps.of HBw.out HS.out
      have q0 := (hk.cell (p := ⟨g, o + i * 7, none⟩) s0).trans q0
      have q1 := (hk.cell (p := ⟨g, o + i * 7 + 1, none⟩) s0).trans q1
      have q2 := (hk.cell (p := ⟨g, o + i * 7 + 2, none⟩) s0).trans q2
      have q3 := (hk.cell (p := ⟨g, o + i * 7 + 3, none⟩) s0).trans q3
      have q4 := (hk.cell (p := ⟨g, o + i * 7 + 4, none⟩) s0).trans q4
      have q5 := (hk.cell (p := ⟨g, o + i * 7 + 5, none⟩) s0).trans q5
      have q6 := (hk.cell (p := ⟨g, o + i * 7 + 6, none⟩) s0).trans q6
      have hW1 : ∃ W1, W1 = wr.alloc (Obj.cells #[.string ⟨cs[i].1.toArray⟩, .int .i64 cs[i].2, .int .i64 a, .int .i64 b', .slice pa' pl' pc', .slice ca' cl' cc', .slice ea' el' ec'] 53) ∧ Below wr.heap.size wr W1 ∧ W1.cell? ⟨wr.heap.size, 1, none⟩ = some (.int .i64 cs[i].2) := ⟨_, rfl, (Below.refl _ _).alloc (Nat.le_refl _) _, heap_cell' (new_block' wr _) rfl⟩
      obtain ⟨W1, hW1, hb1, x1⟩ := hW1
      have HB1 : Hid (Below A.heap.size A W1) := HT.out.trans (hb1.mono HT.out.size)
      have HSN := gapP_snoc k [] cs i hil
      have hgle := gapP_le k [] (cs.take i) 0
      have hgl2 : (cs.take i).length ≤ 200 := by rw [List.length_take]; omega
      have i1 : (0 : Int) ≤ (i : Int) := by omega
      have i2 : (i : Int) < (cs.length : Int) := by omega
      generalize gapP k [] (cs.take i) 0 = G at *
      have hGw : IntKind.i64.wrap ((G : Int) + 1) = ((G + 1 : Nat) : Int) := by rw [IntKind.wrap_i64]; omega
      by_cases hcg : cs[i].2 = (G : Int)
      · rw [if_pos (.inl ⟨rfl, hcg⟩)] at HSN
        have HS2 : Hid (gapP k [] (cs.take (i + 1)) 0 = G + 1) := HSN
        rw [hcg] at q1 x1 hW1
        clear HSN hcg hk hb1 hgle hgl2
        generalize cs[i].1 = nm at *
        go_upto_region 5 with fail
        rw [← hW1]
        clear hW1 q0 q1 q2 q3 q4 q5 q6
        go_wp2
        refine ⟨⟨i + 1, hil, ?_, by go_num, HB1.out⟩, by simp [intOf]; omega⟩
        rw [HS2.out]
        rfl
      · rw [if_neg (by simp [hcg])] at HSN
        have HS2 : Hid (gapP k [] (cs.take (i + 1)) 0 = G) := HSN
        have ecg : (cs[i].2 == (G : Int)) = false := by simpa using hcg
        clear HSN hk hb1 hgle hgl2
        generalize cs[i].1 = nm at *
        generalize cs[i].2 = num at *
        go_upto_region 5 with fail
        rw [← hW1]
        clear hW1 q0 q1 q2 q3 q4 q5 q6
        go_wp2
        refine ⟨⟨i + 1, hil, ?_, by go_num, HB1.out⟩, by simp [intOf]; omega⟩
        rw [HS2.out]
    · obtain rfl : i = cs.length := by omega
      rw [List.take_length]
      have hBr := (HT.out.block w.heap.size (by have := HA.out.2.1; omega)).trans HA.out.2.2.1
      have d0 := heap_cell hBr (i := 0) rfl
      have d1 := heap_cell hBr (i := 1) rfl
      have HRr : Hid (wr.heap[w.heap.size + 1]? = some (.cells #[.int .i64 0, .string ⟨#[]⟩, .int .i64 0, .slice none 0 0] 39 (0, 0))) := (HT.out.block (w.heap.size + 1) (by have := HA.out.2.1; omega)).trans HA.out.2.2.2
      generalize hGE : gapP k [] cs 0 = G at *
      have HGE : Hid (gapP k [] cs 0 = G) := hGE
      clear hGE
      have CP := patOf_any (w := wr) fa fs.length fc ([], (G : Int)) (HM.out.on (HBw.out.block b (Mv.lt HM.out))) (by simp) HF.out (fun h => absurd rfl h)
      have HZ : Hid (w.heap.size + 2 ≤ wr.heap.size) := by
        show _ ≤ _
        have := HT.out.size
        have := HA.out.2.1
        omega
      clear hBr
      go_wp2_with (first | (go_at_call 55; (with_reducible refine Calls.mono CP ?_); rintro e' w2 ⟨hb2, v, rfl, ad, cp, rfl, hbare⟩; have hR2 := (hb2.block (w.heap.size + 1) (by have := HZ.out; omega)).trans HRr.out; have s0 := heap_cell hR2 (i := 0) rfl; have s1 := heap_cell hR2 (i := 1) rfl; have s2 := heap_cell hR2 (i := 2) rfl; have s3 := heap_cell hR2 (i := 3) rfl; have z0 := heap_frozen (o := 0) hR2; have z1 := heap_frozen (o := 1) hR2; have z2 := heap_frozen (o := 2) hR2; have z3 := heap_frozen (o := 3) hR2))
      have hz := HZ.out
      obtain ⟨U, hU, hUR, hUb, hUv⟩ := bare_end (w := w) (w1 := wr) hR2 (HBw.out.trans (hb2.mono HBw.out.size)) (by omega) (by omega) hbare
      rw [← hU]
      have u0 := heap_cell hUR (i := 0) rfl
      have u1 := heap_cell hUR (i := 1) rfl
      have u2 := heap_cell hUR (i := 2) rfl
      have u3 := heap_cell hUR (i := 3) rfl
      rw [HGE.out]
      refine bodyPost_ret (v := .agg #[.int .i64 (patOf k ([], (G : Int))).1.1, .string ⟨(patOf k ([], (G : Int))).1.2.1.toArray⟩, .int .i64 (patOf k ([], (G : Int))).1.2.2, .slice ad (patOf k ([], (G : Int))).2 cp]) (by simp [results, Try.results56, go_sem, u0, u1, u2, u3]) rfl ?_
      exact ⟨hUb, _, rfl, hUv⟩
end Go.Proofs.Ytpdmkhnonbbhnaa

namespace Go.Proofs.Ytpdmkhnonbbhnaa
open Go.RowKit Go.Maps

set_option maxHeartbeats 4000000 in
set_option maxRecDepth 10000 in
theorem family_at {w : World} {b : Nat} {k : Kn} (g o fl fc : Nat) (con : Str) (hg : g < w.heap.size) (hM : MapK w b k) (hcon : con.length < 140737488355328) (hin : (looks k con).1 < fl) (ad ad' : Option Addr) (n cap n' cap' : Nat) (c0 : w.cell? ⟨g, o + (looks k con).1 * 2, none⟩ = some (.slice ad n cap)) (c1 : w.cell? ⟨g, o + (looks k con).1 * 2 + 1, none⟩ = some (.slice ad' n' cap')) :
    Calls Try.prog 70 #[.agg #[.slice (some ⟨g, o, none⟩) fl fc, .map (some b)], .string ⟨con.toArray⟩] w fun r w' => Below w.heap.size w w' ∧ r = .returned (.agg #[.slice ad n cap, .slice ad' n' cap']) := by
  have hW : ∃ W, W = (w.alloc (Obj.cells #[.slice (some ⟨g, o, none⟩) fl fc, .map (some b)] 58)).alloc (Obj.cells #[.slice none 0 0, .slice none 0 0] 47) ∧ Below w.heap.size w W ∧ W.heap.size = w.heap.size + 2 ∧ W.cell? ⟨w.heap.size, 0, none⟩ = some (.slice (some ⟨g, o, none⟩) fl fc) ∧ W.cell? ⟨w.heap.size, 1, none⟩ = some (.map (some b)) ∧ W.heap[w.heap.size + 1]? = some (.cells #[.slice none 0 0, .slice none 0 0] 47 (0, 0)) := by
    refine ⟨_, rfl, ((Below.refl _ _).alloc (Nat.le_refl _) _).alloc (by simp) _, by simp, ?_, ?_, ?_⟩
    · exact heap_cell ((Below.heap_alloc _ _ _ (by simp)).trans (new_block w _)) rfl
    · exact heap_cell ((Below.heap_alloc _ _ _ (by simp)).trans (new_block w _)) rfl
    · have := new_block (w.alloc (Obj.cells #[.slice (some ⟨g, o, none⟩) fl fc, .map (some b)] 58)) (Obj.cells #[.slice none 0 0, .slice none 0 0] 47)
      rwa [show (w.alloc (Obj.cells #[.slice (some ⟨g, o, none⟩) fl fc, .map (some b)] 58)).heap.size = w.heap.size + 1 by simp] at this
  obtain ⟨W, hW, hbW, hsW, d0, d1, d2⟩ := hW
  have c0 := (hbW.cell (p := ⟨g, o + (looks k con).1 * 2, none⟩) hg).trans c0
  have c1 := (hbW.cell (p := ⟨g, o + (looks k con).1 * 2 + 1, none⟩) hg).trans c1
  have hMW : MapK W b k := hM.on (hbW.block b (Mv.lt hM))
  have hl := hMW.look1 con hcon
  unfold kV at hl
  have e0 := heap_cell d2 (i := 0) rfl
  have e1 := heap_cell d2 (i := 1) rfl
  have z0 := heap_frozen (o := 0) d2
  have z1 := heap_frozen (o := 1) d2
  have hi1 : (0 : Int) ≤ ((looks k con).1 : Int) := by omega
  have hi2 : ((looks k con).1 : Int) < (fl : Int) := by omega
  have hfl := fld0 (looks k con).1 (looks k con).2.1 (looks k con).2.2 W
  have HB : Hid (Below w.heap.size w W ∧ W.heap.size = w.heap.size + 2) := ⟨hbW, hsW⟩
  have hU : ∃ U, U = (W.setCell ⟨w.heap.size + 1, 0, none⟩ (.slice ad n cap)).setCell ⟨w.heap.size + 1, 1, none⟩ (.slice ad' n' cap') ∧ Below w.heap.size w U ∧ U.cell? ⟨w.heap.size + 1, 0, none⟩ = some (.slice ad n cap) ∧ U.cell? ⟨w.heap.size + 1, 1, none⟩ = some (.slice ad' n' cap') := by
    have h1 := setCell_block (i := 1) (v := .slice ad' n' cap') (setCell_block (i := 0) (v := .slice ad n cap) d2)
    exact ⟨_, rfl, (hbW.setCell (p := ⟨w.heap.size + 1, 0, none⟩) (by simp) _).setCell (p := ⟨w.heap.size + 1, 1, none⟩) (by simp) _, heap_cell h1 rfl, heap_cell h1 rfl⟩
  obtain ⟨U, hU, hbU, s0, s1⟩ := hU
  have HBU : Hid (Below w.heap.size w U) := hbU
  generalize (looks k con).1 = l1 at *
  generalize (looks k con).2.1 = l2 at *
  generalize (looks k con).2.2 = l3 at *
  clear hM hMW hbW hsW d2 hin hbU
  go_enter Try.func70, Try.ntmps70
  go_upto_region 1 with fail
  rw [← hW]
  clear hW
  go_wp2
  rw [← hU]
  refine bodyPost_ret (v := .agg #[.slice ad n cap, .slice ad' n' cap']) (by simp [results, Try.results70, go_sem, s0, s1]) rfl ?_
  exact ⟨HBU.out, rfl⟩
set_option maxHeartbeats 8000000 in
set_option maxRecDepth 10000 in
theorem other_con {w : World} {S : Nat → Prop} {b : Nat} {k : Kn} (fa : Option Addr) (fs : List Fam) (fc g o cap : Nat) (cs : List Cs) (hS : ∀ b, S b → b < w.heap.size) (hM : MapK w b k) (h0 : 0 < cs.length) (hcap : cs.length ≤ cap) (hcl : cs.length ≤ 200) (hr : ∀ j (h : j < cs.length), CaseR w S g (o + j * 7) cs[j]) (hc : cs[0].1 ≠ []) (hK : KnOk k fs) (hF : Fams w S (.slice fa fs.length fc) fs) (hin : (looks k cs[0].1).1 < fs.length) (hgp : gapP k cs[0].1 cs 0 < fs[(looks k cs[0].1).1].1.length) :
    Calls Try.prog 56 #[.agg #[.slice fa fs.length fc, .map (some b)], .slice (some ⟨g, o, none⟩) cs.length cap] w fun r w' => Below w.heap.size w w' ∧ ∃ v, r = .returned v ∧ BareV w' w.heap.size (otherThan k fs cs) v := by
  have HO : Hid (otherThan k fs cs = patOf k (fs[(looks k cs[0].1).1].1[gapP k cs[0].1 cs 0], 0)) := by
    show _ = _
    cases cs with
    | nil => simp at h0
    | cons c r =>
      have hc' : c.1 ≠ [] := hc
      have hin' : (looks k c.1).1 < fs.length := hin
      have hgp' : gapP k c.1 (c :: r) 0 < fs[(looks k c.1).1].1.length := hgp
      unfold otherThan
      simp only
      rw [if_neg hc', List.getElem?_eq_getElem hin']
      simp only
      rw [show (fs[(looks k c.1).1].1.getD (gapP k c.1 (c :: r) 0) []) = fs[(looks k c.1).1].1[gapP k c.1 (c :: r) 0] by rw [List.getD_eq_getElem?_getD, List.getElem?_eq_getElem hgp']; rfl]
      rfl
  rw [HO.out]
  have HIN0 : ∃ nm, nm = fs[(looks k cs[0].1).1].1[gapP k cs[0].1 cs 0] := ⟨_, rfl⟩
  obtain ⟨nm, hnm⟩ := HIN0
  rw [← hnm]
  have HIN : Hid (∃ (h1 : (looks k cs[0].1).1 < fs.length) (h2 : gapP k cs[0].1 cs 0 < fs[(looks k cs[0].1).1].1.length), nm = fs[(looks k cs[0].1).1].1[gapP k cs[0].1 cs 0]) := ⟨hin, hgp, hnm⟩
  clear HO hnm hgp hin
  have HS : Hid (∀ b, S b → b < w.heap.size) := hS
  have HM : Hid (MapK w b k) := hM
  have HR : Hid (∀ j (h : j < cs.length), CaseR w S g (o + j * 7) cs[j]) := hr
  have HFA : Hid (Fams w S (.slice fa fs.length fc) fs) := hF
  have HK : Hid (KnOk k fs) := hK
  have HNM : Hid (cs[0].1.length < 140737488355328) := (hr 0 h0).2.2.2.1
  have hA : ∃ A, A = (w.alloc (.cells #[.slice fa fs.length fc, .map (some b)] 58)).alloc (.cells #[.int .i64 0, .string ⟨#[]⟩, .int .i64 0, .slice none 0 0] 39) ∧ Below w.heap.size w A ∧ A.heap.size = w.heap.size + 2 ∧ A.heap[w.heap.size]? = some (.cells #[.slice fa fs.length fc, .map (some b)] 58 (0, 0)) ∧ A.heap[w.heap.size + 1]? = some (.cells #[.int .i64 0, .string ⟨#[]⟩, .int .i64 0, .slice none 0 0] 39 (0, 0)) := by
    refine ⟨_, rfl, ((Below.refl _ _).alloc (Nat.le_refl _) _).alloc (by simp) _, by simp, ?_, ?_⟩
    · exact (Below.heap_alloc _ _ _ (by simp)).trans (new_block w _)
    · have := new_block (w.alloc (.cells #[.slice fa fs.length fc, .map (some b)] 58)) (.cells #[.int .i64 0, .string ⟨#[]⟩, .int .i64 0, .slice none 0 0] 39)
      simpa using this
  obtain ⟨A, hA, hbA, hsA, hB, hR⟩ := hA
  have HA : Hid (Below w.heap.size w A ∧ A.heap.size = w.heap.size + 2 ∧ A.heap[w.heap.size]? = some (.cells #[.slice fa fs.length fc, .map (some b)] 58 (0, 0)) ∧ A.heap[w.heap.size + 1]? = some (.cells #[.int .i64 0, .string ⟨#[]⟩, .int .i64 0, .slice none 0 0] 39 (0, 0))) := ⟨hbA, hsA, hB, hR⟩
  obtain ⟨s0, q0, -⟩ := hr 0 h0
  rw [Nat.zero_mul, Nat.add_zero] at q0
  have q0 := (hbA.cell (p := ⟨g, o, none⟩) (hS g s0)).trans q0
  have j1 : (0 : Int) < (cs.length : Int) := by omega
  have HC : Hid (cs[0].1 ≠ []) := hc
  have e1 : cs[0].1.isEmpty = false := by simpa using hc
  clear hbA hsA hB hR hM hr hS hF hK
  clear hc
  generalize cs[0].1 = con at *
  go_enter Try.func56, Try.ntmps56
  go_upto_region 1 with fail
  rw [← hA]
  clear hA
  go_wp2
  clear q0
  go_loopw [6, 15] (fun gv iv wr => ∃ i : Nat, i ≤ cs.length ∧ gv = .int .i64 (gapP k con (cs.take i) 0 : Nat) ∧ iv = .int .i64 i ∧ Hid (Below A.heap.size A wr)) (fun _ iv _ => cs.length - (intOf iv).toNat)
  case atStart => exact ⟨0, by omega, by go_num, by go_num, Below.refl _ _⟩
  case round =>
    obtain ⟨i, hi, rfl, rfl, HT⟩ := hrel
    have HBw : Hid (Below w.heap.size w wr) := HA.out.1.trans (HT.out.mono (by have := HA.out.2.1; omega))
    by_cases hil : i < cs.length
    · obtain ⟨s0, q0, q1, hnl, a, b', pa', pl', pc', ca', cl', cc', ea', el', ec', q2, q3, q4, q5, q6⟩ := HR.out i hil
      have hk := Keeps.of HBw.out HS.out
      have q0 := (hk.cell (p := ⟨g, o + i * 7, none⟩) s0).trans q0
      have q1 := (hk.cell (p := ⟨g, o + i * 7 + 1, none⟩) s0).trans q1
      have q2 := (hk.cell (p := ⟨g, o + i * 7 + 2, none⟩) s0).trans q2
      have q3 := (hk.cell (p := ⟨g, o + i * 7 + 3, none⟩) s0).trans q3
      have q4 := (hk.cell (p := ⟨g, o + i * 7 + 4, none⟩) s0).trans q4
      have q5 := (hk.cell (p := ⟨g, o + i * 7 + 5, none⟩) s0).trans q5
      have q6 := (hk.cell (p := ⟨g, o + i * 7 + 6, none⟩) s0).trans q6
      have hW1 : ∃ W1, W1 = wr.alloc (Obj.cells #[.string ⟨cs[i].1.toArray⟩, .int .i64 cs[i].2, .int .i64 a, .int .i64 b', .slice pa' pl' pc', .slice ca' cl' cc', .slice ea' el' ec'] 53) ∧ Below wr.heap.size wr W1 ∧ W1.heap.size = wr.heap.size + 1 ∧ W1.cell? ⟨wr.heap.size, 0, none⟩ = some (.string ⟨cs[i].1.toArray⟩) := ⟨_, rfl, (Below.refl _ _).alloc (Nat.le_refl _) _, by simp, heap_cell' (new_block' wr _) rfl⟩
      obtain ⟨W1, hW1, hb1, hsz1, x1⟩ := hW1
      have hM1 : MapK W1 b k := HM.out.on (((hb1.block b (by have := Mv.lt HM.out; have := HBw.out.size; omega)).trans (HBw.out.block b (Mv.lt HM.out))))
      have hl := hM1.look1 cs[i].1 hnl
      unfold kV at hl
      have hB1 := (hb1.block w.heap.size (by have := HT.out.size; have := HA.out.2.1; omega)).trans ((HT.out.block w.heap.size (by have := HA.out.2.1; omega)).trans HA.out.2.2.1)
      have d1 := heap_cell hB1 (i := 1) rfl
      have hfl := fld1 (looks k cs[i].1).1 (looks k cs[i].1).2.1 (looks k cs[i].1).2.2 W1
      have HB1 : Hid (Below A.heap.size A W1) := HT.out.trans (hb1.mono HT.out.size)
      have HSN := gapP_snoc k con cs i hil
      have hgle := gapP_le k con (cs.take i) 0
      have hgl2 : (cs.take i).length ≤ 200 := by rw [List.length_take]; omega
      have i1 : (0 : Int) ≤ (i : Int) := by omega
      have i2 : (i : Int) < (cs.length : Int) := by omega
      generalize gapP k con (cs.take i) 0 = G at *
      have hGw : IntKind.i64.wrap ((G : Int) + 1) = ((G + 1 : Nat) : Int) := by rw [IntKind.wrap_i64]; omega
      by_cases hcg : (looks k cs[i].1).2.1 = G
      · rw [if_pos (.inr ⟨HC.out, hcg⟩)] at HSN
        have HS2 : Hid (gapP k con (cs.take (i + 1)) 0 = G + 1) := HSN
        rw [hcg] at hl hfl
        clear HSN hcg hk hb1 hgle hgl2 hM1 hB1 hsz1
        generalize cs[i].2 = num at *
        generalize (looks k cs[i].1).1 = l1 at *
        generalize (looks k cs[i].1).2.2 = l3 at *
        generalize cs[i].1 = nmi at *
        go_upto_region 5 with fail
        rw [← hW1]
        clear hW1 q0 q1 q2 q3 q4 q5 q6
        go_wp2
        refine ⟨⟨i + 1, hil, ?_, by go_num, HB1.out⟩, by simp [intOf]; omega⟩
        rw [HS2.out]
        rfl
      · rw [if_neg (by have := HC.out; simp [hcg, this])] at HSN
        have HS2 : Hid (gapP k con (cs.take (i + 1)) 0 = G) := HSN
        have ecg : ((((looks k cs[i].1).2.1 : Nat) : Int) == (G : Int)) = false := by
          rw [beq_eq_false_iff_ne]
          omega
        clear HSN hk hb1 hgle hgl2 hM1 hB1 hsz1
        generalize cs[i].2 = num at *
        generalize (looks k cs[i].1).1 = l1 at *
        generalize (looks k cs[i].1).2.1 = l2 at *
        generalize (looks k cs[i].1).2.2 = l3 at *
        generalize cs[i].1 = nmi at *
        go_upto_region 5 with fail
        rw [← hW1]
        clear hW1 q0 q1 q2 q3 q4 q5 q6
        go_wp2
        refine ⟨⟨i + 1, hil, ?_, by go_num, HB1.out⟩, by simp [intOf]; omega⟩
        rw [HS2.out]
    · obtain rfl : i = cs.length := by omega
      rw [List.take_length]
      have hBr := (HT.out.block w.heap.size (by have := HA.out.2.1; omega)).trans HA.out.2.2.1
      have d0 := heap_cell hBr (i := 0) rfl
      have d1 := heap_cell hBr (i := 1) rfl
      have HRr : Hid (wr.heap[w.heap.size + 1]? = some (.cells #[.int .i64 0, .string ⟨#[]⟩, .int .i64 0, .slice none 0 0] 39 (0, 0))) := (HT.out.block (w.heap.size + 1) (by have := HA.out.2.1; omega)).trans HA.out.2.2.2
      have HZ : Hid (w.heap.size + 2 ≤ wr.heap.size) := by
        show _ ≤ _
        have := HT.out.size
        have := HA.out.2.1
        omega
      obtain ⟨h1, h2, hnm⟩ := HIN.out
      obtain ⟨gf, of, hfe, gs, os, cp1, ad2, cp2, hgf, hgs, k0, k1, k2, hln⟩ : ∃ gf of, fa = some ⟨gf, of, none⟩ ∧ ∃ gs os cp1 ad2 cp2, gf < w.heap.size ∧ gs < w.heap.size ∧ w.cell? ⟨gf, of + (looks k con).1 * 2, none⟩ = some (.slice (some ⟨gs, os, none⟩) fs[(looks k con).1].1.length cp1) ∧ w.cell? ⟨gf, of + (looks k con).1 * 2 + 1, none⟩ = some (.slice ad2 fs[(looks k con).1].2.length cp2) ∧ w.cell? ⟨gs, os + gapP k con cs 0, none⟩ = some (.string ⟨nm.toArray⟩) ∧ nm.length < 140737488355328 := by
        rcases HFA.out with ⟨e, _⟩ | ⟨g', o', cap', he, _, _, hj⟩
        · rw [e] at h1; simp at h1
        · obtain ⟨hsg, ⟨ad, cp, hc0, hstr⟩, ad', cp', hc1, _⟩ := hj _ h1
          rcases hstr with ⟨e, _⟩ | ⟨g2, o2, cap2, hv, _, _, hj2⟩
          · rw [e] at h2; simp at h2
          · have h3 := hj2 _ h2
            rw [Nat.mul_one, ← hnm] at h3
            injection hv with e5 _ e6
            injection he with e7 _ _
            subst e5 e6
            exact ⟨g', o', e7, g2, o2, cp, ad', cp', HS.out _ hsg, HS.out _ h3.1, hc0, hc1, h3.2.1, h3.2.2⟩
      subst hfe
      have HLEN : Hid (nm.length < 140737488355328) := hln
      have hd : Below wr.heap.size wr wr.drew := ⟨rfl, rfl, rfl, Nat.le_refl _, fun _ _ => rfl⟩
      have CF2 := family_at (w := wr.drew) (b := b) (k := k) gf of fs.length fc con (Nat.lt_of_lt_of_le hgf HBw.out.size) (HM.out.on (HBw.out.block b (Mv.lt HM.out))) HNM.out h1 (some ⟨gs, os, none⟩) ad2 _ cp1 _ cp2 ((HBw.out.cell (p := ⟨gf, of + (looks k con).1 * 2, none⟩) hgf).trans k0) ((HBw.out.cell (p := ⟨gf, of + (looks k con).1 * 2 + 1, none⟩) hgf).trans k1)
      have CP : ∀ W', Below wr.heap.size wr W' → Calls Try.prog 55 #[.agg #[.slice (some ⟨gf, of, none⟩) fs.length fc, .map (some b)], .string ⟨nm.toArray⟩, .int .i64 0] W' fun r w' => Below W'.heap.size W' w' ∧ ∃ v, r = .returned v ∧ BareV w' W'.heap.size (patOf k (nm, 0)) v := fun W' hb => patOf_any (some ⟨gf, of, none⟩) fs.length fc (nm, 0) ((HM.out.on (HBw.out.block b (Mv.lt HM.out))).on (hb.block b (by have := Mv.lt HM.out; have := HBw.out.size; omega))) HLEN.out (Nat.le_trans (looks_fields HK.out nm) (by omega)) (fun _ => rfl)
      have HH : Hid (∀ w', Below wr.heap.size wr w' → w'.cell? ⟨w.heap.size, 0, none⟩ = some (.slice (some ⟨gf, of, none⟩) fs.length fc) ∧ w'.cell? ⟨w.heap.size, 1, none⟩ = some (.map (some b)) ∧ w'.cell? ⟨gs, os + gapP k con cs 0, none⟩ = some (.string ⟨nm.toArray⟩)) := fun w' h => ⟨(h.cell (p := ⟨w.heap.size, 0, none⟩) (by have := HZ.out; show w.heap.size < _; omega)).trans d0, (h.cell (p := ⟨w.heap.size, 1, none⟩) (by have := HZ.out; show w.heap.size < _; omega)).trans d1, (h.cell (p := ⟨gs, os + gapP k con cs 0, none⟩) (by have := HZ.out; show gs < _; omega)).trans ((HBw.out.cell (p := ⟨gs, os + gapP k con cs 0, none⟩) hgs).trans k2)⟩
      generalize fs[(looks k con).1] = f at *
      generalize gapP k con cs 0 = G at *
      have j3 : (0 : Int) ≤ (G : Int) := by omega
      have j4 : (G : Int) < (f.1.length : Int) := by omega
      have fl1 : ∀ a b c d W', (Instr.field 47 (.agg #[.slice a f.1.length b, .slice c f.2.length d]) 0).run Try.prog W' = .ok (.slice a f.1.length b) W' := fun a b c d W' => fld47 a b c d f.1.length f.2.length W'
      have hgne : gs ≠ w.heap.size + 1 := by omega
      have hgne2 : (gs = w.heap.size + 1) = False := by simp; omega
      clear hBr h1 h2 hnm d0 d1 HIN k0 k1 k2 hln hgf
      have HST : Hid (∀ (W' : World) (v0 v1 v2 v3 : Value), W'.cell? ⟨w.heap.size, 0, none⟩ = some (.slice (some ⟨gf, of, none⟩) fs.length fc) ∧ W'.cell? ⟨w.heap.size, 1, none⟩ = some (.map (some b)) ∧ W'.cell? ⟨gs, os + G, none⟩ = some (.string ⟨nm.toArray⟩) → ((((W'.setCell ⟨w.heap.size + 1, 0, none⟩ v0).setCell ⟨w.heap.size + 1, 1, none⟩ v1).setCell ⟨w.heap.size + 1, 2, none⟩ v2).setCell ⟨w.heap.size + 1, 3, none⟩ v3).cell? ⟨w.heap.size, 0, none⟩ = some (.slice (some ⟨gf, of, none⟩) fs.length fc) ∧ ((((W'.setCell ⟨w.heap.size + 1, 0, none⟩ v0).setCell ⟨w.heap.size + 1, 1, none⟩ v1).setCell ⟨w.heap.size + 1, 2, none⟩ v2).setCell ⟨w.heap.size + 1, 3, none⟩ v3).cell? ⟨w.heap.size, 1, none⟩ = some (.map (some b)) ∧ ((((W'.setCell ⟨w.heap.size + 1, 0, none⟩ v0).setCell ⟨w.heap.size + 1, 1, none⟩ v1).setCell ⟨w.heap.size + 1, 2, none⟩ v2).setCell ⟨w.heap.size + 1, 3, none⟩ v3).cell? ⟨gs, os + G, none⟩ = some (.string ⟨nm.toArray⟩)) := fun W' v0 v1 v2 v3 h => by
        have e : ∀ p : Addr, p.block ≠ w.heap.size + 1 → ((((W'.setCell ⟨w.heap.size + 1, 0, none⟩ v0).setCell ⟨w.heap.size + 1, 1, none⟩ v1).setCell ⟨w.heap.size + 1, 2, none⟩ v2).setCell ⟨w.heap.size + 1, 3, none⟩ v3).cell? p = W'.cell? p := fun p hp => World.cell?_of_block (by
          rw [Below.heap_setCell _ _ _ _ hp, Below.heap_setCell _ _ _ _ hp, Below.heap_setCell _ _ _ _ hp, Below.heap_setCell _ _ _ _ hp])
        exact ⟨(e ⟨w.heap.size, 0, none⟩ (by simp)).trans h.1, (e ⟨w.heap.size, 1, none⟩ (by simp)).trans h.2.1, (e ⟨gs, os + G, none⟩ hgne).trans h.2.2⟩
      go_upto_region 10 with fail
      go_region_held3 (fun w' => w'.cell? ⟨w.heap.size, 0, none⟩ = some (.slice (some ⟨gf, of, none⟩) fs.length fc) ∧ w'.cell? ⟨w.heap.size, 1, none⟩ = some (.map (some b)) ∧ w'.cell? ⟨gs, os + G, none⟩ = some (.string ⟨nm.toArray⟩)) (first | exact HH.out _ hd | assumption | exact HH.out _ hb70 | exact HH.out _ hb55 | exact HST.out _ _ _ _ _ (HH.out _ hb55) | go_keep)
        (first
          | (go_at_call 70; (with_reducible refine Calls.mono CF2 ?_); rintro e' w7 ⟨hb7, rfl⟩; have hb70 : Below wr.heap.size wr w7 := hd.trans hb7)
          | (go_at_call 55; (with_reducible refine Calls.mono (CP _ hb70) ?_); rintro e' w2 ⟨hb2, v, rfl, ad, cp, rfl, hbare⟩; have hb55 : Below wr.heap.size wr w2 := hb70.trans (hb2.mono hb70.size); have hR2 := (hb55.block (w.heap.size + 1) (by have := HZ.out; omega)).trans HRr.out; have s0 := heap_cell hR2 (i := 0) rfl; have s1 := heap_cell hR2 (i := 1) rfl; have s2 := heap_cell hR2 (i := 2) rfl; have s3 := heap_cell hR2 (i := 3) rfl; have z0 := heap_frozen (o := 0) hR2; have z1 := heap_frozen (o := 1) hR2; have z2 := heap_frozen (o := 2) hR2; have z3 := heap_frozen (o := 3) hR2))
      all_goals
        have hz := HZ.out
        have hz7 := hb70.size
        obtain ⟨U, hU, hUR, hUb, hUv⟩ := bare_end (w := w) (w1 := w7) hR2 (HBw.out.trans (hb55.mono HBw.out.size)) (by omega) (by omega) hbare
        go_wp2
        rw [← hU]
        have u0 := heap_cell hUR (i := 0) rfl
        have u1 := heap_cell hUR (i := 1) rfl
        have u2 := heap_cell hUR (i := 2) rfl
        have u3 := heap_cell hUR (i := 3) rfl
        refine bodyPost_ret (v := .agg #[.int .i64 (patOf k (nm, 0)).1.1, .string ⟨(patOf k (nm, 0)).1.2.1.toArray⟩, .int .i64 (patOf k (nm, 0)).1.2.2, .slice ad (patOf k (nm, 0)).2 cp]) (by simp [results, Try.results56, go_sem, u0, u1, u2, u3]) rfl ?_
        exact ⟨hUb, _, rfl, hUv⟩
end Go.Proofs.Ytpdmkhnonbbhnaa
