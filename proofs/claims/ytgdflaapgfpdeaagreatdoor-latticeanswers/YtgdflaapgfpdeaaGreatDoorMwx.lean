/- The reference's open: types that are no functions. The reference's open: lists, functions; every type. The reference's open: functions; every type. The reference's Open and Size. The law's own: awake. -/
import Derived.Test.YtgdflaapgfpdeaaGreatDoorMvx
namespace Go.Proofs.YtgdflaapgfpdeaaGreatDoor
open Go.RowKit

/-- A type that may be, without variables. -/
def GndR : (d : Nat) → Tn d → Prop
  | 0, _ => False
  | d + 1, t => (t.1.1 = 1 ∨ t.1.1 = 4) ∨ (t.1.1 = 3 ∧ ∃ a b, t.2 = [a, b] ∧ GndR d a ∧ GndR d b)
theorem form_gndR : ∀ (d : Nat) (t : Tn d), formB d t = true → NoVar (flat d t) → GndR d t
  | 0, _, h, _ => by cases h
  | d + 1, t, h, hv => by
    have e : flat (d + 1) t = (t.1.1, t.1.2, t.2.length) :: flats d t.2 := rfl
    rw [e] at hv
    have h2 : t.1.1 ≠ 2 := hv _ List.mem_cons_self
    by_cases h3 : t.1.1 = 3
    · unfold formB at h
      rw [if_neg (by omega), if_neg (by omega), if_pos h3] at h
      simp only [Bool.and_eq_true, decide_eq_true_eq, List.all_eq_true] at h
      obtain ⟨⟨_, h4⟩, h5⟩ := h
      match hts : t.2, h4 with
      | [a, b], _ =>
        rw [hts] at h5 hv
        have e2 : flats d [a, b] = flat d a ++ flat d b := by
          rw [flats_cons, flats_cons, flats_nil, List.append_nil]
        rw [e2] at hv
        exact .inr ⟨h3, a, b, hts, form_gndR d a (h5 a (by simp)) (fun y hy => hv y (by simp [hy])), form_gndR d b (h5 b (by simp)) (fun y hy => hv y (by simp [hy]))⟩
    · unfold formB at h
      by_cases h1 : t.1.1 = 1
      · exact .inl (.inl h1)
      · by_cases h4 : t.1.1 = 4
        · exact .inl (.inr h4)
        · rw [if_neg h1, if_neg h2, if_neg h3, if_neg h4] at h
          simp at h
def OpenC (d : Nat) (t : Tn d) : Prop := ∀ (x : Value) (w : World), TyAt w w.heap.size d x t → Calls Tryz.prog 40 #[x] w fun r w' => OpPost (ordD d t) w r w'
theorem open_boxes (w : World) (k : Int) (n : ByteArray) (ad : Option Addr) (l cap : Nat) : ∃ W X L, W = (w.alloc (.cells #[.int .i64 k, .string n, .slice ad l cap] 24)).alloc (.cells #[.int .i64 0, .slice none 0 0, .slice none 0 0] 47) ∧ X = w.heap.size ∧ L = w.heap.size + 1 ∧ W.heap.size = w.heap.size + 2 ∧ Below w.heap.size w W ∧ W.heap[X]? = some (.cells #[.int .i64 k, .string n, .slice ad l cap] 24 (0, 0)) ∧ W.heap[L]? = some (.cells #[.int .i64 0, .slice none 0 0, .slice none 0 0] 47 (0, 0)) :=
  ⟨_, _, _, rfl, rfl, rfl, by rw [World.size_alloc, World.size_alloc], ((Below.refl _ _).alloc (Nat.le_refl _) _).alloc (by rw [World.size_alloc]; omega) _, (Below.heap_alloc _ _ _ (by rw [World.size_alloc]; omega)).trans (new_blk _ _), al1 _ _ _⟩
/-- A lattice is written into its place. -/
theorem put3 {wr : World} {L : Nat} {a b c a' b' c' : Value} (h : wr.heap[L]? = some (.cells #[a, b, c] 47 (0, 0))) : ∃ w5, w5 = ((wr.setCell ⟨L, 0, none⟩ a').setCell ⟨L, 1, none⟩ b').setCell ⟨L, 2, none⟩ c' ∧ w5.cell? ⟨L, 0, none⟩ = some a' ∧ w5.cell? ⟨L, 1, none⟩ = some b' ∧ w5.cell? ⟨L, 2, none⟩ = some c' ∧ Hid (∀ y, y ≠ L → w5.heap[y]? = wr.heap[y]?) ∧ Hid (w5.heap.size = wr.heap.size) ∧ Hid (∀ B w0, B ≤ L → Below B w0 wr → Below B w0 w5) := by
  have h5 : (((wr.setCell ⟨L, 0, none⟩ a').setCell ⟨L, 1, none⟩ b').setCell ⟨L, 2, none⟩ c').heap[L]? = some (.cells #[a', b', c'] 47 (0, 0)) := setCell_block (setCell_block (setCell_block h))
  refine ⟨_, rfl, heap_cl h5 rfl, heap_cl h5 rfl, heap_cl h5 rfl, fun y hy => ?_, ?_, fun B w0 hB hb => ((hb.setCell (show B ≤ L from hB) _).setCell (show B ≤ L from hB) _).setCell (show B ≤ L from hB) _⟩
  · rw [Below.heap_setCell _ _ _ _ (by show y ≠ L; exact hy), Below.heap_setCell _ _ _ _ (by show y ≠ L; exact hy), Below.heap_setCell _ _ _ _ (by show y ≠ L; exact hy)]
  · show _ = _
    rw [World.size_setCell, World.size_setCell, World.size_setCell]
theorem chain_box {w : World} (n : Nat) (hn : n = 2 ∨ n = 4) : Calls Tryz.prog 49 #[.int .i64 n] w fun r w' => ∃ (a1 : Option Addr) (l1 d1 : Nat) (a2 : Option Addr) (l2 d2 : Nat), r = .returned (.agg #[.int .i64 n, .slice a1 l1 d1, .slice a2 l2 d2]) ∧ Hid (Below w.heap.size w w') ∧ Hid (LatA w' (fun y => w.heap.size ≤ y ∧ y < w'.heap.size) (.agg #[.int .i64 n, .slice a1 l1 d1, .slice a2 l2 d2]) (chainP n) []) :=
  (chain_ref n hn).mono fun r w' ⟨h1, x, h2, h3⟩ => by
    obtain ⟨a1, l1, d1, a2, l2, d2, rfl⟩ := latA_box h3
    rw [chain_len] at h2 h3
    exact ⟨a1, l1, d1, a2, l2, d2, h2, h1, h3⟩
/-- The end of open: what was written is the answer. -/
theorem op_end {w w0 w4 w5 : World} {L : Nat} {n : Int} {a1 a2 : Option Addr} {l1 c1 l2 c2 : Nat} {ok : Bool} {od od' : Option OrdD} (hL : L < w0.heap.size) (hw : w.heap.size ≤ L) (h : LtP w0 w4 (.agg #[.int .i64 n, .slice a1 l1 c1, .slice a2 l2 c2]) ok od) (e : ok = true ∨ od = none → od' = od) (hb : Below w.heap.size w w4) (hk : ∀ y, y ≠ L → w5.heap[y]? = w4.heap[y]?) (hs : w5.heap.size = w4.heap.size) (h5 : ∀ B w0, B ≤ L → Below B w0 w4 → Below B w0 w5) : OpPost od' w (.returned (.tuple #[.agg #[.int .i64 n, .slice a1 l1 c1, .slice a2 l2 c2], .bool ok])) w5 := by
  refine ⟨_, _, _, _, _, _, _, _, rfl, h5 _ _ hw hb, fun hok => ?_, fun hok => ?_⟩
  · obtain ⟨D, h1, h2, h3⟩ := h.1 hok
    exact ⟨D, by rw [e (.inl hok), h1], h2.on (fun y hy => hk y (by have := hy.1; omega)) (fun y hy => ⟨by have := hy.1; omega, by have := hy.2; omega⟩), h3⟩
  · rw [e (.inr (h.2 hok)), h.2 hok]
theorem chain_ltp {w w' : World} {x : Value} {n : Nat} (hn : n = 2 ∨ n = 4) (h : LatA w' (fun y => w.heap.size ≤ y ∧ y < w'.heap.size) x (chainP n) []) : LtP w w' x true (some (chainP n, none)) := ⟨fun _ => ⟨_, rfl, h, chain_lat (by omega) (by omega)⟩, fun h => by cases h⟩
set_option maxHeartbeats 8000000 in
set_option maxRecDepth 10000 in
theorem open_plain {d : Nat} {k : Int} {n : List UInt8} {ts : List (Tn d)} (hk : k = 1 ∨ (k = 4 ∧ n ≠ [76, 105, 115, 116])) : OpenC (d + 1) ((k, n), ts) := by
  intro x w hx
  obtain ⟨u, rfl, hn1, hn2, hrow⟩ := hx
  obtain ⟨ad, cap, rfl⟩ := hrow.len
  obtain ⟨W, X, L, hW, hX, hL, hs, hBW, hXW, hLW⟩ := open_boxes w k ⟨n.toArray⟩ ad ts.length cap
  have c0 : W.cell? ⟨X, 0, none⟩ = some (.int .i64 k) := heap_cl hXW rfl
  have c1 : W.cell? ⟨X, 1, none⟩ = some (.string ⟨n.toArray⟩) := heap_cl hXW rfl
  have C2 : Calls Tryz.prog 49 #[.int .i64 2] W fun r w' => ∃ (a1 : Option Addr) (l1 d1 : Nat) (a2 : Option Addr) (l2 d2 : Nat), r = .returned (.agg #[.int .i64 2, .slice a1 l1 d1, .slice a2 l2 d2]) ∧ Hid (Below W.heap.size W w') ∧ Hid (LatA w' (fun y => W.heap.size ≤ y ∧ y < w'.heap.size) (.agg #[.int .i64 2, .slice a1 l1 d1, .slice a2 l2 d2]) (chainP 2) []) := chain_box 2 (.inl rfl)
  have HEX : Hid (X = w.heap.size ∧ L = w.heap.size + 1 ∧ W.heap.size = w.heap.size + 2) := ⟨hX, hL, hs⟩
  have HBW : Hid (Below w.heap.size w W) := hBW
  have HLW : Hid (W.heap[L]? = some (.cells #[.int .i64 0, .slice none 0 0, .slice none 0 0] 47 (0, 0))) := hLW
  have HOD : Hid (ordD (d + 1) ((k, n), ts) = some (chainP 2, none)) := by
    show (if k = 3 then _ else if k = 4 ∧ n = [76, 105, 115, 116] then _ else _) = _
    rw [if_neg (by omega), if_neg (fun h => by rcases hk with hk | hk; omega; exact hk.2 h.2)]
  have HLL : Hid (∀ w2 : World, Below W.heap.size W w2 → w2.heap[L]? = some (.cells #[.int .i64 0, .slice none 0 0, .slice none 0 0] 47 (0, 0))) := fun w2 hb => (hb.block L (lt_heap hLW)).trans hLW
  clear hn1 hn2 hrow hX hL hs hBW hXW hLW
  go_enter Tryz.func40, Tryz.ntmps40
  go_upto_region 1 with fail
  rw [← hW, ← HEX.out.2.1, ← HEX.out.1]
  clear hW
  by_cases hk1 : k = 1
  · have e1 : (k == 1) = true := by simp [hk1]
    clear hk hk1
    go_wp2_with (first | (go_at_call 49; (with_reducible refine Calls.mono C2 ?_); rintro e' w2 ⟨a1, l1, d1, a2, l2, d2, rfl, HB2, HT2⟩; have f0 : w2.frozen? ⟨L, 0, none⟩ = false := heap_frozen (HLL.out w2 HB2.out); have f1 : w2.frozen? ⟨L, 1, none⟩ = false := heap_frozen (HLL.out w2 HB2.out); have f2 : w2.frozen? ⟨L, 2, none⟩ = false := heap_frozen (HLL.out w2 HB2.out); have x0 : w2.cell? ⟨L, 0, none⟩ = some (.int .i64 0) := heap_cl (HLL.out w2 HB2.out) rfl; have x1 : w2.cell? ⟨L, 1, none⟩ = some (.slice none 0 0) := heap_cl (HLL.out w2 HB2.out) rfl; have x2 : w2.cell? ⟨L, 2, none⟩ = some (.slice none 0 0) := heap_cl (HLL.out w2 HB2.out) rfl))
    have hL2 := HLL.out w2 HB2.out
    have hb2 : Below w.heap.size w w2 := HBW.out.trans (HB2.out.mono HBW.out.size)
    obtain ⟨w5, hw5, z0, z1, z2, HK5, HS5, HB5⟩ := put3 (a' := .int .i64 2) (b' := .slice a1 l1 d1) (c' := .slice a2 l2 d2) hL2
    rw [← hw5]
    clear hw5
    refine bodyPost_ret (v := .tuple #[.agg #[.int .i64 2, .slice a1 l1 d1, .slice a2 l2 d2], .bool true]) (by simp [results, Tryz.results40, go_sem, z0, z1, z2]) rfl ?_
    obtain ⟨s1, s2, s3⟩ := HEX.out
    exact op_end (w0 := W) (by omega) (by omega) (chain_ltp (.inl rfl) HT2.out) (fun _ => HOD.out) hb2 HK5.out HS5.out HB5.out
  · have e1 : (k == 1) = false := by simp [hk1]
    obtain ⟨hk4, hn⟩ := hk.resolve_left hk1
    have e4 : (k == 4) = true := by simp [hk4]
    have e5 : (n == [76, 105, 115, 116]) = false := by simp [hn]
    clear hk hk1 hk4 hn
    go_wp2_with (first | (go_at_call 49; (with_reducible refine Calls.mono C2 ?_); rintro e' w2 ⟨a1, l1, d1, a2, l2, d2, rfl, HB2, HT2⟩; have f0 : w2.frozen? ⟨L, 0, none⟩ = false := heap_frozen (HLL.out w2 HB2.out); have f1 : w2.frozen? ⟨L, 1, none⟩ = false := heap_frozen (HLL.out w2 HB2.out); have f2 : w2.frozen? ⟨L, 2, none⟩ = false := heap_frozen (HLL.out w2 HB2.out); have x0 : w2.cell? ⟨L, 0, none⟩ = some (.int .i64 0) := heap_cl (HLL.out w2 HB2.out) rfl; have x1 : w2.cell? ⟨L, 1, none⟩ = some (.slice none 0 0) := heap_cl (HLL.out w2 HB2.out) rfl; have x2 : w2.cell? ⟨L, 2, none⟩ = some (.slice none 0 0) := heap_cl (HLL.out w2 HB2.out) rfl))
    have hL2 := HLL.out w2 HB2.out
    have hb2 : Below w.heap.size w w2 := HBW.out.trans (HB2.out.mono HBW.out.size)
    obtain ⟨w5, hw5, z0, z1, z2, HK5, HS5, HB5⟩ := put3 (a' := .int .i64 2) (b' := .slice a1 l1 d1) (c' := .slice a2 l2 d2) hL2
    rw [← hw5]
    clear hw5
    refine bodyPost_ret (v := .tuple #[.agg #[.int .i64 2, .slice a1 l1 d1, .slice a2 l2 d2], .bool true]) (by simp [results, Tryz.results40, go_sem, z0, z1, z2]) rfl ?_
    obtain ⟨s1, s2, s3⟩ := HEX.out
    exact op_end (w0 := W) (by omega) (by omega) (chain_ltp (.inl rfl) HT2.out) (fun _ => HOD.out) hb2 HK5.out HS5.out HB5.out
end Go.Proofs.YtgdflaapgfpdeaaGreatDoor

namespace Go.Proofs.YtgdflaapgfpdeaaGreatDoor
open Go.RowKit

theorem ltp_none {w w' : World} {x : Value} : LtP w w' x false none := ⟨fun h => (by cases h), fun _ => rfl⟩
set_option maxHeartbeats 8000000 in
set_option maxRecDepth 10000 in
theorem open_list {d : Nat} {ts : List (Tn d)} : OpenC (d + 1) ((4, [76, 105, 115, 116]), ts) := by
  intro x w hx
  obtain ⟨u, rfl, hn1, hn2, hrow⟩ := hx
  obtain ⟨ad, cap, rfl⟩ := hrow.len
  obtain ⟨W, X, L, hW, hX, hL, hs, hBW, hXW, hLW⟩ := open_boxes w 4 ⟨#[76, 105, 115, 116]⟩ ad ts.length cap
  have c0 : W.cell? ⟨X, 0, none⟩ = some (.int .i64 4) := heap_cl hXW rfl
  have c1 : W.cell? ⟨X, 1, none⟩ = some (.string ⟨#[76, 105, 115, 116]⟩) := heap_cl hXW rfl
  have c2 : W.cell? ⟨X, 2, none⟩ = some (.slice ad ts.length cap) := heap_cl hXW rfl
  have C4 : Calls Tryz.prog 49 #[.int .i64 4] W.drew fun r w' => ∃ (a1 : Option Addr) (l1 d1 : Nat) (a2 : Option Addr) (l2 d2 : Nat), r = .returned (.agg #[.int .i64 4, .slice a1 l1 d1, .slice a2 l2 d2]) ∧ Hid (Below W.drew.heap.size W.drew w') ∧ Hid (LatA w' (fun y => W.drew.heap.size ≤ y ∧ y < w'.heap.size) (.agg #[.int .i64 4, .slice a1 l1 d1, .slice a2 l2 d2]) (chainP 4) []) := chain_box 4 (.inr rfl)
  have HEX : Hid (X = w.heap.size ∧ L = w.heap.size + 1 ∧ W.heap.size = w.heap.size + 2) := ⟨hX, hL, hs⟩
  have HBW : Hid (Below w.heap.size w W) := hBW
  have HOD : Hid (ordD (d + 1) ((4, [76, 105, 115, 116]), ts) = if ts.length = 1 then some (chainP 4, none) else none) := rfl
  have HLL : Hid (∀ w2 : World, Below W.drew.heap.size W.drew w2 → w2.heap[X]? = some (.cells #[.int .i64 4, .string ⟨#[76, 105, 115, 116]⟩, .slice ad ts.length cap] 24 (0, 0)) ∧ w2.heap[L]? = some (.cells #[.int .i64 0, .slice none 0 0, .slice none 0 0] 47 (0, 0))) := fun w2 hb => ⟨(hb.block X (lt_heap hXW)).trans hXW, (hb.block L (lt_heap hLW)).trans hLW⟩
  clear hn1 hn2 hrow hX hL hs hBW hXW hLW
  by_cases hl1 : ts.length = 1
  · rw [if_pos hl1] at HOD
    have i1 : ((ts.length : Int) == 1) = true := by simp [hl1]
    clear hl1
    go_enter Tryz.func40, Tryz.ntmps40
    go_upto_region 1 with fail
    rw [← hW, ← HEX.out.2.1, ← HEX.out.1]
    clear hW
    go_upto_region 4 with fail
    clear c0 c1
    have hS0 : (fun w' : World => w'.cell? ⟨X, 2, none⟩ = some (.slice ad ts.length cap)) W.drew := c2
    refine wp_region_M (S := (fun w' : World => w'.cell? ⟨X, 2, none⟩ = some (.slice ad ts.length cap))) (L := 6) (n := 7) (by kernel_rfl) rfl (by kernel_rfl) ?_
    refine wpAnyK_go (i := 1) (m' := 2) (some 21) (v := .pointer (some ⟨X, 2, none⟩)) rfl rfl (by kernel_rfl) (by kernel_rfl) (by kernel_rfl) (by kernel_rfl) (by kernel_rfl) (fun _ _ _ h => h) (Or.inl ⟨by rfl, ?_⟩) hS0 ?_
    · intro w' hSw
      go_simp
    simp only [Act.put, List.setIfInBounds_toArray, List.set_cons_zero, List.set_cons_succ]
    refine wpAnyK_go (i := 2) (m' := 6) (some 22) (v := .slice ad ts.length cap) rfl rfl (by kernel_rfl) (by kernel_rfl) (by kernel_rfl) (by kernel_rfl) (by kernel_rfl) (fun _ _ _ h => h) (Or.inl ⟨by rfl, ?_⟩) hS0 ?_
    · intro w' hSw
      replace hSw : w'.cell? ⟨X, 2, none⟩ = some (.slice ad ts.length cap) := hSw
      go_simp
    simp only [Act.put, List.setIfInBounds_toArray, List.set_cons_zero, List.set_cons_succ]
    refine wpAnyK_go (i := 3) (m' := 14) (some 23) (v := .int .i64 (ts.length : Int)) rfl rfl (by kernel_rfl) (by kernel_rfl) (by kernel_rfl) (by kernel_rfl) (by kernel_rfl) (fun _ _ _ h => h) (Or.inl ⟨by rfl, ?_⟩) hS0 ?_
    · intro w' hSw
      go_simp
    simp only [Act.put, List.setIfInBounds_toArray, List.set_cons_zero, List.set_cons_succ]
    refine wpAnyK_go (i := 4) (m' := 30) (some 24) (v := .bool true) rfl rfl (by kernel_rfl) (by kernel_rfl) (by kernel_rfl) (by kernel_rfl) (by kernel_rfl) (fun _ _ _ h => h) (Or.inl ⟨by rfl, ?_⟩) hS0 ?_
    · intro w' hSw
      go_simp
    simp only [Act.put, List.setIfInBounds_toArray, List.set_cons_zero, List.set_cons_succ]
    refine wpAnyK_only (i := 0) (m' := 31) (by kernel_rfl) rfl (by kernel_rfl) fun K hK => ?_
    go_simp
    (with_reducible refine Calls.mono C4 ?_)
    rintro e' w2 ⟨a1, l1, d1, a2, l2, d2, rfl, HB2, HT2⟩
    obtain ⟨hX2, hL2⟩ := HLL.out w2 HB2.out
    have hS2 : (fun w' : World => w'.cell? ⟨X, 2, none⟩ = some (.slice ad ts.length cap)) w2 := heap_cl hX2 rfl
    go_simp
    refine hK.out _ _ (fun _ => hS2) ?_
    clear hK K C4 hS0 c2
    have f0 : w2.frozen? ⟨L, 0, none⟩ = false := heap_frozen hL2
    have f1 : w2.frozen? ⟨L, 1, none⟩ = false := heap_frozen hL2
    have f2 : w2.frozen? ⟨L, 2, none⟩ = false := heap_frozen hL2
    have x0 : w2.cell? ⟨L, 0, none⟩ = some (.int .i64 0) := heap_cl hL2 rfl
    have x1 : w2.cell? ⟨L, 1, none⟩ = some (.slice none 0 0) := heap_cl hL2 rfl
    have x2 : w2.cell? ⟨L, 2, none⟩ = some (.slice none 0 0) := heap_cl hL2 rfl
    have hb2 : Below w.heap.size w w2 := HBW.out.drew.trans (HB2.out.mono HBW.out.size)
    have s1 : Hid (L < W.drew.heap.size ∧ w.heap.size ≤ L ∧ X ≠ L) := by
      obtain ⟨s1, s2, s3⟩ := HEX.out
      exact ⟨by show L < W.heap.size; omega, by omega, by omega⟩
    refine wpAnyK_only (i := 5) (m' := 63) (by kernel_rfl) rfl (by kernel_rfl) fun K hK => ?_
    go_simp
    obtain ⟨w5, hw5, z0, z1, z2, HK5, HS5, HB5⟩ := put3 (a' := .int .i64 4) (b' := .slice a1 l1 d1) (c' := .slice a2 l2 d2) hL2
    rw [← hw5]
    clear hw5 x0 x1 x2 f0 f1 f2
    have hS5 : (fun w' : World => w'.cell? ⟨X, 2, none⟩ = some (.slice ad ts.length cap)) w5 := (cell_on (HK5.out X s1.out.2.2) 2).trans hS2
    refine hK.out _ _ (fun _ => hS5) ?_
    clear hK K hS2
    refine wpAnyK_only (i := 6) (m' := 127) (by kernel_rfl) rfl (by kernel_rfl) fun K hK => ?_
    go_simp
    refine hK.out _ _ (fun h => absurd rfl h) ?_
    clear hK K
    refine wpAnyK_done (by kernel_rfl) ?_ _
    clear hS5
    replace hb2 : Hid (Below w.heap.size w w2) := hb2
    go_wp2
    refine bodyPost_ret (v := .tuple #[.agg #[.int .i64 4, .slice a1 l1 d1, .slice a2 l2 d2], .bool true]) (by simp [results, Tryz.results40, go_sem, z0, z1, z2]) rfl ?_
    exact op_end (w0 := W.drew) s1.out.1 s1.out.2.1 (chain_ltp (.inr rfl) HT2.out) (fun _ => HOD.out) hb2.out HK5.out HS5.out HB5.out
  · rw [if_neg hl1] at HOD
    have i1 : ((ts.length : Int) == 1) = false := by simp; omega
    clear hl1
    go_enter Tryz.func40, Tryz.ntmps40
    go_upto_region 1 with fail
    rw [← hW, ← HEX.out.2.1, ← HEX.out.1]
    clear hW
    go_upto_region 4 with fail
    clear c0 c1
    have hS0 : (fun w' : World => w'.cell? ⟨X, 2, none⟩ = some (.slice ad ts.length cap)) W.drew := c2
    refine wp_region_M (S := (fun w' : World => w'.cell? ⟨X, 2, none⟩ = some (.slice ad ts.length cap))) (L := 6) (n := 7) (by kernel_rfl) rfl (by kernel_rfl) ?_
    refine wpAnyK_go (i := 1) (m' := 2) (some 21) (v := .pointer (some ⟨X, 2, none⟩)) rfl rfl (by kernel_rfl) (by kernel_rfl) (by kernel_rfl) (by kernel_rfl) (by kernel_rfl) (fun _ _ _ h => h) (Or.inl ⟨by rfl, ?_⟩) hS0 ?_
    · intro w' hSw
      go_simp
    simp only [Act.put, List.setIfInBounds_toArray, List.set_cons_zero, List.set_cons_succ]
    refine wpAnyK_go (i := 2) (m' := 6) (some 22) (v := .slice ad ts.length cap) rfl rfl (by kernel_rfl) (by kernel_rfl) (by kernel_rfl) (by kernel_rfl) (by kernel_rfl) (fun _ _ _ h => h) (Or.inl ⟨by rfl, ?_⟩) hS0 ?_
    · intro w' hSw
      replace hSw : w'.cell? ⟨X, 2, none⟩ = some (.slice ad ts.length cap) := hSw
      go_simp
    simp only [Act.put, List.setIfInBounds_toArray, List.set_cons_zero, List.set_cons_succ]
    refine wpAnyK_go (i := 3) (m' := 14) (some 23) (v := .int .i64 (ts.length : Int)) rfl rfl (by kernel_rfl) (by kernel_rfl) (by kernel_rfl) (by kernel_rfl) (by kernel_rfl) (fun _ _ _ h => h) (Or.inl ⟨by rfl, ?_⟩) hS0 ?_
    · intro w' hSw
      go_simp
    simp only [Act.put, List.setIfInBounds_toArray, List.set_cons_zero, List.set_cons_succ]
    refine wpAnyK_go (i := 4) (m' := 30) (some 24) (v := .bool false) rfl rfl (by kernel_rfl) (by kernel_rfl) (by kernel_rfl) (by kernel_rfl) (by kernel_rfl) (fun _ _ _ h => h) (Or.inl ⟨by rfl, ?_⟩) hS0 ?_
    · intro w' hSw
      go_simp
    simp only [Act.put, List.setIfInBounds_toArray, List.set_cons_zero, List.set_cons_succ]
    refine wpAnyK_only (i := 0) (m' := 31) (by kernel_rfl) rfl (by kernel_rfl) fun K hK => ?_
    go_simp
    (with_reducible refine Calls.mono C4 ?_)
    rintro e' w2 ⟨a1, l1, d1, a2, l2, d2, rfl, HB2, HT2⟩
    obtain ⟨hX2, hL2⟩ := HLL.out w2 HB2.out
    have hS2 : (fun w' : World => w'.cell? ⟨X, 2, none⟩ = some (.slice ad ts.length cap)) w2 := heap_cl hX2 rfl
    go_simp
    refine hK.out _ _ (fun _ => hS2) ?_
    clear hK K C4 hS0 c2
    have f0 : w2.frozen? ⟨L, 0, none⟩ = false := heap_frozen hL2
    have f1 : w2.frozen? ⟨L, 1, none⟩ = false := heap_frozen hL2
    have f2 : w2.frozen? ⟨L, 2, none⟩ = false := heap_frozen hL2
    have x0 : w2.cell? ⟨L, 0, none⟩ = some (.int .i64 0) := heap_cl hL2 rfl
    have x1 : w2.cell? ⟨L, 1, none⟩ = some (.slice none 0 0) := heap_cl hL2 rfl
    have x2 : w2.cell? ⟨L, 2, none⟩ = some (.slice none 0 0) := heap_cl hL2 rfl
    have hb2 : Below w.heap.size w w2 := HBW.out.drew.trans (HB2.out.mono HBW.out.size)
    have s1 : Hid (L < W.drew.heap.size ∧ w.heap.size ≤ L ∧ X ≠ L) := by
      obtain ⟨s1, s2, s3⟩ := HEX.out
      exact ⟨by show L < W.heap.size; omega, by omega, by omega⟩
    refine wpAnyK_only (i := 5) (m' := 63) (by kernel_rfl) rfl (by kernel_rfl) fun K hK => ?_
    go_simp
    obtain ⟨w5, hw5, z0, z1, z2, HK5, HS5, HB5⟩ := put3 (a' := .int .i64 4) (b' := .slice a1 l1 d1) (c' := .slice a2 l2 d2) hL2
    rw [← hw5]
    clear hw5 x0 x1 x2 f0 f1 f2
    have hS5 : (fun w' : World => w'.cell? ⟨X, 2, none⟩ = some (.slice ad ts.length cap)) w5 := (cell_on (HK5.out X s1.out.2.2) 2).trans hS2
    refine hK.out _ _ (fun _ => hS5) ?_
    clear hK K hS2
    refine wpAnyK_only (i := 6) (m' := 127) (by kernel_rfl) rfl (by kernel_rfl) fun K hK => ?_
    go_simp
    refine hK.out _ _ (fun h => absurd rfl h) ?_
    clear hK K
    refine wpAnyK_done (by kernel_rfl) ?_ _
    clear hS5
    replace hb2 : Hid (Below w.heap.size w w2) := hb2
    go_wp2
    refine bodyPost_ret (v := .tuple #[.agg #[.int .i64 4, .slice a1 l1 d1, .slice a2 l2 d2], .bool false]) (by simp [results, Tryz.results40, go_sem, z0, z1, z2]) rfl ?_
    exact op_end (w0 := W.drew) s1.out.1 s1.out.2.1 ltp_none (fun _ => HOD.out) hb2.out HK5.out HS5.out HB5.out
end Go.Proofs.YtgdflaapgfpdeaaGreatDoor

namespace Go.Proofs.YtgdflaapgfpdeaaGreatDoor
open Go.RowKit

theorem LtP.lat {w w' : World} {x : Value} {D : OrdD} (h : LtP w w' x true (some D)) : LatA w' (fun y => w.heap.size ≤ y ∧ y < w'.heap.size) x D.1 (rsD D) ∧ Lat D.1 := by
  obtain ⟨E, h1, h2, h3⟩ := h.1 rfl
  obtain rfl := Option.some.inj h1
  exact ⟨h2, h3⟩
theorem LtP.is {w w' : World} {x : Value} {od : Option OrdD} (h : LtP w w' x true od) : ∃ D, od = some D := by
  obtain ⟨E, h1, _⟩ := h.1 rfl
  exact ⟨E, h1⟩
set_option maxHeartbeats 8000000 in
set_option maxRecDepth 10000 in
theorem open_fn2 {d : Nat} {n : List UInt8} {a b : Tn d} (ha : OpenC d a) (hb : OpenC d b) : OpenC (d + 1) ((3, n), [a, b]) := by
  intro x w hx
  obtain ⟨u, rfl, hn1, hn2, hrow⟩ := hx
  obtain ⟨ad, cap, rfl, hc⟩ := RowP.cells hrow
  obtain ⟨g, o, rfl, hcap, hgB, hel⟩ := hc (by simp)
  obtain ⟨k0, n0, ad0, len0, cap0, hc0, ht0⟩ := hel 0 (by simp)
  obtain ⟨k1, n1, ad1, len1, cap1, hc1, ht1⟩ := hel 1 (by simp)
  replace ht0 : TyAt w w.heap.size d (.agg #[.int .i64 k0, .string n0, .slice ad0 len0 cap0]) a := ht0
  replace ht1 : TyAt w w.heap.size d (.agg #[.int .i64 k1, .string n1, .slice ad1 len1 cap1]) b := ht1
  replace hcap : 2 ≤ cap := hcap
  obtain ⟨W, X, L, hW, hX, hL, hs, hBW, hXW, hLW⟩ := open_boxes w 3 ⟨n.toArray⟩ (some ⟨g, o, none⟩) 2 cap
  have HEX : Hid (X = w.heap.size ∧ L = w.heap.size + 1 ∧ W.heap.size = w.heap.size + 2) := ⟨hX, hL, hs⟩
  have HOD : Hid (ordD (d + 1) ((3, n), [a, b]) = (ordD d a).bind fun x => (ordD d b).bind fun y => fnD x.1 y.1) := by
    show (if (3 : Int) = 3 then _ else _) = _
    rw [if_pos rfl]
  have CA := ha (.agg #[.int .i64 k0, .string n0, .slice ad0 len0 cap0]) W (TyAt.below hBW hBW.size _ _ _ ht0)
  have HBB : Hid (∀ w2 : World, Below W.heap.size W w2 → Below w.heap.size w w2 ∧ w2.heap[X]? = some (.cells #[.int .i64 3, .string ⟨n.toArray⟩, .slice (some ⟨g, o, none⟩) 2 cap] 24 (0, 0)) ∧ w2.heap[L]? = some (.cells #[.int .i64 0, .slice none 0 0, .slice none 0 0] 47 (0, 0)) ∧ (w2.cell? ⟨g, o + 3, none⟩ = some (.int .i64 k1) ∧ w2.cell? ⟨g, o + 4, none⟩ = some (.string n1) ∧ w2.cell? ⟨g, o + 5, none⟩ = some (.slice ad1 len1 cap1)) ∧ Calls Tryz.prog 40 #[.agg #[.int .i64 k1, .string n1, .slice ad1 len1 cap1]] w2 fun r w' => OpPost (ordD d b) w2 r w') := fun w2 hb2 => by
    have h0 : Below w.heap.size w w2 := hBW.trans (hb2.mono hBW.size)
    obtain ⟨e1, e2, e3⟩ := hc1 w2 h0
    exact ⟨h0, (hb2.block X (lt_heap hXW)).trans hXW, (hb2.block L (lt_heap hLW)).trans hLW, ⟨by simpa using e1, by simpa using e2, by simpa using e3⟩, hb _ w2 (TyAt.below h0 h0.size _ _ _ ht1)⟩
  have c0 : W.cell? ⟨X, 0, none⟩ = some (.int .i64 3) := heap_cl hXW rfl
  have c2 : W.cell? ⟨X, 2, none⟩ = some (.slice (some ⟨g, o, none⟩) 2 cap) := heap_cl hXW rfl
  obtain ⟨e0, e1, e2⟩ := hc0 W hBW
  rw [show o + 0 * 3 = o by omega] at e0 e1 e2
  clear hel hc hc0 hc1 ht0 ht1 hrow hn1 hn2 ha hb hBW hXW hLW hX hL hs hgB
  generalize ordD (d + 1) ((3, n), [a, b]) = od at *
  generalize ordD d a = oa at *
  generalize ordD d b = ob at *
  show Calls Tryz.prog 40 #[.agg #[.int .i64 3, .string ⟨n.toArray⟩, .slice (some ⟨g, o, none⟩) 2 cap]] w fun r w' => OpPost od w r w'
  clear a b
  go_enter Tryz.func40, Tryz.ntmps40
  go_upto_region 1 with fail
  rw [← hW, ← HEX.out.2.1, ← HEX.out.1]
  clear hW
  go_upto_region 8 with (first | (go_at_call 40; (with_reducible refine Calls.mono CA ?_); rintro e' w2 ⟨m1, b1, q1, r1, b2, q2, r2, ok1, rfl, HB2, HT2⟩))
  obtain ⟨P, hP⟩ : ∃ P, P = w2.heap.size := ⟨_, rfl⟩
  obtain ⟨w3, hw3⟩ : ∃ w3, w3 = w2.alloc (.cells #[.int .i64 m1, .slice b1 q1 r1, .slice b2 q2 r2] 47) := ⟨_, rfl⟩
  have hP3 : w3.heap[P]? = some (.cells #[.int .i64 m1, .slice b1 q1 r1, .slice b2 q2 r2] 47 (0, 0)) := by rw [hw3, hP]; exact new_blk _ _
  have hB3 : Below w2.heap.size w2 w3 := by rw [hw3]; exact (Below.refl _ _).alloc (Nat.le_refl _) _
  rw [← hw3, ← hP]
  have HP3 : Hid (w3.heap[P]? = some (.cells #[.int .i64 m1, .slice b1 q1 r1, .slice b2 q2 r2] 47 (0, 0))) := hP3
  have HBW3 : Hid (Below W.heap.size W w3) := HB2.out.trans (hB3.mono HB2.out.size)
  have HT3 : Hid (LtP W w3 (.agg #[.int .i64 m1, .slice b1 q1 r1, .slice b2 q2 r2]) ok1 oa) := ⟨fun h => by
    obtain ⟨D, h1, h2, h3⟩ := HT2.out.1 h
    exact ⟨D, h1, h2.on (fun y hy => hB3.block y hy.2) (fun y hy => ⟨hy.1, Nat.lt_of_lt_of_le hy.2 hB3.size⟩), h3⟩, HT2.out.2⟩
  clear hw3 hP hB3 hP3 HB2 HT2 CA c0 c2 e0 e1 e2
  obtain ⟨p1, p2, p3, ⟨p4, p5, p6⟩, CB⟩ := HBB.out w3 HBW3.out
  cases ok1 with
  | false =>
    have HN : Hid (od = none) := by
      show _ = _
      rw [HOD.out, HT3.out.2 rfl]
      rfl
    have x0 : w3.cell? ⟨L, 0, none⟩ = some (.int .i64 0) := heap_cl p3 rfl
    have x1 : w3.cell? ⟨L, 1, none⟩ = some (.slice none 0 0) := heap_cl p3 rfl
    have x2 : w3.cell? ⟨L, 2, none⟩ = some (.slice none 0 0) := heap_cl p3 rfl
    have f0 : w3.frozen? ⟨L, 0, none⟩ = false := heap_frozen p3
    have f1 : w3.frozen? ⟨L, 1, none⟩ = false := heap_frozen p3
    have f2 : w3.frozen? ⟨L, 2, none⟩ = false := heap_frozen p3
    have hL3 : Hid (w3.heap[L]? = some (.cells #[.int .i64 0, .slice none 0 0, .slice none 0 0] 47 (0, 0))) := p3
    have hb3 : Hid (Below w.heap.size w w3) := p1
    clear p1 p2 p3 p4 p5 p6 CB HBB
    go_wp2
    obtain ⟨w5, hw5, z0, z1, z2, HK5, HS5, HB5⟩ := put3 (a' := .int .i64 0) (b' := .slice none 0 0) (c' := .slice none 0 0) hL3.out
    rw [← hw5]
    clear hw5
    refine bodyPost_ret (v := .tuple #[.agg #[.int .i64 0, .slice none 0 0, .slice none 0 0], .bool false]) (by simp [results, Tryz.results40, go_sem, z0, z1, z2]) rfl ?_
    obtain ⟨s1, s2, s3⟩ := HEX.out
    exact op_end (w0 := W) (by omega) (by omega) ltp_none (fun _ => HN.out) hb3.out HK5.out HS5.out HB5.out
  | true =>
    have c2 : w3.cell? ⟨X, 2, none⟩ = some (.slice (some ⟨g, o, none⟩) 2 cap) := heap_cl p2 rfl
    clear p1 p2 p3
    go_upto_region 11 with (first | (go_at_call 40; (with_reducible refine Calls.mono CB ?_); rintro e' w4 ⟨m2, b3, q3, r3, b4, q4, r4, ok2, rfl, HB4, HT4⟩))
    clear CB c2 p4 p5 p6
    obtain ⟨Q, hQ⟩ : ∃ Q, Q = w4.heap.size := ⟨_, rfl⟩
    obtain ⟨w5, hw5⟩ : ∃ w5, w5 = w4.alloc (.cells #[.int .i64 m2, .slice b3 q3 r3, .slice b4 q4 r4] 47) := ⟨_, rfl⟩
    have hQ5 : w5.heap[Q]? = some (.cells #[.int .i64 m2, .slice b3 q3 r3, .slice b4 q4 r4] 47 (0, 0)) := by rw [hw5, hQ]; exact new_blk _ _
    have hB5 : Below w4.heap.size w4 w5 := by rw [hw5]; exact (Below.refl _ _).alloc (Nat.le_refl _) _
    rw [← hw5, ← hQ]
    have hb35 : Below w3.heap.size w3 w5 := HB4.out.trans (hB5.mono HB4.out.size)
    have HP5 : Hid (w5.heap[P]? = some (.cells #[.int .i64 m1, .slice b1 q1 r1, .slice b2 q2 r2] 47 (0, 0))) := (hb35.block P (lt_heap HP3.out)).trans HP3.out
    have HQ5 : Hid (w5.heap[Q]? = some (.cells #[.int .i64 m2, .slice b3 q3 r3, .slice b4 q4 r4] 47 (0, 0))) := hQ5
    have HBW5 : Hid (Below W.heap.size W w5) := HBW3.out.trans (hb35.mono HBW3.out.size)
    have HT5 : Hid (LtP W w5 (.agg #[.int .i64 m1, .slice b1 q1 r1, .slice b2 q2 r2]) true oa) := ⟨fun h => by
      obtain ⟨D, h1, h2, h3⟩ := HT3.out.1 h
      exact ⟨D, h1, h2.on (fun y hy => hb35.block y hy.2) (fun y hy => ⟨hy.1, Nat.lt_of_lt_of_le hy.2 hb35.size⟩), h3⟩, fun h => by cases h⟩
    have HU5 : Hid (LtP w3 w5 (.agg #[.int .i64 m2, .slice b3 q3 r3, .slice b4 q4 r4]) ok2 ob) := ⟨fun h => by
      obtain ⟨D, h1, h2, h3⟩ := HT4.out.1 h
      exact ⟨D, h1, h2.on (fun y hy => hB5.block y hy.2) (fun y hy => ⟨hy.1, Nat.lt_of_lt_of_le hy.2 hB5.size⟩), h3⟩, HT4.out.2⟩
    clear hw5 hQ hB5 hQ5 HB4 HT4 hb35 HT3 HP3
    obtain ⟨p1, -, p3, -, -⟩ := HBB.out w5 HBW5.out
    clear HBB
    cases ok2 with
    | false =>
      have HN : Hid (od = none) := by
        show _ = _
        rw [HOD.out, HU5.out.2 rfl]
        cases oa <;> rfl
      have x0 : w5.cell? ⟨L, 0, none⟩ = some (.int .i64 0) := heap_cl p3 rfl
      have x1 : w5.cell? ⟨L, 1, none⟩ = some (.slice none 0 0) := heap_cl p3 rfl
      have x2 : w5.cell? ⟨L, 2, none⟩ = some (.slice none 0 0) := heap_cl p3 rfl
      have f0 : w5.frozen? ⟨L, 0, none⟩ = false := heap_frozen p3
      have f1 : w5.frozen? ⟨L, 1, none⟩ = false := heap_frozen p3
      have f2 : w5.frozen? ⟨L, 2, none⟩ = false := heap_frozen p3
      have hL3 : Hid (w5.heap[L]? = some (.cells #[.int .i64 0, .slice none 0 0, .slice none 0 0] 47 (0, 0))) := p3
      have hb3 : Hid (Below w.heap.size w w5) := p1
      clear p1 p3
      go_wp2
      obtain ⟨w6, hw6, z0, z1, z2, HK6, HS6, HB6⟩ := put3 (a' := .int .i64 0) (b' := .slice none 0 0) (c' := .slice none 0 0) hL3.out
      rw [← hw6]
      clear hw6
      refine bodyPost_ret (v := .tuple #[.agg #[.int .i64 0, .slice none 0 0, .slice none 0 0], .bool false]) (by simp [results, Tryz.results40, go_sem, z0, z1, z2]) rfl ?_
      obtain ⟨s1, s2, s3⟩ := HEX.out
      exact op_end (w0 := W) (by omega) (by omega) ltp_none (fun _ => HN.out) hb3.out HK6.out HS6.out HB6.out
    | true =>
      obtain ⟨A, hA⟩ := HT5.out.is
      obtain ⟨C, hC⟩ := HU5.out.is
      subst hA hC
      replace HOD : Hid (od = fnD A.1 C.1) := HOD.out
      obtain ⟨l1, l2⟩ := HT5.out.lat
      obtain ⟨l3, l4⟩ := HU5.out.lat
      have CF := functions_ref (w := w5) (l1.on (Keeps.refl _ _) fun y hy => hy.2) (l3.on (Keeps.refl _ _) fun y hy => hy.2) l2 l4
      have y0 : w5.cell? ⟨P, 0, none⟩ = some (.int .i64 m1) := heap_cl HP5.out rfl
      have y1 : w5.cell? ⟨P, 1, none⟩ = some (.slice b1 q1 r1) := heap_cl HP5.out rfl
      have y2 : w5.cell? ⟨P, 2, none⟩ = some (.slice b2 q2 r2) := heap_cl HP5.out rfl
      have y3 : w5.cell? ⟨Q, 0, none⟩ = some (.int .i64 m2) := heap_cl HQ5.out rfl
      have y4 : w5.cell? ⟨Q, 1, none⟩ = some (.slice b3 q3 r3) := heap_cl HQ5.out rfl
      have y5 : w5.cell? ⟨Q, 2, none⟩ = some (.slice b4 q4 r4) := heap_cl HQ5.out rfl
      have HL5 : Hid (w5.heap[L]? = some (.cells #[.int .i64 0, .slice none 0 0, .slice none 0 0] 47 (0, 0))) := p3
      have HBw : Hid (Below w.heap.size w w5) := p1
      have HSz : Hid (W.heap.size ≤ w5.heap.size) := HBW5.out.size
      clear p1 p3 l1 l2 l3 l4 HT5 HU5
      generalize fnD A.1 C.1 = of at *
      go_wp2_with (first | (go_at_call 50; (with_reducible refine Calls.mono CF ?_); rintro e' w6 ⟨m3, b5, q5, r5, b6, q6, r6, ok3, rfl, HB6, HT6⟩; have hL6 : w6.heap[L]? = some (.cells #[.int .i64 0, .slice none 0 0, .slice none 0 0] 47 (0, 0)) := (HB6.out.block L (lt_heap HL5.out)).trans HL5.out; have f0 : w6.frozen? ⟨L, 0, none⟩ = false := heap_frozen hL6; have f1 : w6.frozen? ⟨L, 1, none⟩ = false := heap_frozen hL6; have f2 : w6.frozen? ⟨L, 2, none⟩ = false := heap_frozen hL6; have x0 : w6.cell? ⟨L, 0, none⟩ = some (.int .i64 0) := heap_cl hL6 rfl; have x1 : w6.cell? ⟨L, 1, none⟩ = some (.slice none 0 0) := heap_cl hL6 rfl; have x2 : w6.cell? ⟨L, 2, none⟩ = some (.slice none 0 0) := heap_cl hL6 rfl; have HL6 : Hid _ := hL6; clear hL6))
      obtain ⟨w7, hw7, z0, z1, z2, HK7, HS7, HB7⟩ := put3 (a' := .int .i64 m3) (b' := .slice b5 q5 r5) (c' := .slice b6 q6 r6) HL6.out
      rw [← hw7]
      clear hw7
      refine bodyPost_ret (v := .tuple #[.agg #[.int .i64 m3, .slice b5 q5 r5, .slice b6 q6 r6], .bool ok3]) (by simp [results, Tryz.results40, go_sem, z0, z1, z2]) rfl ?_
      obtain ⟨s1, s2, s3⟩ := HEX.out
      have s4 := HSz.out
      exact op_end (w0 := w5) (by omega) (by omega) HT6.out (fun _ => HOD.out) (HBw.out.trans (HB6.out.mono HBw.out.size)) HK7.out HS7.out HB7.out
theorem open_any : ∀ (d : Nat) (t : Tn d), GndR d t → OpenC d t
  | 0, _, h => h.elim
  | d + 1, ((k, n), ts), h => by
    rcases h with h | ⟨h, a, b, h2, h3, h4⟩
    · by_cases e : k = 4 ∧ n = [76, 105, 115, 116]
      · obtain ⟨rfl, rfl⟩ := e
        exact open_list
      · exact open_plain (h.imp id fun q => ⟨q, fun q2 => e ⟨q, q2⟩⟩)
    · have h : k = 3 := h
      have h2 : ts = [a, b] := h2
      subst h h2
      exact open_fn2 (open_any d a h3) (open_any d b h4)
end Go.Proofs.YtgdflaapgfpdeaaGreatDoor

namespace Go.Proofs.YtgdflaapgfpdeaaGreatDoor
open Go.RowKit

set_option maxHeartbeats 8000000 in
set_option maxRecDepth 10000 in
theorem open_ref (d : Nat) (x : Value) (t : Tn (d + 1)) (w : World) (hx : TyAt w w.heap.size (d + 1) x t) (hN : (flat (d + 1) t).length ≤ 4194304) :
    Calls Tryz.prog 34 #[x] w fun r w' => OpPost (orderD (d + 1) t) w r w' := by
  have HX : Hid (TyAt w w.heap.size (d + 1) x t) := hx
  obtain ⟨u, rfl, hn1, hn2, hrow⟩ := hx
  obtain ⟨ad, cap, rfl⟩ := hrow.len
  generalize hk : t.1.1 = k at *
  generalize hn : t.1.2 = n at *
  generalize hm : t.2.length = m at *
  obtain ⟨W, X, L, hW, hX, hL, hs, hBW, hXW, hLW⟩ := open_boxes w k ⟨n.toArray⟩ ad m cap
  have HEX : Hid (X = w.heap.size ∧ L = w.heap.size + 1 ∧ W.heap.size = w.heap.size + 2) := ⟨hX, hL, hs⟩
  have HBB : Hid (∀ w2 : World, Below W.heap.size W w2 → Below w.heap.size w w2 ∧ w2.heap[X]? = some (.cells #[.int .i64 k, .string ⟨n.toArray⟩, .slice ad m cap] 24 (0, 0)) ∧ w2.heap[L]? = some (.cells #[.int .i64 0, .slice none 0 0, .slice none 0 0] 47 (0, 0)) ∧ TyAt w2 w2.heap.size (d + 1) (.agg #[.int .i64 k, .string ⟨n.toArray⟩, .slice ad m cap]) t) := fun w2 hb2 => by
    have h0 : Below w.heap.size w w2 := hBW.trans (hb2.mono hBW.size)
    exact ⟨h0, (hb2.block X (lt_heap hXW)).trans hXW, (hb2.block L (lt_heap hLW)).trans hLW, TyAt.below h0 h0.size _ _ _ HX.out⟩
  obtain ⟨-, -, -, q4⟩ := HBB.out W (Below.refl _ _)
  have CW := wrong_any (d + 1) _ t W W.heap.size (Nat.le_refl _) q4 hN
  have HN : Hid ((flat (d + 1) t).length ≤ 4194304) := hN
  have c0 : W.cell? ⟨X, 0, none⟩ = some (.int .i64 k) := heap_cl hXW rfl
  have c1 : W.cell? ⟨X, 1, none⟩ = some (.string ⟨n.toArray⟩) := heap_cl hXW rfl
  have c2 : W.cell? ⟨X, 2, none⟩ = some (.slice ad m cap) := heap_cl hXW rfl
  clear q4 hX hL hs hBW hXW hLW hn1 hn2 hrow hk hn hm hN HX
  go_enter Tryz.func34, Tryz.ntmps34
  go_upto_region 1 with fail
  rw [← hW, ← HEX.out.2.1, ← HEX.out.1]
  clear hW
  by_cases hw : wrongT (d + 1) t = 0
  · rw [hw] at CW
    go_upto_region 4 with (first | (go_at_call 45; (with_reducible refine Calls.mono CW ?_); rintro e' w2 ⟨rfl, HB2⟩))
    replace HB2 : Hid (Below W.heap.size W w2) := HB2
    clear c0 c1 c2 CW
    obtain ⟨p1, p2, p3, p4⟩ := HBB.out w2 HB2.out
    have CC := closed_any (d + 1) _ t w2 p4 HN.out
    have c0 : w2.cell? ⟨X, 0, none⟩ = some (.int .i64 k) := heap_cl p2 rfl
    have c1 : w2.cell? ⟨X, 1, none⟩ = some (.string ⟨n.toArray⟩) := heap_cl p2 rfl
    have c2 : w2.cell? ⟨X, 2, none⟩ = some (.slice ad m cap) := heap_cl p2 rfl
    clear p1 p2 p3 p4
    cases hv : noVarB (flat (d + 1) t) with
    | false =>
      rw [hv] at CC
      have HOD : Hid (orderD (d + 1) t = none) := by
        show (if _ then _ else _) = _
        rw [if_neg (fun h => by rw [hv] at h; cases h.2)]
      clear hv hw
      go_upto_region 6 with (first | (go_at_call 46; (with_reducible refine Calls.mono CC ?_); rintro e' w3 ⟨rfl, HB3⟩))
      have hB : Below W.heap.size W w3 := HB2.out.trans (HB3.out.mono HB2.out.size)
      obtain ⟨p1, p2, p3, p4⟩ := HBB.out w3 hB
      have x0 : w3.cell? ⟨L, 0, none⟩ = some (.int .i64 0) := heap_cl p3 rfl
      have x1 : w3.cell? ⟨L, 1, none⟩ = some (.slice none 0 0) := heap_cl p3 rfl
      have x2 : w3.cell? ⟨L, 2, none⟩ = some (.slice none 0 0) := heap_cl p3 rfl
      have f0 : w3.frozen? ⟨L, 0, none⟩ = false := heap_frozen p3
      have f1 : w3.frozen? ⟨L, 1, none⟩ = false := heap_frozen p3
      have f2 : w3.frozen? ⟨L, 2, none⟩ = false := heap_frozen p3
      have hL3 : Hid (w3.heap[L]? = some (.cells #[.int .i64 0, .slice none 0 0, .slice none 0 0] 47 (0, 0))) := p3
      have hb3 : Hid (Below w.heap.size w w3) := p1
      clear p1 p2 p3 p4 hB HBB c0 c1 c2 CC
      go_wp2
      obtain ⟨w5, hw5, z0, z1, z2, HK5, HS5, HB5⟩ := put3 (a' := .int .i64 0) (b' := .slice none 0 0) (c' := .slice none 0 0) hL3.out
      rw [← hw5]
      clear hw5
      refine bodyPost_ret (v := .tuple #[.agg #[.int .i64 0, .slice none 0 0, .slice none 0 0], .bool false]) (by simp [results, Tryz.results34, go_sem, z0, z1, z2]) rfl ?_
      obtain ⟨s1, s2, s3⟩ := HEX.out
      exact op_end (w0 := W) (by omega) (by omega) ltp_none (fun _ => HOD.out) hb3.out HK5.out HS5.out HB5.out
    | true =>
      rw [hv] at CC
      have HOD : Hid (orderD (d + 1) t = ordD (d + 1) t) := by
        show (if _ then _ else _) = _
        rw [if_pos ⟨hw, hv⟩]
      have HG : Hid (GndR (d + 1) t) := form_gndR _ _ (wrong_form hw).1 (noVarB_iff.1 hv)
      clear hv hw
      go_upto_region 7 with (first | (go_at_call 46; (with_reducible refine Calls.mono CC ?_); rintro e' w3 ⟨rfl, HB3⟩))
      have hB : Below W.heap.size W w3 := HB2.out.trans (HB3.out.mono HB2.out.size)
      obtain ⟨p1, p2, p3, p4⟩ := HBB.out w3 hB
      have CO := open_any (d + 1) t HG.out _ w3 p4
      clear c0 c1 c2
      have c0 : w3.cell? ⟨X, 0, none⟩ = some (.int .i64 k) := heap_cl p2 rfl
      have c1 : w3.cell? ⟨X, 1, none⟩ = some (.string ⟨n.toArray⟩) := heap_cl p2 rfl
      have c2 : w3.cell? ⟨X, 2, none⟩ = some (.slice ad m cap) := heap_cl p2 rfl
      have hL3 : Hid (w3.heap[L]? = some (.cells #[.int .i64 0, .slice none 0 0, .slice none 0 0] 47 (0, 0))) := p3
      have hb3 : Hid (Below w.heap.size w w3) := p1
      have HSz : Hid (W.heap.size ≤ w3.heap.size) := hB.size
      clear p1 p2 p3 p4 hB HBB CC HG
      go_wp2_with (first | (go_at_call 40; (with_reducible refine Calls.mono CO ?_); rintro e' w6 ⟨m3, b5, q5, r5, b6, q6, r6, ok3, rfl, HB6, HT6⟩; have hL6 : w6.heap[L]? = some (.cells #[.int .i64 0, .slice none 0 0, .slice none 0 0] 47 (0, 0)) := (HB6.out.block L (lt_heap hL3.out)).trans hL3.out; have f0 : w6.frozen? ⟨L, 0, none⟩ = false := heap_frozen hL6; have f1 : w6.frozen? ⟨L, 1, none⟩ = false := heap_frozen hL6; have f2 : w6.frozen? ⟨L, 2, none⟩ = false := heap_frozen hL6; have x0 : w6.cell? ⟨L, 0, none⟩ = some (.int .i64 0) := heap_cl hL6 rfl; have x1 : w6.cell? ⟨L, 1, none⟩ = some (.slice none 0 0) := heap_cl hL6 rfl; have x2 : w6.cell? ⟨L, 2, none⟩ = some (.slice none 0 0) := heap_cl hL6 rfl; have HL6 : Hid _ := hL6; clear hL6))
      obtain ⟨w7, hw7, z0, z1, z2, HK7, HS7, HB7⟩ := put3 (a' := .int .i64 m3) (b' := .slice b5 q5 r5) (c' := .slice b6 q6 r6) HL6.out
      rw [← hw7]
      clear hw7
      refine bodyPost_ret (v := .tuple #[.agg #[.int .i64 m3, .slice b5 q5 r5, .slice b6 q6 r6], .bool ok3]) (by simp [results, Tryz.results34, go_sem, z0, z1, z2]) rfl ?_
      obtain ⟨s1, s2, s3⟩ := HEX.out
      have s4 := HSz.out
      exact op_end (w0 := w3) (by omega) (by omega) HT6.out (fun _ => HOD.out) (hb3.out.trans (HB6.out.mono hb3.out.size)) HK7.out HS7.out HB7.out
  · have HOD : Hid (orderD (d + 1) t = none) := by
      show (if _ then _ else _) = _
      rw [if_neg (fun h => hw h.1)]
    generalize wrongT (d + 1) t = wc at *
    have e1 : (wc != 0) = true := by simp [hw]
    clear hw
    go_upto_region 3 with (first | (go_at_call 45; (with_reducible refine Calls.mono CW ?_); rintro e' w3 ⟨rfl, HB3⟩))
    replace HB3 : Hid (Below W.heap.size W w3) := HB3
    obtain ⟨p1, p2, p3, p4⟩ := HBB.out w3 HB3.out
    have x0 : w3.cell? ⟨L, 0, none⟩ = some (.int .i64 0) := heap_cl p3 rfl
    have x1 : w3.cell? ⟨L, 1, none⟩ = some (.slice none 0 0) := heap_cl p3 rfl
    have x2 : w3.cell? ⟨L, 2, none⟩ = some (.slice none 0 0) := heap_cl p3 rfl
    have f0 : w3.frozen? ⟨L, 0, none⟩ = false := heap_frozen p3
    have f1 : w3.frozen? ⟨L, 1, none⟩ = false := heap_frozen p3
    have f2 : w3.frozen? ⟨L, 2, none⟩ = false := heap_frozen p3
    have hL3 : Hid (w3.heap[L]? = some (.cells #[.int .i64 0, .slice none 0 0, .slice none 0 0] 47 (0, 0))) := p3
    have hb3 : Hid (Below w.heap.size w w3) := p1
    clear p1 p2 p3 p4 HBB c0 c1 c2 CW
    go_wp2
    obtain ⟨w5, hw5, z0, z1, z2, HK5, HS5, HB5⟩ := put3 (a' := .int .i64 0) (b' := .slice none 0 0) (c' := .slice none 0 0) hL3.out
    rw [← hw5]
    clear hw5
    refine bodyPost_ret (v := .tuple #[.agg #[.int .i64 0, .slice none 0 0, .slice none 0 0], .bool false]) (by simp [results, Tryz.results34, go_sem, z0, z1, z2]) rfl ?_
    obtain ⟨s1, s2, s3⟩ := HEX.out
    exact op_end (w0 := W) (by omega) (by omega) ltp_none (fun _ => HOD.out) hb3.out HK5.out HS5.out HB5.out
set_option maxHeartbeats 8000000 in
set_option maxRecDepth 10000 in
theorem size_ref (d : Nat) (x : Value) (t : Tn (d + 1)) (w : World) (hx : TyAt w w.heap.size (d + 1) x t) (hN : (flat (d + 1) t).length ≤ 4194304) :
    Calls Tryz.prog 13 #[x] w fun r w' => r = .returned (.tuple #[.int .i64 ((sizeD (d + 1) t).1 : Int), .int .i64 (sizeD (d + 1) t).2]) ∧ Hid (Below w.heap.size w w') := by
  have HX : Hid (TyAt w w.heap.size (d + 1) x t) := hx
  obtain ⟨u, rfl, hn1, hn2, hrow⟩ := hx
  obtain ⟨ad, cap, rfl⟩ := hrow.len
  generalize hk : t.1.1 = k at *
  generalize hn : t.1.2 = n at *
  generalize hm : t.2.length = m at *
  obtain ⟨X, hX⟩ : ∃ X, X = w.heap.size := ⟨_, rfl⟩
  obtain ⟨W, hW⟩ : ∃ W, W = w.alloc (.cells #[.int .i64 k, .string ⟨n.toArray⟩, .slice ad m cap] 24) := ⟨_, rfl⟩
  have hBW : Below w.heap.size w W := by rw [hW]; exact (Below.refl _ _).alloc (Nat.le_refl _) _
  have hXW : W.heap[X]? = some (.cells #[.int .i64 k, .string ⟨n.toArray⟩, .slice ad m cap] 24 (0, 0)) := by rw [hW, hX]; exact new_blk _ _
  have CO := open_ref d (.agg #[.int .i64 k, .string ⟨n.toArray⟩, .slice ad m cap]) t W (TyAt.below hBW hBW.size _ _ _ HX.out) hN
  have c0 : W.cell? ⟨X, 0, none⟩ = some (.int .i64 k) := heap_cl hXW rfl
  have c1 : W.cell? ⟨X, 1, none⟩ = some (.string ⟨n.toArray⟩) := heap_cl hXW rfl
  have c2 : W.cell? ⟨X, 2, none⟩ = some (.slice ad m cap) := heap_cl hXW rfl
  have HXE : Hid (X = w.heap.size) := hX
  have HBW : Hid (Below w.heap.size w W) := hBW
  have HSZ : Hid (sizeD (d + 1) t = match orderD (d + 1) t with
    | some D => (D.1.length, 0)
    | none => (0, 140)) := rfl
  clear hn1 hn2 hrow hX hBW hXW hk hn hm hN HX
  generalize sizeD (d + 1) t = sz at *
  generalize orderD (d + 1) t = od at *
  go_enter Tryz.func13, Tryz.ntmps13
  go_upto_region 1 with fail
  rw [← hW, ← HXE.out]
  clear hW
  go_upto_region 2 with (first | (go_at_call 34; (with_reducible refine Calls.mono CO ?_); rintro e' w2 ⟨m1, b1, q1, r1, b2, q2, r2, ok, rfl, HB2, HT2⟩))
  clear c0 c1 c2 CO
  have hP3 : (w2.alloc (.cells #[.int .i64 m1, .slice b1 q1 r1, .slice b2 q2 r2] 47)).heap[w2.heap.size]? = some (.cells #[.int .i64 m1, .slice b1 q1 r1, .slice b2 q2 r2] 47 (0, 0)) := new_blk _ _
  have hB3 : Below w2.heap.size w2 (w2.alloc (.cells #[.int .i64 m1, .slice b1 q1 r1, .slice b2 q2 r2] 47)) := (Below.refl _ _).alloc (Nat.le_refl _) _
  have HB : Hid (Below w.heap.size w (w2.alloc (.cells #[.int .i64 m1, .slice b1 q1 r1, .slice b2 q2 r2] 47))) := (HBW.out.trans (HB2.out.mono HBW.out.size)).trans (hB3.mono (Nat.le_trans HBW.out.size HB2.out.size))
  generalize w2.alloc (.cells #[.int .i64 m1, .slice b1 q1 r1, .slice b2 q2 r2] 47) = w3 at *
  generalize w2.heap.size = P at *
  have y0 : w3.cell? ⟨P, 0, none⟩ = some (.int .i64 m1) := heap_cl hP3 rfl
  clear hB3 hP3 HB2
  cases ok with
  | false =>
    have HN : Hid (sz = (0, 140)) := by
      show _ = _
      rw [HSZ.out, HT2.out.2 rfl]
    clear HSZ
    go_wp2
    refine bodyPost_ret (v := .tuple #[.int .i64 0, .int .i64 140]) (by simp [results, Tryz.results13, go_sem]) rfl ?_
    rw [HN.out]
    exact ⟨rfl, HB.out⟩
  | true =>
    obtain ⟨D, hD⟩ := HT2.out.is
    subst hD
    obtain ⟨⟨bv, rv, l1, -⟩, -⟩ := HT2.out.lat
    obtain ⟨rfl, -⟩ : m1 = (D.1.length : Int) ∧ True := by
      simp only [Value.agg.injEq, Array.mk.injEq, List.cons.injEq, Value.int.injEq, true_and] at l1
      exact ⟨l1.1, trivial⟩
    have HN : Hid (sz = (D.1.length, 0)) := HSZ.out
    clear HSZ l1
    go_wp2
    refine bodyPost_ret (v := .tuple #[.int .i64 (D.1.length : Int), .int .i64 0]) (by simp [results, Tryz.results13, go_sem]) rfl ?_
    rw [HN.out]
    exact ⟨rfl, HB.out⟩
end Go.Proofs.YtgdflaapgfpdeaaGreatDoor

namespace Go.Proofs.YtgdflaapgfpdeaaGreatDoor
open Go.RowKit

theorem size_fun0 : sizeD 2 (funT intT intT) = (3, 0) := by kernel_rfl
theorem size_int0 : sizeD 1 intT = (2, 0) := by kernel_rfl
theorem size_fun {w : World} {x : Value} (h : Tv w 2 x (funT intT intT)) : Calls Tryz.prog 12 #[x] w fun r w' => r = .returned (.tuple #[.int .i64 3, .int .i64 0]) ∧ Hid (Below w.heap.size w w') := by
  obtain ⟨_, _, _, _, _, _, h2⟩ := h
  have := size_all 1 x (funT intT intT) w h2 (of_decide_eq_true (by kernel_rfl))
  rw [size_fun0] at this
  exact this
theorem size_int {w : World} {x : Value} (h : Tv w 1 x intT) : Calls Tryz.prog 12 #[x] w fun r w' => r = .returned (.tuple #[.int .i64 2, .int .i64 0]) ∧ Hid (Below w.heap.size w w') := by
  obtain ⟨_, _, _, _, _, _, h2⟩ := h
  have := size_all 0 x intT w h2 (of_decide_eq_true (by kernel_rfl))
  rw [size_int0] at this
  exact this
set_option maxHeartbeats 8000000 in
set_option maxRecDepth 10000 in
theorem awake_any {w : World} : Calls Tryz.prog 6 #[] w fun r w' => r = .returned (.bool true) ∧ Hid (Below w.heap.size w w') := by
  go_enter Tryz.func6, Tryz.ntmps6
  go_upto_region 2 with (first
    | (go_at_call 12; (with_reducible refine Calls.mono (size_fun HT3.out) ?_); rintro e' w4 ⟨rfl, HB4⟩)
    | (go_at_call 19; (with_reducible refine Calls.mono (fun_mk HT1.out HT2.out) ?_); rintro e' w3 ⟨x3, rfl, HB3, HT3⟩)
    | (go_at_call 20; have HQ := HT1; (with_reducible refine Calls.mono int_any ?_); rintro e' w2 ⟨x2, rfl, HB2, HT2⟩; replace HT1 : Hid (Tv w2 1 x1 intT) := HT1.out.on HB2.out)
    | (go_at_call 20; (with_reducible refine Calls.mono int_any ?_); rintro e' w1 ⟨x1, rfl, HB1, HT1⟩))
  have HB : Hid (Below w.heap.size w w4) := by
    have h2 := HB1.out.trans (HB2.out.mono HB1.out.size)
    have h3 := h2.trans (HB3.out.mono h2.size)
    exact h3.trans (HB4.out.mono h3.size)
  clear HB1 HB2 HB3 HB4 HT1 HT2 HT3
  go_upto_region 3 with (first
    | (go_at_call 12; (with_reducible refine Calls.mono (size_int HT5.out) ?_); rintro e' w6 ⟨rfl, HB6⟩)
    | (go_at_call 20; (with_reducible refine Calls.mono int_any ?_); rintro e' w5 ⟨x5, rfl, HB5, HT5⟩))
  have HC : Hid (Below w.heap.size w w6) := by
    have h2 := HB.out.trans (HB5.out.mono HB.out.size)
    exact h2.trans (HB6.out.mono h2.size)
  clear HB HB5 HB6 HT5
  go_wp2
  refine bodyPost_ret (v := .bool true) (by simp [results, Tryz.results6, go_sem]) rfl ?_
  exact ⟨rfl, HC.out⟩
end Go.Proofs.YtgdflaapgfpdeaaGreatDoor
