/- The reference's parts. The reference's Apply. The reference's Of. -/
import Derived.Test.YtgdflaapgfpdeaaGreatDoorMzx
namespace Go.Proofs.YtgdflaapgfpdeaaGreatDoor
open Go.RowKit

/-- The three cells of a lattice. -/
def C3 (w : World) (P : Nat) (n : Int) (s1 s2 : Value) : Prop := w.cell? ⟨P, 0, none⟩ = some (.int .i64 n) ∧ w.cell? ⟨P, 1, none⟩ = some s1 ∧ w.cell? ⟨P, 2, none⟩ = some s2
theorem C3.keep {w w' : World} {P L : Nat} {n : Int} {s1 s2 : Value} (h : ∀ y, y ≠ L → w'.heap[y]? = w.heap[y]?) (hP : P ≠ L) (c : C3 w P n s1 s2) : C3 w' P n s1 s2 := ⟨(cell_on (h P hP) 0).trans c.1, (cell_on (h P hP) 1).trans c.2.1, (cell_on (h P hP) 2).trans c.2.2⟩
theorem C3.of {w : World} {P : Nat} {n : Int} {s1 s2 : Value} (h : w.heap[P]? = some (.cells #[.int .i64 n, s1, s2] 47 (0, 0))) : C3 w P n s1 s2 := ⟨heap_cl h rfl, heap_cl h rfl, heap_cl h rfl⟩
theorem box_at {w : World} {L : Nat} {a b c : Value} (h : w.heap[L]? = some (.cells #[a, b, c] 47 (0, 0))) : w.frozen? ⟨L, 0, none⟩ = false ∧ w.frozen? ⟨L, 1, none⟩ = false ∧ w.frozen? ⟨L, 2, none⟩ = false ∧ w.cell? ⟨L, 0, none⟩ = some a ∧ w.cell? ⟨L, 1, none⟩ = some b ∧ w.cell? ⟨L, 2, none⟩ = some c := ⟨heap_frozen h, heap_frozen h, heap_frozen h, heap_cl h rfl, heap_cl h rfl, heap_cl h rfl⟩
/-- What parts answers, of memory S. -/
def PaP (od : Option OrdD) (w : World) (S : Nat → Prop) (x y z : Value) (ok : Bool) : Prop := (ok = true → ∃ fa ta ra rb, od = some (fnsP ta (resP fa ta), some (fa, ta)) ∧ Lat fa ∧ Lat ta ∧ (resP fa ta).length ≤ 40 ∧ LatA w S x (fnsP ta (resP fa ta)) (resP fa ta) ∧ LatA w S y fa ra ∧ LatA w S z ta rb) ∧ (ok = false → od = none)
theorem PaP.on {od : Option OrdD} {w w' : World} {S S' : Nat → Prop} {x y z : Value} {ok : Bool} (h : PaP od w S x y z ok) (hk : Keeps S w w') (hs : ∀ y, S y → S' y) : PaP od w' S' x y z ok := ⟨fun e => by
  obtain ⟨fa, ta, ra, rb, h1, h2, h3, h4, h5, h6, h7⟩ := h.1 e
  exact ⟨fa, ta, ra, rb, h1, h2, h3, h4, h5.on hk hs, h6.on hk hs, h7.on hk hs⟩, h.2⟩
def PaPost (od : Option OrdD) (w : World) (r : Ending) (w' : World) : Prop := ∃ (n1 : Int) (a1 : Option Addr) (l1 k1 : Nat) (b1 : Option Addr) (m1 j1 : Nat) (n2 : Int) (a2 : Option Addr) (l2 k2 : Nat) (b2 : Option Addr) (m2 j2 : Nat) (n3 : Int) (a3 : Option Addr) (l3 k3 : Nat) (b3 : Option Addr) (m3 j3 : Nat) (ok : Bool), r = .returned (.tuple #[.agg #[.int .i64 n1, .slice a1 l1 k1, .slice b1 m1 j1], .agg #[.int .i64 n2, .slice a2 l2 k2, .slice b2 m2 j2], .agg #[.int .i64 n3, .slice a3 l3 k3, .slice b3 m3 j3], .bool ok]) ∧ Hid (Below w.heap.size w w') ∧ Hid (PaP od w' (fun y => w.heap.size ≤ y ∧ y < w'.heap.size) (.agg #[.int .i64 n1, .slice a1 l1 k1, .slice b1 m1 j1]) (.agg #[.int .i64 n2, .slice a2 l2 k2, .slice b2 m2 j2]) (.agg #[.int .i64 n3, .slice a3 l3 k3, .slice b3 m3 j3]) ok)
theorem fun_gnd {d : Nat} {t : Tn (d + 1)} {D : OrdD} (h : funD d t = some D) : GndR (d + 1) t := by
  unfold funD orderD at h
  split at h
  · split at h
    · next hw => exact form_gndR _ _ (wrong_form hw.1).1 (noVarB_iff.1 hw.2)
    · cases h
  · cases h
theorem boxes4 (w : World) (k : Int) (n : ByteArray) (ad : Option Addr) (l cap : Nat) : ∃ W X L1 L2 L3, W = (((w.alloc (.cells #[.int .i64 k, .string n, .slice ad l cap] 24)).alloc (.cells #[.int .i64 0, .slice none 0 0, .slice none 0 0] 47)).alloc (.cells #[.int .i64 0, .slice none 0 0, .slice none 0 0] 47)).alloc (.cells #[.int .i64 0, .slice none 0 0, .slice none 0 0] 47) ∧ X = w.heap.size ∧ L1 = w.heap.size + 1 ∧ L2 = w.heap.size + 1 + 1 ∧ L3 = w.heap.size + 1 + 1 + 1 ∧ W.heap.size = w.heap.size + 4 ∧ Below w.heap.size w W ∧ W.heap[X]? = some (.cells #[.int .i64 k, .string n, .slice ad l cap] 24 (0, 0)) ∧ W.heap[L1]? = some (.cells #[.int .i64 0, .slice none 0 0, .slice none 0 0] 47 (0, 0)) ∧ W.heap[L2]? = some (.cells #[.int .i64 0, .slice none 0 0, .slice none 0 0] 47 (0, 0)) ∧ W.heap[L3]? = some (.cells #[.int .i64 0, .slice none 0 0, .slice none 0 0] 47 (0, 0)) := by
  have s1 : (w.alloc (.cells #[.int .i64 k, .string n, .slice ad l cap] 24)).heap.size = w.heap.size + 1 := World.size_alloc _ _
  have s2 : ((w.alloc (.cells #[.int .i64 k, .string n, .slice ad l cap] 24)).alloc (.cells #[.int .i64 0, .slice none 0 0, .slice none 0 0] 47)).heap.size = w.heap.size + 2 := by rw [World.size_alloc, s1]
  have s3 : (((w.alloc (.cells #[.int .i64 k, .string n, .slice ad l cap] 24)).alloc (.cells #[.int .i64 0, .slice none 0 0, .slice none 0 0] 47)).alloc (.cells #[.int .i64 0, .slice none 0 0, .slice none 0 0] 47)).heap.size = w.heap.size + 3 := by rw [World.size_alloc, s2]
  refine ⟨_, _, _, _, _, rfl, rfl, rfl, rfl, rfl, by rw [World.size_alloc, s3], ((((Below.refl _ _).alloc (Nat.le_refl _) _).alloc (by omega) _).alloc (by omega) _).alloc (by omega) _, ?_, ?_, ?_, ?_⟩
  · exact (Below.heap_alloc _ _ _ (by omega)).trans ((Below.heap_alloc _ _ _ (by omega)).trans ((Below.heap_alloc _ _ _ (by omega)).trans (new_blk _ _)))
  · exact (Below.heap_alloc _ _ _ (by omega)).trans ((Below.heap_alloc _ _ _ (by omega)).trans (by rw [← s1]; exact new_blk _ _))
  · exact (Below.heap_alloc _ _ _ (by omega)).trans (by rw [show w.heap.size + 1 + 1 = w.heap.size + 2 from rfl, ← s2]; exact new_blk _ _)
  · rw [show w.heap.size + 1 + 1 + 1 = w.heap.size + 3 from rfl, ← s3]
    exact new_blk _ _
/-- The end of parts. -/
theorem pa_end {od : Option OrdD} {w w3 u1 u2 u3 : World} {L1 L2 L3 B : Nat} {x y z : Value} {ok : Bool} (h : PaP od w3 (fun y => B ≤ y ∧ y < w3.heap.size) x y z ok) (hL : L1 < B ∧ L2 < B ∧ L3 < B ∧ w.heap.size ≤ L1 ∧ w.heap.size ≤ L2 ∧ w.heap.size ≤ L3) (hb : Below w.heap.size w w3) (k0 : ∀ y, y ≠ L1 → u1.heap[y]? = w3.heap[y]?) (k1 : ∀ y, y ≠ L2 → u2.heap[y]? = u1.heap[y]?) (k2 : ∀ y, y ≠ L3 → u3.heap[y]? = u2.heap[y]?) (s0 : u1.heap.size = w3.heap.size) (s1 : u2.heap.size = u1.heap.size) (s2 : u3.heap.size = u2.heap.size) (b0 : ∀ (B : Nat) (w0 : World), B ≤ L1 → Below B w0 w3 → Below B w0 u1) (b1 : ∀ (B : Nat) (w0 : World), B ≤ L2 → Below B w0 u1 → Below B w0 u2) (b2 : ∀ (B : Nat) (w0 : World), B ≤ L3 → Below B w0 u2 → Below B w0 u3) : Hid (Below w.heap.size w u3) ∧ Hid (PaP od u3 (fun y => w.heap.size ≤ y ∧ y < u3.heap.size) x y z ok) := by
  obtain ⟨h1, h2, h3, h4, h5, h6⟩ := hL
  refine ⟨b2 _ _ h6 (b1 _ _ h5 (b0 _ _ h4 hb)), h.on (fun y hy => ?_) fun y hy => ⟨by have := hy.1; omega, by have := hy.2; omega⟩⟩
  have := hy.1
  exact (k2 y (by omega)).trans ((k1 y (by omega)).trans (k0 y (by omega)))
set_option maxHeartbeats 16000000 in
set_option maxRecDepth 10000 in
theorem parts_ref (d : Nat) (x : Value) (t : Tn (d + 1)) (w : World) (hx : TyAt w w.heap.size (d + 1) x t) (hN : (flat (d + 1) t).length ≤ 4194304) :
    Calls Tryz.prog 26 #[x] w fun r w' => PaPost (funD d t) w r w' := by
  have HX : Hid (TyAt w w.heap.size (d + 1) x t) := hx
  obtain ⟨u, rfl, hn1, hn2, hrow⟩ := hx
  obtain ⟨ad, cap, rfl⟩ := hrow.len
  obtain ⟨W, X, L1, L2, L3, hW, hX, hL1, hL2, hL3, hs, hBW, hXW, hLW1, hLW2, hLW3⟩ := boxes4 w t.1.1 ⟨t.1.2.toArray⟩ ad t.2.length cap
  have HEX : Hid (X = w.heap.size ∧ L1 = w.heap.size + 1 ∧ L2 = w.heap.size + 1 + 1 ∧ L3 = w.heap.size + 1 + 1 + 1 ∧ W.heap.size = w.heap.size + 4) := ⟨hX, hL1, hL2, hL3, hs⟩
  have HLN : Hid (L2 ≠ L1 ∧ L3 ≠ L1 ∧ L3 ≠ L2) := ⟨by omega, by omega, by omega⟩
  have HLA : Hid (L1 < W.heap.size ∧ L2 < W.heap.size ∧ L3 < W.heap.size ∧ w.heap.size ≤ L1 ∧ w.heap.size ≤ L2 ∧ w.heap.size ≤ L3) := ⟨by omega, by omega, by omega, by omega, by omega, by omega⟩
  have HPART : Hid (∀ D, t.1.1 = 3 → orderD (d + 1) t = some D → funD d t = some D ∧ ∃ (a b : Tn d) (A C : OrdD), t.2 = [a, b] ∧ ordD d a = some A ∧ ordD d b = some C ∧ D = (fnsP C.1 (resP A.1 C.1), some (A.1, C.1)) ∧ Lat A.1 ∧ Lat C.1 ∧ (resP A.1 C.1).length ≤ 40 ∧ GndR d a ∧ GndR d b) := fun D hk h => by
    have hf : funD d t = some D := by
      unfold funD
      rw [if_pos hk, h]
    refine ⟨hf, ?_⟩
    obtain ⟨a, b, A, C, h1, h2, h3, h4, h5, h6, h7, h8⟩ := fun_parts hf
    rcases fun_gnd hf with hg | ⟨_, a', b', e, g1, g2⟩
    · omega
    · rw [h1] at e
      obtain ⟨rfl, e2⟩ := List.cons.inj e
      obtain ⟨rfl, -⟩ := List.cons.inj e2
      exact ⟨a, b, A, C, h1, h3, h4, h5, h6, h7, h8, g1, g2⟩
  have HNOT : Hid (t.1.1 ≠ 3 → funD d t = none) := fun hk => by
    show _ = _
    unfold funD
    rw [if_neg hk]
  have HNON : Hid (orderD (d + 1) t = none → funD d t = none) := fun h => by
    show _ = _
    unfold funD
    rw [h]
    split <;> rfl
  have HTL : Hid (∀ a b, t.2 = [a, b] → ∃ g o, ad = some ⟨g, o, none⟩ ∧ 2 ≤ cap ∧ ∀ w2 : World, Below w.heap.size w w2 → (∃ k0 n0 ad0 len0 cap0, (w2.cell? ⟨g, o, none⟩ = some (.int .i64 k0) ∧ w2.cell? ⟨g, o + 1, none⟩ = some (.string n0) ∧ w2.cell? ⟨g, o + 2, none⟩ = some (.slice ad0 len0 cap0)) ∧ TyAt w2 w2.heap.size d (.agg #[.int .i64 k0, .string n0, .slice ad0 len0 cap0]) a) ∧ (∃ k0 n0 ad0 len0 cap0, (w2.cell? ⟨g, o + 3, none⟩ = some (.int .i64 k0) ∧ w2.cell? ⟨g, o + 3 + 1, none⟩ = some (.string n0) ∧ w2.cell? ⟨g, o + 3 + 2, none⟩ = some (.slice ad0 len0 cap0)) ∧ TyAt w2 w2.heap.size d (.agg #[.int .i64 k0, .string n0, .slice ad0 len0 cap0]) b)) := fun a b e => by
    obtain ⟨ad', cap', e1, hc⟩ := RowP.cells hrow
    obtain ⟨rfl, -, rfl⟩ := Value.slice.inj e1
    obtain ⟨g, o, rfl, hcap, hgB, hel⟩ := hc (by rw [e]; simp)
    rw [e] at hcap hel
    refine ⟨g, o, rfl, hcap, fun w2 hb => ?_⟩
    obtain ⟨k0, n0, ad0, len0, cap0, hc0, ht0⟩ := hel 0 (by simp)
    obtain ⟨k1, n1, ad1, len1, cap1, hc1, ht1⟩ := hel 1 (by simp)
    obtain ⟨e1, e2, e3⟩ := hc0 w2 hb
    obtain ⟨f1, f2, f3⟩ := hc1 w2 hb
    exact ⟨⟨k0, n0, ad0, len0, cap0, ⟨by simpa using e1, by simpa using e2, by simpa using e3⟩, TyAt.below hb hb.size _ _ _ ht0⟩, ⟨k1, n1, ad1, len1, cap1, ⟨by simpa using f1, by simpa using f2, by simpa using f3⟩, TyAt.below hb hb.size _ _ _ ht1⟩⟩
  have CO := open_ref d (.agg #[.int .i64 t.1.1, .string ⟨t.1.2.toArray⟩, .slice ad t.2.length cap]) t W (TyAt.below hBW hBW.size _ _ _ HX.out) hN
  have HBB : Hid (∀ w2 : World, Below W.heap.size W w2 → Below w.heap.size w w2 ∧ w2.heap[X]? = some (.cells #[.int .i64 t.1.1, .string ⟨t.1.2.toArray⟩, .slice ad t.2.length cap] 24 (0, 0)) ∧ w2.heap[L1]? = some (.cells #[.int .i64 0, .slice none 0 0, .slice none 0 0] 47 (0, 0)) ∧ w2.heap[L2]? = some (.cells #[.int .i64 0, .slice none 0 0, .slice none 0 0] 47 (0, 0)) ∧ w2.heap[L3]? = some (.cells #[.int .i64 0, .slice none 0 0, .slice none 0 0] 47 (0, 0))) := fun w2 hb2 => ⟨hBW.trans (hb2.mono hBW.size), (hb2.block X (lt_heap hXW)).trans hXW, (hb2.block L1 (lt_heap hLW1)).trans hLW1, (hb2.block L2 (lt_heap hLW2)).trans hLW2, (hb2.block L3 (lt_heap hLW3)).trans hLW3⟩
  have c0 : W.cell? ⟨X, 0, none⟩ = some (.int .i64 t.1.1) := heap_cl hXW rfl
  have c1 : W.cell? ⟨X, 1, none⟩ = some (.string ⟨t.1.2.toArray⟩) := heap_cl hXW rfl
  have c2 : W.cell? ⟨X, 2, none⟩ = some (.slice ad t.2.length cap) := heap_cl hXW rfl
  clear hn1 hn2 hrow hX hL1 hL2 hL3 hs hBW hXW hLW1 hLW2 hLW3 hN HX
  generalize funD d t = fd at *
  generalize orderD (d + 1) t = od at *
  generalize t.2 = ts at *
  generalize t.1.2 = nm at *
  generalize t.1.1 = k at *
  clear t
  go_enter Tryz.func26, Tryz.ntmps26
  go_upto_region 1 with fail
  rw [← hW, ← HEX.out.2.2.2.1, ← HEX.out.2.2.1, ← HEX.out.2.1, ← HEX.out.1]
  clear hW
  go_upto_region 2 with (first | (go_at_call 34; (with_reducible refine Calls.mono CO ?_); rintro e' w2 ⟨n1, a1, l1, k1, b1, m1, j1, ok1, rfl, HB2, HT2⟩))
  clear c0 c1 c2 CO
  obtain ⟨P, hP⟩ : ∃ P, P = w2.heap.size := ⟨_, rfl⟩
  obtain ⟨w3, hw3⟩ : ∃ w3, w3 = w2.alloc (.cells #[.int .i64 n1, .slice a1 l1 k1, .slice b1 m1 j1] 47) := ⟨_, rfl⟩
  have hP3 : w3.heap[P]? = some (.cells #[.int .i64 n1, .slice a1 l1 k1, .slice b1 m1 j1] 47 (0, 0)) := by rw [hw3, hP]; exact new_blk _ _
  have hB3 : Below w2.heap.size w2 w3 := by rw [hw3]; exact (Below.refl _ _).alloc (Nat.le_refl _) _
  rw [← hw3, ← hP]
  have HPW : Hid (W.heap.size ≤ P) := by rw [hP]; exact HB2.out.size
  have HP3 : Hid (w3.heap[P]? = some (.cells #[.int .i64 n1, .slice a1 l1 k1, .slice b1 m1 j1] 47 (0, 0))) := hP3
  have HBW3 : Hid (Below W.heap.size W w3) := HB2.out.trans (hB3.mono HB2.out.size)
  have HT3 : Hid (LtP W w3 (.agg #[.int .i64 n1, .slice a1 l1 k1, .slice b1 m1 j1]) ok1 od) := ⟨fun h => by
    obtain ⟨D, h1, h2, h3⟩ := HT2.out.1 h
    exact ⟨D, h1, h2.on (fun y hy => hB3.block y hy.2) (fun y hy => ⟨hy.1, Nat.lt_of_lt_of_le hy.2 hB3.size⟩), h3⟩, HT2.out.2⟩
  clear hw3 hP hB3 hP3 HB2 HT2
  obtain ⟨p1, p2, p3, p4, p5⟩ := HBB.out w3 HBW3.out
  have c0 : w3.cell? ⟨X, 0, none⟩ = some (.int .i64 k) := heap_cl p2 rfl
  cases ok1 with
  | false =>
    have HNE : Hid (∀ y, y = P → ∀ l, l = L1 ∨ l = L2 ∨ l = L3 → y ≠ l) := fun y hy l hl => by have := HLA.out; have := HPW.out; omega
    have HLL1 : Hid (w3.drew.heap[L1]? = some (.cells #[.int .i64 0, .slice none 0 0, .slice none 0 0] 47 (0, 0))) := p3
    have HLL2 : Hid (w3.drew.heap[L2]? = some (.cells #[.int .i64 0, .slice none 0 0, .slice none 0 0] 47 (0, 0))) := p4
    have HLL3 : Hid (w3.drew.heap[L3]? = some (.cells #[.int .i64 0, .slice none 0 0, .slice none 0 0] 47 (0, 0))) := p5
    have hSS : Hid (C3 w3.drew P n1 (.slice a1 l1 k1) (.slice b1 m1 j1) ∧ C3 w3.drew P n1 (.slice a1 l1 k1) (.slice b1 m1 j1) ∧ C3 w3.drew P n1 (.slice a1 l1 k1) (.slice b1 m1 j1)) := ⟨C3.of HP3.out, C3.of HP3.out, C3.of HP3.out⟩
    have hb3 : Hid (Below w.heap.size w w3.drew) := p1.drew
    have HPA : Hid (PaP fd w3.drew (fun y => W.heap.size ≤ y ∧ y < w3.drew.heap.size) (.agg #[.int .i64 n1, .slice a1 l1 k1, .slice b1 m1 j1]) (.agg #[.int .i64 n1, .slice a1 l1 k1, .slice b1 m1 j1]) (.agg #[.int .i64 n1, .slice a1 l1 k1, .slice b1 m1 j1]) false) := ⟨fun h => (by cases h), fun _ => HNON.out (HT3.out.2 rfl)⟩
    clear p1 p2 p3 p4 p5 HBB HTL HPART
    go_upto_region 3 with fail
    clear c0
    refine wp_region_M (S := (fun w' : World => C3 w' P n1 (.slice a1 l1 k1) (.slice b1 m1 j1) ∧ C3 w' P n1 (.slice a1 l1 k1) (.slice b1 m1 j1) ∧ C3 w' P n1 (.slice a1 l1 k1) (.slice b1 m1 j1))) (L := 6) (n := 7) (by kernel_rfl) rfl (by kernel_rfl) ?_
    generalize w3.drew = w0 at *
    have hS0 : (fun w' : World => C3 w' P n1 (.slice a1 l1 k1) (.slice b1 m1 j1) ∧ C3 w' P n1 (.slice a1 l1 k1) (.slice b1 m1 j1) ∧ C3 w' P n1 (.slice a1 l1 k1) (.slice b1 m1 j1)) w0 := hSS.out
    refine wpAnyK_go (i := 0) (m' := 1) (some 24) (v := .agg #[.int .i64 n1, .slice a1 l1 k1, .slice b1 m1 j1]) rfl rfl (by kernel_rfl) (by kernel_rfl) (by kernel_rfl) (by kernel_rfl) (by kernel_rfl) (fun _ _ _ h => h) (Or.inl ⟨by rfl, ?_⟩) hS0 ?_
    · intro w' hSw
      obtain ⟨e0, e1, e2⟩ := show C3 w' P n1 (.slice a1 l1 k1) (.slice b1 m1 j1) from hSw.1
      clear hSw hS0
      go_simp
    simp only [Act.put, List.setIfInBounds_toArray, List.set_cons_zero, List.set_cons_succ]
    refine wpAnyK_go (i := 1) (m' := 3) (some 25) (v := .agg #[.int .i64 n1, .slice a1 l1 k1, .slice b1 m1 j1]) rfl rfl (by kernel_rfl) (by kernel_rfl) (by kernel_rfl) (by kernel_rfl) (by kernel_rfl) (fun _ _ _ h => h) (Or.inl ⟨by rfl, ?_⟩) hS0 ?_
    · intro w' hSw
      obtain ⟨e0, e1, e2⟩ := show C3 w' P n1 (.slice a1 l1 k1) (.slice b1 m1 j1) from hSw.2.1
      clear hSw hS0
      go_simp
    simp only [Act.put, List.setIfInBounds_toArray, List.set_cons_zero, List.set_cons_succ]
    refine wpAnyK_go (i := 2) (m' := 7) (some 26) (v := .agg #[.int .i64 n1, .slice a1 l1 k1, .slice b1 m1 j1]) rfl rfl (by kernel_rfl) (by kernel_rfl) (by kernel_rfl) (by kernel_rfl) (by kernel_rfl) (fun _ _ _ h => h) (Or.inl ⟨by rfl, ?_⟩) hS0 ?_
    · intro w' hSw
      obtain ⟨e0, e1, e2⟩ := show C3 w' P n1 (.slice a1 l1 k1) (.slice b1 m1 j1) from hSw.2.2
      clear hSw hS0
      go_simp
    simp only [Act.put, List.setIfInBounds_toArray, List.set_cons_zero, List.set_cons_succ]
    obtain ⟨f0, f1, f2, x0, x1, x2⟩ := box_at HLL1.out
    refine wpAnyK_only (i := 3) (m' := 15) (by kernel_rfl) rfl (by kernel_rfl) fun K hK => ?_
    go_simp
    obtain ⟨u1, hu, z00, z01, z02, HK0, HS0, HB0⟩ := put3 (a' := .int .i64 n1) (b' := .slice a1 l1 k1) (c' := .slice b1 m1 j1) HLL1.out
    rw [← hu]
    clear hu x0 x1 x2 f0 f1 f2
    have hS1 : (fun w' : World => C3 w' P n1 (.slice a1 l1 k1) (.slice b1 m1 j1) ∧ C3 w' P n1 (.slice a1 l1 k1) (.slice b1 m1 j1) ∧ C3 w' P n1 (.slice a1 l1 k1) (.slice b1 m1 j1)) u1 := ⟨C3.keep HK0.out (HNE.out P (by simp) L1 (by simp)) hS0.1, C3.keep HK0.out (HNE.out P (by simp) L1 (by simp)) hS0.2.1, C3.keep HK0.out (HNE.out P (by simp) L1 (by simp)) hS0.2.2⟩
    replace HLL2 : Hid (u1.heap[L2]? = some (.cells #[.int .i64 0, .slice none 0 0, .slice none 0 0] 47 (0, 0))) := (HK0.out L2 HLN.out.1).trans HLL2.out
    replace HLL3 : Hid (u1.heap[L3]? = some (.cells #[.int .i64 0, .slice none 0 0, .slice none 0 0] 47 (0, 0))) := (HK0.out L3 HLN.out.2.1).trans HLL3.out
    refine hK.out _ _ (fun _ => hS1) ?_
    clear hK K hS0
    obtain ⟨f0, f1, f2, x0, x1, x2⟩ := box_at HLL2.out
    refine wpAnyK_only (i := 4) (m' := 31) (by kernel_rfl) rfl (by kernel_rfl) fun K hK => ?_
    go_simp
    obtain ⟨u2, hu, z10, z11, z12, HK1, HS1, HB1⟩ := put3 (a' := .int .i64 n1) (b' := .slice a1 l1 k1) (c' := .slice b1 m1 j1) HLL2.out
    rw [← hu]
    clear hu x0 x1 x2 f0 f1 f2
    have hS2 : (fun w' : World => C3 w' P n1 (.slice a1 l1 k1) (.slice b1 m1 j1) ∧ C3 w' P n1 (.slice a1 l1 k1) (.slice b1 m1 j1) ∧ C3 w' P n1 (.slice a1 l1 k1) (.slice b1 m1 j1)) u2 := ⟨C3.keep HK1.out (HNE.out P (by simp) L2 (by simp)) hS1.1, C3.keep HK1.out (HNE.out P (by simp) L2 (by simp)) hS1.2.1, C3.keep HK1.out (HNE.out P (by simp) L2 (by simp)) hS1.2.2⟩
    replace HLL3 : Hid (u2.heap[L3]? = some (.cells #[.int .i64 0, .slice none 0 0, .slice none 0 0] 47 (0, 0))) := (HK1.out L3 HLN.out.2.2).trans HLL3.out
    refine hK.out _ _ (fun _ => hS2) ?_
    clear hK K hS1
    replace z00 := (cell_on (HK1.out L1 (Ne.symm HLN.out.1)) 0).trans z00
    replace z01 := (cell_on (HK1.out L1 (Ne.symm HLN.out.1)) 1).trans z01
    replace z02 := (cell_on (HK1.out L1 (Ne.symm HLN.out.1)) 2).trans z02
    obtain ⟨f0, f1, f2, x0, x1, x2⟩ := box_at HLL3.out
    refine wpAnyK_only (i := 5) (m' := 63) (by kernel_rfl) rfl (by kernel_rfl) fun K hK => ?_
    go_simp
    obtain ⟨u3, hu, z20, z21, z22, HK2, HS2, HB2⟩ := put3 (a' := .int .i64 n1) (b' := .slice a1 l1 k1) (c' := .slice b1 m1 j1) HLL3.out
    rw [← hu]
    clear hu x0 x1 x2 f0 f1 f2
    have hS3 : (fun w' : World => C3 w' P n1 (.slice a1 l1 k1) (.slice b1 m1 j1) ∧ C3 w' P n1 (.slice a1 l1 k1) (.slice b1 m1 j1) ∧ C3 w' P n1 (.slice a1 l1 k1) (.slice b1 m1 j1)) u3 := ⟨C3.keep HK2.out (HNE.out P (by simp) L3 (by simp)) hS2.1, C3.keep HK2.out (HNE.out P (by simp) L3 (by simp)) hS2.2.1, C3.keep HK2.out (HNE.out P (by simp) L3 (by simp)) hS2.2.2⟩
    refine hK.out _ _ (fun _ => hS3) ?_
    clear hK K hS2
    replace z00 := (cell_on (HK2.out L1 (Ne.symm HLN.out.2.1)) 0).trans z00
    replace z01 := (cell_on (HK2.out L1 (Ne.symm HLN.out.2.1)) 1).trans z01
    replace z02 := (cell_on (HK2.out L1 (Ne.symm HLN.out.2.1)) 2).trans z02
    replace z10 := (cell_on (HK2.out L2 (Ne.symm HLN.out.2.2)) 0).trans z10
    replace z11 := (cell_on (HK2.out L2 (Ne.symm HLN.out.2.2)) 1).trans z11
    replace z12 := (cell_on (HK2.out L2 (Ne.symm HLN.out.2.2)) 2).trans z12
    refine wpAnyK_only (i := 6) (m' := 127) (by kernel_rfl) rfl (by kernel_rfl) fun K hK => ?_
    go_simp
    refine hK.out _ _ (fun h => absurd rfl h) ?_
    clear hK K
    refine wpAnyK_done (by kernel_rfl) ?_ _
    clear hS3 hSS
    go_wp2
    refine bodyPost_ret (v := .tuple #[.agg #[.int .i64 n1, .slice a1 l1 k1, .slice b1 m1 j1], .agg #[.int .i64 n1, .slice a1 l1 k1, .slice b1 m1 j1], .agg #[.int .i64 n1, .slice a1 l1 k1, .slice b1 m1 j1], .bool false]) (by simp [results, Tryz.results26, go_sem, z00, z01, z02, z10, z11, z12, z20, z21, z22]) rfl ?_
    obtain ⟨r1, r2⟩ := pa_end HPA.out HLA.out hb3.out HK0.out HK1.out HK2.out HS0.out HS1.out HS2.out HB0.out HB1.out HB2.out
    exact ⟨_, _, _, _, _, _, _, _, _, _, _, _, _, _, _, _, _, _, _, _, _, _, rfl, r1, r2⟩
  | true =>
    by_cases hk : k = 3
    · subst hk
      obtain ⟨D, hD⟩ := HT3.out.is
      obtain ⟨hfd, a, b, A, C, hts, hA, hC, hDe, q1, q2, q3, q4, q5⟩ := HPART.out D rfl hD
      subst hts hD hDe
      obtain ⟨g, o, rfl, hcap, hel⟩ := HTL.out a b rfl
      have HEL : Hid _ := hel
      clear HTL HPART HNOT HNON hel
      obtain ⟨⟨k0, n0, ad0, len0, cap0, ⟨e0, e1, e2⟩, ht0⟩, -⟩ := HEL.out w3 p1
      have CA := open_any d a q4 _ w3 ht0
      rw [hA] at CA
      have CB := fun w5 x ht => open_any d b q5 x w5 ht
      rw [hC] at CB
      have CB : Hid _ := CB
      have c2 : w3.cell? ⟨X, 2, none⟩ = some (.slice (some ⟨g, o, none⟩) 2 cap) := heap_cl p2 rfl
      clear p1 p2 p3 p4 p5 hA hC q4 q5 ht0
      go_upto_region 5 with (first | (go_at_call 40; (with_reducible refine Calls.mono CA ?_); rintro e' w4 ⟨n2, a2, l2, k2, b2, m2, j2, ok2, rfl, HB4, HT4⟩))
      clear c0 c2 e0 e1 e2 CA
      obtain ⟨Q, hQ⟩ : ∃ Q, Q = w4.heap.size := ⟨_, rfl⟩
      obtain ⟨w5, hw5⟩ : ∃ w5, w5 = w4.alloc (.cells #[.int .i64 n2, .slice a2 l2 k2, .slice b2 m2 j2] 47) := ⟨_, rfl⟩
      have hQ5 : w5.heap[Q]? = some (.cells #[.int .i64 n2, .slice a2 l2 k2, .slice b2 m2 j2] 47 (0, 0)) := by rw [hw5, hQ]; exact new_blk _ _
      have hB5 : Below w4.heap.size w4 w5 := by rw [hw5]; exact (Below.refl _ _).alloc (Nat.le_refl _) _
      rw [← hw5, ← hQ]
      have hb35 : Below w3.heap.size w3 w5 := HB4.out.trans (hB5.mono HB4.out.size)
      have HQW : Hid (W.heap.size ≤ Q) := by rw [hQ]; exact Nat.le_trans HBW3.out.size HB4.out.size
      have HP5 : Hid (w5.heap[P]? = some (.cells #[.int .i64 n1, .slice a1 l1 k1, .slice b1 m1 j1] 47 (0, 0))) := (hb35.block P (lt_heap HP3.out)).trans HP3.out
      have HQ5 : Hid (w5.heap[Q]? = some (.cells #[.int .i64 n2, .slice a2 l2 k2, .slice b2 m2 j2] 47 (0, 0))) := hQ5
      have HBW5 : Hid (Below W.heap.size W w5) := HBW3.out.trans (hb35.mono HBW3.out.size)
      have HU5 : Hid (LtP w3 w5 (.agg #[.int .i64 n2, .slice a2 l2 k2, .slice b2 m2 j2]) ok2 (some A)) := ⟨fun h => by
        obtain ⟨E, h1, h2, h3⟩ := HT4.out.1 h
        exact ⟨E, h1, h2.on (fun y hy => hB5.block y hy.2) (fun y hy => ⟨hy.1, Nat.lt_of_lt_of_le hy.2 hB5.size⟩), h3⟩, HT4.out.2⟩
      have HB35 : Hid (Below w3.heap.size w3 w5) := hb35
      clear hw5 hQ hB5 hQ5 HB4 HT4 hb35 HP3
      obtain ⟨p1, p2, -, -, -⟩ := HBB.out w5 HBW5.out
      obtain ⟨-, ⟨k1', n1', ad1, len1, cap1, ⟨e0, e1, e2⟩, ht1⟩⟩ := HEL.out w5 p1
      have CB2 := CB.out w5 _ ht1
      have c2 : w5.cell? ⟨X, 2, none⟩ = some (.slice (some ⟨g, o, none⟩) 2 cap) := heap_cl p2 rfl
      clear p1 p2 HEL CB ht1
      go_upto_region 6 with (first | (go_at_call 40; (with_reducible refine Calls.mono CB2 ?_); rintro e' w6 ⟨n3, a3, l3, k3, b3, m3, j3, ok3, rfl, HB6, HT6⟩))
      clear c2 e0 e1 e2 CB2
      obtain ⟨R, hR⟩ : ∃ R, R = w6.heap.size := ⟨_, rfl⟩
      obtain ⟨w7, hw7⟩ : ∃ w7, w7 = w6.alloc (.cells #[.int .i64 n3, .slice a3 l3 k3, .slice b3 m3 j3] 47) := ⟨_, rfl⟩
      have hR7 : w7.heap[R]? = some (.cells #[.int .i64 n3, .slice a3 l3 k3, .slice b3 m3 j3] 47 (0, 0)) := by rw [hw7, hR]; exact new_blk _ _
      have hB7 : Below w6.heap.size w6 w7 := by rw [hw7]; exact (Below.refl _ _).alloc (Nat.le_refl _) _
      rw [← hw7, ← hR]
      have hb57 : Below w5.heap.size w5 w7 := HB6.out.trans (hB7.mono HB6.out.size)
      have HRW : Hid (W.heap.size ≤ R) := by rw [hR]; exact Nat.le_trans HBW5.out.size HB6.out.size
      have hb37 : Below w3.heap.size w3 w7 := HB35.out.trans (hb57.mono HB35.out.size)
      have HBW7 : Hid (Below W.heap.size W w7) := HBW5.out.trans (hb57.mono HBW5.out.size)
      obtain ⟨p1, -, p3, p4, p5⟩ := HBB.out w7 HBW7.out
      have HNE : Hid (∀ y, y = P ∨ y = Q ∨ y = R → ∀ l, l = L1 ∨ l = L2 ∨ l = L3 → y ≠ l) := fun y hy l hl => by have := HLA.out; have := HPW.out; have := HQW.out; have := HRW.out; omega
      have HLL1 : Hid (w7.drew.heap[L1]? = some (.cells #[.int .i64 0, .slice none 0 0, .slice none 0 0] 47 (0, 0))) := p3
      have HLL2 : Hid (w7.drew.heap[L2]? = some (.cells #[.int .i64 0, .slice none 0 0, .slice none 0 0] 47 (0, 0))) := p4
      have HLL3 : Hid (w7.drew.heap[L3]? = some (.cells #[.int .i64 0, .slice none 0 0, .slice none 0 0] 47 (0, 0))) := p5
      have hSS : Hid (C3 w7.drew P n1 (.slice a1 l1 k1) (.slice b1 m1 j1) ∧ C3 w7.drew Q n2 (.slice a2 l2 k2) (.slice b2 m2 j2) ∧ C3 w7.drew R n3 (.slice a3 l3 k3) (.slice b3 m3 j3)) := ⟨C3.of ((hb57.block P (lt_heap HP5.out)).trans HP5.out), C3.of ((hb57.block Q (lt_heap HQ5.out)).trans HQ5.out), C3.of hR7⟩
      have hb3 : Hid (Below w.heap.size w w7.drew) := p1.drew
      have HPA : Hid (PaP fd w7.drew (fun y => W.heap.size ≤ y ∧ y < w7.drew.heap.size) (.agg #[.int .i64 n1, .slice a1 l1 k1, .slice b1 m1 j1]) (.agg #[.int .i64 n2, .slice a2 l2 k2, .slice b2 m2 j2]) (.agg #[.int .i64 n3, .slice a3 l3 k3, .slice b3 m3 j3]) true) := ⟨fun _ => by
        obtain ⟨g1, g2⟩ := HT3.out.lat
        cases ok2 with
        | false => exact absurd (HU5.out.2 rfl) (by simp)
        | true =>
          cases ok3 with
          | false => exact absurd (HT6.out.2 rfl) (by simp)
          | true =>
            obtain ⟨g3, g4⟩ := HU5.out.lat
            obtain ⟨g5, g6⟩ := HT6.out.lat
            have z1 := HBW3.out.size
            have z2 := HB35.out.size
            have z3 := hb57.size
            have z4 := HB6.out.size
            have z5 := hB7.size
            have z6 := HBW5.out.size
            exact ⟨A.1, C.1, rsD A, rsD C, hfd, q1, q2, q3, g1.on (fun y hy => hb37.block y hy.2) (fun y hy => ⟨hy.1, by have := hy.2; show y < w7.heap.size; omega⟩), g3.on (fun y hy => hb57.block y hy.2) (fun y hy => ⟨by have := hy.1; omega, by have := hy.2; show y < w7.heap.size; omega⟩), g5.on (fun y hy => hB7.block y hy.2) (fun y hy => ⟨by have := hy.1; omega, by have := hy.2; show y < w7.heap.size; omega⟩)⟩, fun h => by cases h⟩
      clear p1 p3 p4 p5 HBB hw7 hR hR7 hB7 hb57 hb37 HB6 HT6 HP5 HQ5 HU5 hfd q1 q2 q3
      refine wp_region_M (S := (fun w' : World => C3 w' P n1 (.slice a1 l1 k1) (.slice b1 m1 j1) ∧ C3 w' Q n2 (.slice a2 l2 k2) (.slice b2 m2 j2) ∧ C3 w' R n3 (.slice a3 l3 k3) (.slice b3 m3 j3))) (L := 6) (n := 7) (by kernel_rfl) rfl (by kernel_rfl) ?_
      generalize w7.drew = w0 at *
      have hS0 : (fun w' : World => C3 w' P n1 (.slice a1 l1 k1) (.slice b1 m1 j1) ∧ C3 w' Q n2 (.slice a2 l2 k2) (.slice b2 m2 j2) ∧ C3 w' R n3 (.slice a3 l3 k3) (.slice b3 m3 j3)) w0 := hSS.out
      refine wpAnyK_go (i := 0) (m' := 1) (some 43) (v := .agg #[.int .i64 n1, .slice a1 l1 k1, .slice b1 m1 j1]) rfl rfl (by kernel_rfl) (by kernel_rfl) (by kernel_rfl) (by kernel_rfl) (by kernel_rfl) (fun _ _ _ h => h) (Or.inl ⟨by rfl, ?_⟩) hS0 ?_
      · intro w' hSw
        obtain ⟨e0, e1, e2⟩ := show C3 w' P n1 (.slice a1 l1 k1) (.slice b1 m1 j1) from hSw.1
        clear hSw hS0
        go_simp
      simp only [Act.put, List.setIfInBounds_toArray, List.set_cons_zero, List.set_cons_succ]
      refine wpAnyK_go (i := 1) (m' := 3) (some 44) (v := .agg #[.int .i64 n2, .slice a2 l2 k2, .slice b2 m2 j2]) rfl rfl (by kernel_rfl) (by kernel_rfl) (by kernel_rfl) (by kernel_rfl) (by kernel_rfl) (fun _ _ _ h => h) (Or.inl ⟨by rfl, ?_⟩) hS0 ?_
      · intro w' hSw
        obtain ⟨e0, e1, e2⟩ := show C3 w' Q n2 (.slice a2 l2 k2) (.slice b2 m2 j2) from hSw.2.1
        clear hSw hS0
        go_simp
      simp only [Act.put, List.setIfInBounds_toArray, List.set_cons_zero, List.set_cons_succ]
      refine wpAnyK_go (i := 2) (m' := 7) (some 45) (v := .agg #[.int .i64 n3, .slice a3 l3 k3, .slice b3 m3 j3]) rfl rfl (by kernel_rfl) (by kernel_rfl) (by kernel_rfl) (by kernel_rfl) (by kernel_rfl) (fun _ _ _ h => h) (Or.inl ⟨by rfl, ?_⟩) hS0 ?_
      · intro w' hSw
        obtain ⟨e0, e1, e2⟩ := show C3 w' R n3 (.slice a3 l3 k3) (.slice b3 m3 j3) from hSw.2.2
        clear hSw hS0
        go_simp
      simp only [Act.put, List.setIfInBounds_toArray, List.set_cons_zero, List.set_cons_succ]
      obtain ⟨f0, f1, f2, x0, x1, x2⟩ := box_at HLL1.out
      refine wpAnyK_only (i := 3) (m' := 15) (by kernel_rfl) rfl (by kernel_rfl) fun K hK => ?_
      go_simp
      obtain ⟨u1, hu, z00, z01, z02, HK0, HS0, HB0⟩ := put3 (a' := .int .i64 n1) (b' := .slice a1 l1 k1) (c' := .slice b1 m1 j1) HLL1.out
      rw [← hu]
      clear hu x0 x1 x2 f0 f1 f2
      have hS1 : (fun w' : World => C3 w' P n1 (.slice a1 l1 k1) (.slice b1 m1 j1) ∧ C3 w' Q n2 (.slice a2 l2 k2) (.slice b2 m2 j2) ∧ C3 w' R n3 (.slice a3 l3 k3) (.slice b3 m3 j3)) u1 := ⟨C3.keep HK0.out (HNE.out P (by simp) L1 (by simp)) hS0.1, C3.keep HK0.out (HNE.out Q (by simp) L1 (by simp)) hS0.2.1, C3.keep HK0.out (HNE.out R (by simp) L1 (by simp)) hS0.2.2⟩
      replace HLL2 : Hid (u1.heap[L2]? = some (.cells #[.int .i64 0, .slice none 0 0, .slice none 0 0] 47 (0, 0))) := (HK0.out L2 HLN.out.1).trans HLL2.out
      replace HLL3 : Hid (u1.heap[L3]? = some (.cells #[.int .i64 0, .slice none 0 0, .slice none 0 0] 47 (0, 0))) := (HK0.out L3 HLN.out.2.1).trans HLL3.out
      refine hK.out _ _ (fun _ => hS1) ?_
      clear hK K hS0
      obtain ⟨f0, f1, f2, x0, x1, x2⟩ := box_at HLL2.out
      refine wpAnyK_only (i := 4) (m' := 31) (by kernel_rfl) rfl (by kernel_rfl) fun K hK => ?_
      go_simp
      obtain ⟨u2, hu, z10, z11, z12, HK1, HS1, HB1⟩ := put3 (a' := .int .i64 n2) (b' := .slice a2 l2 k2) (c' := .slice b2 m2 j2) HLL2.out
      rw [← hu]
      clear hu x0 x1 x2 f0 f1 f2
      have hS2 : (fun w' : World => C3 w' P n1 (.slice a1 l1 k1) (.slice b1 m1 j1) ∧ C3 w' Q n2 (.slice a2 l2 k2) (.slice b2 m2 j2) ∧ C3 w' R n3 (.slice a3 l3 k3) (.slice b3 m3 j3)) u2 := ⟨C3.keep HK1.out (HNE.out P (by simp) L2 (by simp)) hS1.1, C3.keep HK1.out (HNE.out Q (by simp) L2 (by simp)) hS1.2.1, C3.keep HK1.out (HNE.out R (by simp) L2 (by simp)) hS1.2.2⟩
      replace HLL3 : Hid (u2.heap[L3]? = some (.cells #[.int .i64 0, .slice none 0 0, .slice none 0 0] 47 (0, 0))) := (HK1.out L3 HLN.out.2.2).trans HLL3.out
      refine hK.out _ _ (fun _ => hS2) ?_
      clear hK K hS1
      replace z00 := (cell_on (HK1.out L1 (Ne.symm HLN.out.1)) 0).trans z00
      replace z01 := (cell_on (HK1.out L1 (Ne.symm HLN.out.1)) 1).trans z01
      replace z02 := (cell_on (HK1.out L1 (Ne.symm HLN.out.1)) 2).trans z02
      obtain ⟨f0, f1, f2, x0, x1, x2⟩ := box_at HLL3.out
      refine wpAnyK_only (i := 5) (m' := 63) (by kernel_rfl) rfl (by kernel_rfl) fun K hK => ?_
      go_simp
      obtain ⟨u3, hu, z20, z21, z22, HK2, HS2, HB2⟩ := put3 (a' := .int .i64 n3) (b' := .slice a3 l3 k3) (c' := .slice b3 m3 j3) HLL3.out
      rw [← hu]
      clear hu x0 x1 x2 f0 f1 f2
      have hS3 : (fun w' : World => C3 w' P n1 (.slice a1 l1 k1) (.slice b1 m1 j1) ∧ C3 w' Q n2 (.slice a2 l2 k2) (.slice b2 m2 j2) ∧ C3 w' R n3 (.slice a3 l3 k3) (.slice b3 m3 j3)) u3 := ⟨C3.keep HK2.out (HNE.out P (by simp) L3 (by simp)) hS2.1, C3.keep HK2.out (HNE.out Q (by simp) L3 (by simp)) hS2.2.1, C3.keep HK2.out (HNE.out R (by simp) L3 (by simp)) hS2.2.2⟩
      refine hK.out _ _ (fun _ => hS3) ?_
      clear hK K hS2
      replace z00 := (cell_on (HK2.out L1 (Ne.symm HLN.out.2.1)) 0).trans z00
      replace z01 := (cell_on (HK2.out L1 (Ne.symm HLN.out.2.1)) 1).trans z01
      replace z02 := (cell_on (HK2.out L1 (Ne.symm HLN.out.2.1)) 2).trans z02
      replace z10 := (cell_on (HK2.out L2 (Ne.symm HLN.out.2.2)) 0).trans z10
      replace z11 := (cell_on (HK2.out L2 (Ne.symm HLN.out.2.2)) 1).trans z11
      replace z12 := (cell_on (HK2.out L2 (Ne.symm HLN.out.2.2)) 2).trans z12
      refine wpAnyK_only (i := 6) (m' := 127) (by kernel_rfl) rfl (by kernel_rfl) fun K hK => ?_
      go_simp
      refine hK.out _ _ (fun h => absurd rfl h) ?_
      clear hK K
      refine wpAnyK_done (by kernel_rfl) ?_ _
      clear hS3 hSS
      go_wp2
      refine bodyPost_ret (v := .tuple #[.agg #[.int .i64 n1, .slice a1 l1 k1, .slice b1 m1 j1], .agg #[.int .i64 n2, .slice a2 l2 k2, .slice b2 m2 j2], .agg #[.int .i64 n3, .slice a3 l3 k3, .slice b3 m3 j3], .bool true]) (by simp [results, Tryz.results26, go_sem, z00, z01, z02, z10, z11, z12, z20, z21, z22]) rfl ?_
      obtain ⟨r1, r2⟩ := pa_end HPA.out HLA.out hb3.out HK0.out HK1.out HK2.out HS0.out HS1.out HS2.out HB0.out HB1.out HB2.out
      exact ⟨_, _, _, _, _, _, _, _, _, _, _, _, _, _, _, _, _, _, _, _, _, _, rfl, r1, r2⟩
    · have e1 : (k != 3) = true := by simp [hk]
      have HNE : Hid (∀ y, y = P → ∀ l, l = L1 ∨ l = L2 ∨ l = L3 → y ≠ l) := fun y hy l hl => by have := HLA.out; have := HPW.out; omega
      have HLL1 : Hid (w3.drew.heap[L1]? = some (.cells #[.int .i64 0, .slice none 0 0, .slice none 0 0] 47 (0, 0))) := p3
      have HLL2 : Hid (w3.drew.heap[L2]? = some (.cells #[.int .i64 0, .slice none 0 0, .slice none 0 0] 47 (0, 0))) := p4
      have HLL3 : Hid (w3.drew.heap[L3]? = some (.cells #[.int .i64 0, .slice none 0 0, .slice none 0 0] 47 (0, 0))) := p5
      have hSS : Hid (C3 w3.drew P n1 (.slice a1 l1 k1) (.slice b1 m1 j1) ∧ C3 w3.drew P n1 (.slice a1 l1 k1) (.slice b1 m1 j1) ∧ C3 w3.drew P n1 (.slice a1 l1 k1) (.slice b1 m1 j1)) := ⟨C3.of HP3.out, C3.of HP3.out, C3.of HP3.out⟩
      have hb3 : Hid (Below w.heap.size w w3.drew) := p1.drew
      have HPA : Hid (PaP fd w3.drew (fun y => W.heap.size ≤ y ∧ y < w3.drew.heap.size) (.agg #[.int .i64 n1, .slice a1 l1 k1, .slice b1 m1 j1]) (.agg #[.int .i64 n1, .slice a1 l1 k1, .slice b1 m1 j1]) (.agg #[.int .i64 n1, .slice a1 l1 k1, .slice b1 m1 j1]) false) := ⟨fun h => (by cases h), fun _ => HNOT.out hk⟩
      clear hk p1 p2 p3 p4 p5 HBB HTL HPART
      go_upto_region 3 with fail
      clear c0
      refine wp_region_M (S := (fun w' : World => C3 w' P n1 (.slice a1 l1 k1) (.slice b1 m1 j1) ∧ C3 w' P n1 (.slice a1 l1 k1) (.slice b1 m1 j1) ∧ C3 w' P n1 (.slice a1 l1 k1) (.slice b1 m1 j1))) (L := 6) (n := 7) (by kernel_rfl) rfl (by kernel_rfl) ?_
      generalize w3.drew = w0 at *
      have hS0 : (fun w' : World => C3 w' P n1 (.slice a1 l1 k1) (.slice b1 m1 j1) ∧ C3 w' P n1 (.slice a1 l1 k1) (.slice b1 m1 j1) ∧ C3 w' P n1 (.slice a1 l1 k1) (.slice b1 m1 j1)) w0 := hSS.out
      refine wpAnyK_go (i := 0) (m' := 1) (some 24) (v := .agg #[.int .i64 n1, .slice a1 l1 k1, .slice b1 m1 j1]) rfl rfl (by kernel_rfl) (by kernel_rfl) (by kernel_rfl) (by kernel_rfl) (by kernel_rfl) (fun _ _ _ h => h) (Or.inl ⟨by rfl, ?_⟩) hS0 ?_
      · intro w' hSw
        obtain ⟨e0, e1, e2⟩ := show C3 w' P n1 (.slice a1 l1 k1) (.slice b1 m1 j1) from hSw.1
        clear hSw hS0
        go_simp
      simp only [Act.put, List.setIfInBounds_toArray, List.set_cons_zero, List.set_cons_succ]
      refine wpAnyK_go (i := 1) (m' := 3) (some 25) (v := .agg #[.int .i64 n1, .slice a1 l1 k1, .slice b1 m1 j1]) rfl rfl (by kernel_rfl) (by kernel_rfl) (by kernel_rfl) (by kernel_rfl) (by kernel_rfl) (fun _ _ _ h => h) (Or.inl ⟨by rfl, ?_⟩) hS0 ?_
      · intro w' hSw
        obtain ⟨e0, e1, e2⟩ := show C3 w' P n1 (.slice a1 l1 k1) (.slice b1 m1 j1) from hSw.2.1
        clear hSw hS0
        go_simp
      simp only [Act.put, List.setIfInBounds_toArray, List.set_cons_zero, List.set_cons_succ]
      refine wpAnyK_go (i := 2) (m' := 7) (some 26) (v := .agg #[.int .i64 n1, .slice a1 l1 k1, .slice b1 m1 j1]) rfl rfl (by kernel_rfl) (by kernel_rfl) (by kernel_rfl) (by kernel_rfl) (by kernel_rfl) (fun _ _ _ h => h) (Or.inl ⟨by rfl, ?_⟩) hS0 ?_
      · intro w' hSw
        obtain ⟨e0, e1, e2⟩ := show C3 w' P n1 (.slice a1 l1 k1) (.slice b1 m1 j1) from hSw.2.2
        clear hSw hS0
        go_simp
      simp only [Act.put, List.setIfInBounds_toArray, List.set_cons_zero, List.set_cons_succ]
      obtain ⟨f0, f1, f2, x0, x1, x2⟩ := box_at HLL1.out
      refine wpAnyK_only (i := 3) (m' := 15) (by kernel_rfl) rfl (by kernel_rfl) fun K hK => ?_
      go_simp
      obtain ⟨u1, hu, z00, z01, z02, HK0, HS0, HB0⟩ := put3 (a' := .int .i64 n1) (b' := .slice a1 l1 k1) (c' := .slice b1 m1 j1) HLL1.out
      rw [← hu]
      clear hu x0 x1 x2 f0 f1 f2
      have hS1 : (fun w' : World => C3 w' P n1 (.slice a1 l1 k1) (.slice b1 m1 j1) ∧ C3 w' P n1 (.slice a1 l1 k1) (.slice b1 m1 j1) ∧ C3 w' P n1 (.slice a1 l1 k1) (.slice b1 m1 j1)) u1 := ⟨C3.keep HK0.out (HNE.out P (by simp) L1 (by simp)) hS0.1, C3.keep HK0.out (HNE.out P (by simp) L1 (by simp)) hS0.2.1, C3.keep HK0.out (HNE.out P (by simp) L1 (by simp)) hS0.2.2⟩
      replace HLL2 : Hid (u1.heap[L2]? = some (.cells #[.int .i64 0, .slice none 0 0, .slice none 0 0] 47 (0, 0))) := (HK0.out L2 HLN.out.1).trans HLL2.out
      replace HLL3 : Hid (u1.heap[L3]? = some (.cells #[.int .i64 0, .slice none 0 0, .slice none 0 0] 47 (0, 0))) := (HK0.out L3 HLN.out.2.1).trans HLL3.out
      refine hK.out _ _ (fun _ => hS1) ?_
      clear hK K hS0
      obtain ⟨f0, f1, f2, x0, x1, x2⟩ := box_at HLL2.out
      refine wpAnyK_only (i := 4) (m' := 31) (by kernel_rfl) rfl (by kernel_rfl) fun K hK => ?_
      go_simp
      obtain ⟨u2, hu, z10, z11, z12, HK1, HS1, HB1⟩ := put3 (a' := .int .i64 n1) (b' := .slice a1 l1 k1) (c' := .slice b1 m1 j1) HLL2.out
      rw [← hu]
      clear hu x0 x1 x2 f0 f1 f2
      have hS2 : (fun w' : World => C3 w' P n1 (.slice a1 l1 k1) (.slice b1 m1 j1) ∧ C3 w' P n1 (.slice a1 l1 k1) (.slice b1 m1 j1) ∧ C3 w' P n1 (.slice a1 l1 k1) (.slice b1 m1 j1)) u2 := ⟨C3.keep HK1.out (HNE.out P (by simp) L2 (by simp)) hS1.1, C3.keep HK1.out (HNE.out P (by simp) L2 (by simp)) hS1.2.1, C3.keep HK1.out (HNE.out P (by simp) L2 (by simp)) hS1.2.2⟩
      replace HLL3 : Hid (u2.heap[L3]? = some (.cells #[.int .i64 0, .slice none 0 0, .slice none 0 0] 47 (0, 0))) := (HK1.out L3 HLN.out.2.2).trans HLL3.out
      refine hK.out _ _ (fun _ => hS2) ?_
      clear hK K hS1
      replace z00 := (cell_on (HK1.out L1 (Ne.symm HLN.out.1)) 0).trans z00
      replace z01 := (cell_on (HK1.out L1 (Ne.symm HLN.out.1)) 1).trans z01
      replace z02 := (cell_on (HK1.out L1 (Ne.symm HLN.out.1)) 2).trans z02
      obtain ⟨f0, f1, f2, x0, x1, x2⟩ := box_at HLL3.out
      refine wpAnyK_only (i := 5) (m' := 63) (by kernel_rfl) rfl (by kernel_rfl) fun K hK => ?_
      go_simp
      obtain ⟨u3, hu, z20, z21, z22, HK2, HS2, HB2⟩ := put3 (a' := .int .i64 n1) (b' := .slice a1 l1 k1) (c' := .slice b1 m1 j1) HLL3.out
      rw [← hu]
      clear hu x0 x1 x2 f0 f1 f2
      have hS3 : (fun w' : World => C3 w' P n1 (.slice a1 l1 k1) (.slice b1 m1 j1) ∧ C3 w' P n1 (.slice a1 l1 k1) (.slice b1 m1 j1) ∧ C3 w' P n1 (.slice a1 l1 k1) (.slice b1 m1 j1)) u3 := ⟨C3.keep HK2.out (HNE.out P (by simp) L3 (by simp)) hS2.1, C3.keep HK2.out (HNE.out P (by simp) L3 (by simp)) hS2.2.1, C3.keep HK2.out (HNE.out P (by simp) L3 (by simp)) hS2.2.2⟩
      refine hK.out _ _ (fun _ => hS3) ?_
      clear hK K hS2
      replace z00 := (cell_on (HK2.out L1 (Ne.symm HLN.out.2.1)) 0).trans z00
      replace z01 := (cell_on (HK2.out L1 (Ne.symm HLN.out.2.1)) 1).trans z01
      replace z02 := (cell_on (HK2.out L1 (Ne.symm HLN.out.2.1)) 2).trans z02
      replace z10 := (cell_on (HK2.out L2 (Ne.symm HLN.out.2.2)) 0).trans z10
      replace z11 := (cell_on (HK2.out L2 (Ne.symm HLN.out.2.2)) 1).trans z11
      replace z12 := (cell_on (HK2.out L2 (Ne.symm HLN.out.2.2)) 2).trans z12
      refine wpAnyK_only (i := 6) (m' := 127) (by kernel_rfl) rfl (by kernel_rfl) fun K hK => ?_
      go_simp
      refine hK.out _ _ (fun h => absurd rfl h) ?_
      clear hK K
      refine wpAnyK_done (by kernel_rfl) ?_ _
      clear hS3 hSS
      go_wp2
      refine bodyPost_ret (v := .tuple #[.agg #[.int .i64 n1, .slice a1 l1 k1, .slice b1 m1 j1], .agg #[.int .i64 n1, .slice a1 l1 k1, .slice b1 m1 j1], .agg #[.int .i64 n1, .slice a1 l1 k1, .slice b1 m1 j1], .bool false]) (by simp [results, Tryz.results26, go_sem, z00, z01, z02, z10, z11, z12, z20, z21, z22]) rfl ?_
      obtain ⟨r1, r2⟩ := pa_end HPA.out HLA.out hb3.out HK0.out HK1.out HK2.out HS0.out HS1.out HS2.out HB0.out HB1.out HB2.out
      exact ⟨_, _, _, _, _, _, _, _, _, _, _, _, _, _, _, _, _, _, _, _, _, _, rfl, r1, r2⟩
end Go.Proofs.YtgdflaapgfpdeaaGreatDoor

namespace Go.Proofs.YtgdflaapgfpdeaaGreatDoor
open Go.RowKit

theorem boxes47 (w : World) (a b c : Array Value) : ∃ W P1 P2 P3, W = ((w.alloc (.cells a 47)).alloc (.cells b 47)).alloc (.cells c 47) ∧ P1 = w.heap.size ∧ P2 = w.heap.size + 1 ∧ P3 = w.heap.size + 1 + 1 ∧ Below w.heap.size w W ∧ W.heap[P1]? = some (.cells a 47 (0, 0)) ∧ W.heap[P2]? = some (.cells b 47 (0, 0)) ∧ W.heap[P3]? = some (.cells c 47 (0, 0)) := by
  have s1 : (w.alloc (.cells a 47)).heap.size = w.heap.size + 1 := World.size_alloc _ _
  have s2 : ((w.alloc (.cells a 47)).alloc (.cells b 47)).heap.size = w.heap.size + 2 := by rw [World.size_alloc, s1]
  refine ⟨_, _, _, _, rfl, rfl, rfl, rfl, (((Below.refl _ _).alloc (Nat.le_refl _) _).alloc (by omega) _).alloc (by omega) _, ?_, ?_, ?_⟩
  · exact (Below.heap_alloc _ _ _ (by omega)).trans ((Below.heap_alloc _ _ _ (by omega)).trans (new_blk _ _))
  · exact (Below.heap_alloc _ _ _ (by omega)).trans (by rw [← s1]; exact new_blk _ _)
  · rw [show w.heap.size + 1 + 1 = w.heap.size + 2 from rfl, ← s2]
    exact new_blk _ _
theorem lat_rs {w : World} {S : Nat → Prop} {n : Int} {a1 : Option Addr} {l1 c1 : Nat} {a2 : Option Addr} {l2 c2 : Nat} {ab : List Nat} {rs : List (List Nat)} (h : LatA w S (.agg #[.int .i64 n, .slice a1 l1 c1, .slice a2 l2 c2]) ab rs) : l2 = rs.length ∧ RowE ERs w S S (.slice a2 rs.length c2) rs := by
  obtain ⟨bv, rv, h1, h2, h3, h4⟩ := h
  simp only [Value.agg.injEq, Array.mk.injEq, List.cons.injEq, Value.int.injEq, true_and, and_true] at h1
  obtain ⟨-, -, rfl⟩ := h1
  obtain ⟨adv, cv, hv1, -⟩ := RowK.open h3
  obtain ⟨rfl, rfl, rfl⟩ := Value.slice.inj hv1
  exact ⟨rfl, h3⟩
set_option maxHeartbeats 16000000 in
set_option maxRecDepth 10000 in
theorem apply_ref (d : Nat) (x : Value) (t : Tn (d + 1)) (w : World) (hx : TyAt w w.heap.size (d + 1) x t) (hN : (flat (d + 1) t).length ≤ 4194304) (f y : Int) :
    Calls Tryz.prog 25 #[x, .int .i64 f, .int .i64 y] w fun r w' => r = .returned (.tuple #[.int .i64 ((applyD (funD d t) f y).1 : Int), .int .i64 (applyD (funD d t) f y).2]) ∧ Hid (Below w.heap.size w w') := by
  have HX : Hid (TyAt w w.heap.size (d + 1) x t) := hx
  obtain ⟨u, rfl, hn1, hn2, hrow⟩ := hx
  obtain ⟨ad, cap, rfl⟩ := hrow.len
  obtain ⟨X, hX⟩ : ∃ X, X = w.heap.size := ⟨_, rfl⟩
  obtain ⟨W, hW⟩ : ∃ W, W = w.alloc (.cells #[.int .i64 t.1.1, .string ⟨t.1.2.toArray⟩, .slice ad t.2.length cap] 24) := ⟨_, rfl⟩
  have hBW : Below w.heap.size w W := by rw [hW]; exact (Below.refl _ _).alloc (Nat.le_refl _) _
  have hXW : W.heap[X]? = some (.cells #[.int .i64 t.1.1, .string ⟨t.1.2.toArray⟩, .slice ad t.2.length cap] 24 (0, 0)) := by rw [hW, hX]; exact new_blk _ _
  have CO := parts_ref d (.agg #[.int .i64 t.1.1, .string ⟨t.1.2.toArray⟩, .slice ad t.2.length cap]) t W (TyAt.below hBW hBW.size _ _ _ HX.out) hN
  have c0 : W.cell? ⟨X, 0, none⟩ = some (.int .i64 t.1.1) := heap_cl hXW rfl
  have c1 : W.cell? ⟨X, 1, none⟩ = some (.string ⟨t.1.2.toArray⟩) := heap_cl hXW rfl
  have c2 : W.cell? ⟨X, 2, none⟩ = some (.slice ad t.2.length cap) := heap_cl hXW rfl
  have HXE : Hid (X = w.heap.size) := hX
  have HBW : Hid (Below w.heap.size w W) := hBW
  clear hn1 hn2 hrow hX hBW hXW hN HX
  generalize funD d t = od at *
  generalize t.1.1 = k at *
  generalize t.1.2 = n at *
  generalize t.2.length = m at *
  clear t
  go_enter Tryz.func25, Tryz.ntmps25
  go_upto_region 1 with fail
  rw [← hW, ← HXE.out]
  clear hW
  go_upto_region 2 with (first | (go_at_call 26; (with_reducible refine Calls.mono CO ?_); rintro e' w2 ⟨n1, a1, l1, k1, b1, m1, j1, n2, a2, l2, k2, b2, m2, j2, n3, a3, l3, k3, b3, m3, j3, ok, rfl, HB2, HT2⟩))
  clear c0 c1 c2 CO
  obtain ⟨w3, P1, P2, P3, hw3, hP1, hP2, hP3, hB3, q1, q2, q3⟩ := boxes47 w2 #[.int .i64 n1, .slice a1 l1 k1, .slice b1 m1 j1] #[.int .i64 n2, .slice a2 l2 k2, .slice b2 m2 j2] #[.int .i64 n3, .slice a3 l3 k3, .slice b3 m3 j3]
  rw [← hw3, ← hP3, ← hP2, ← hP1]
  have HBB : Hid (Below w.heap.size w w3) := (HBW.out.trans (HB2.out.mono HBW.out.size)).trans (hB3.mono (Nat.le_trans HBW.out.size HB2.out.size))
  have HT3 : Hid (PaP od w3 (fun y => y < w3.heap.size) (.agg #[.int .i64 n1, .slice a1 l1 k1, .slice b1 m1 j1]) (.agg #[.int .i64 n2, .slice a2 l2 k2, .slice b2 m2 j2]) (.agg #[.int .i64 n3, .slice a3 l3 k3, .slice b3 m3 j3]) ok) := HT2.out.on (fun y hy => hB3.block y hy.2) fun y hy => Nat.lt_of_lt_of_le hy.2 hB3.size
  have HP1 : Hid (w3.heap[P1]? = some (.cells #[.int .i64 n1, .slice a1 l1 k1, .slice b1 m1 j1] 47 (0, 0))) := q1
  have HP2 : Hid (w3.heap[P2]? = some (.cells #[.int .i64 n2, .slice a2 l2 k2, .slice b2 m2 j2] 47 (0, 0))) := q2
  have HP3 : Hid (w3.heap[P3]? = some (.cells #[.int .i64 n3, .slice a3 l3 k3, .slice b3 m3 j3] 47 (0, 0))) := q3
  clear hw3 hP1 hP2 hP3 hB3 q1 q2 q3 HB2 HT2 HBW HXE
  cases ok with
  | false =>
    have hod := HT3.out.2 rfl
    subst hod
    go_wp2
    refine bodyPost_ret (v := .tuple #[.int .i64 0, .int .i64 140]) (by simp [results, Tryz.results25, go_sem]) rfl ?_
    exact ⟨rfl, HBB.out⟩
  | true =>
    obtain ⟨fa, ta, ra, rb, rfl, hla, hlb, hfew, hx1, hx2, -⟩ := HT3.out.1 rfl
    obtain ⟨rfl, rfl, gb, ob, rfl, -, -⟩ := lat_at hx1
    obtain ⟨rfl, hrs⟩ := lat_rs hx1
    obtain ⟨rfl, rfl, gc, oc, rfl, -, -⟩ := lat_at hx2
    have HDE : Hid (applyD (some (fnsP ta (resP fa ta), some (fa, ta))) f y = if 0 ≤ f ∧ f < ((fnsP ta (resP fa ta)).length : Int) ∧ 0 ≤ y ∧ y < (fa.length : Int) then (((resP fa ta).getD f.toNat []).getD y.toNat 0, 0) else (0, 141)) := rfl
    have hfl : (fnsP ta (resP fa ta)).length = (resP fa ta).length := fns_len _ _
    rw [hfl] at HDE
    have CF := is_any (w := w3) (fnsP ta (resP fa ta)).length (some ⟨gb, ob, none⟩) (fnsP ta (resP fa ta)).length k1 b1 (resP fa ta).length j1 f
    have CX : Hid (∀ wr : World, Calls Tryz.prog 38 #[.agg #[.int .i64 (fa.length : Int), .slice (some ⟨gc, oc, none⟩) fa.length k2, .slice b2 m2 j2], .int .i64 y] wr fun r w' => r = .returned (.bool (decide (0 ≤ y ∧ y < (fa.length : Int)))) ∧ Hid (Below wr.heap.size wr w')) := fun wr => is_any (w := wr) fa.length (some ⟨gc, oc, none⟩) fa.length k2 b2 m2 j2 y
    have HRS : Hid (RowE ERs w3 (fun y => y < w3.heap.size) (fun y => y < w3.heap.size) (.slice b1 (resP fa ta).length j1) (resP fa ta)) := hrs
    have HFL : Hid (∀ i, i < (resP fa ta).length → ((resP fa ta).getD i []).length = fa.length) := fun i hi => ((res_mem fa ta _).1 (res_in hi)).1
    clear hx1 hx2 hrs hla hlb hfew HT3
    rw [hfl] at HP1 CF
    have y0 : w3.cell? ⟨P1, 0, none⟩ = some (.int .i64 ((resP fa ta).length : Int)) := heap_cl HP1.out rfl
    have y1 : w3.cell? ⟨P1, 1, none⟩ = some (.slice (some ⟨gb, ob, none⟩) (resP fa ta).length k1) := heap_cl HP1.out rfl
    have y2 : w3.cell? ⟨P1, 2, none⟩ = some (.slice b1 (resP fa ta).length j1) := heap_cl HP1.out rfl
    have HPP : Hid (∀ wr, Below w3.heap.size w3 wr → wr.heap[P1]? = some (.cells #[.int .i64 ((resP fa ta).length : Int), .slice (some ⟨gb, ob, none⟩) (resP fa ta).length k1, .slice b1 (resP fa ta).length j1] 47 (0, 0)) ∧ wr.heap[P2]? = some (.cells #[.int .i64 (fa.length : Int), .slice (some ⟨gc, oc, none⟩) fa.length k2, .slice b2 m2 j2] 47 (0, 0)) ∧ RowE ERs wr (fun y => y < w3.heap.size) (fun y => y < w3.heap.size) (.slice b1 (resP fa ta).length j1) (resP fa ta)) := fun wr hb => ⟨(hb.block P1 (lt_heap HP1.out)).trans HP1.out, (hb.block P2 (lt_heap HP2.out)).trans HP2.out, HRS.out.on (fun y hy => hb.block y hy) (fun y hy => hb.block y hy) (fun y hy => hy) fun y hy => hy⟩
    clear HP1 HP2 HP3 HRS
    by_cases hf : 0 ≤ f ∧ f < ((resP fa ta).length : Int)
    · rw [decide_eq_true hf] at CF
      by_cases hy : 0 ≤ y ∧ y < (fa.length : Int)
      · rw [decide_eq_true hy] at CX
        rw [if_pos ⟨hf.1, hf.2, hy.1, hy.2⟩] at HDE
        obtain ⟨fn, rfl⟩ : ∃ fn : Nat, f = fn := ⟨f.toNat, by omega⟩
        obtain ⟨yn, rfl⟩ : ∃ yn : Nat, y = yn := ⟨y.toNat, by omega⟩
        have hfn : fn < (resP fa ta).length := by omega
        rw [Int.toNat_natCast, Int.toNat_natCast] at HDE
        have hyl : yn < ((resP fa ta).getD fn []).length := by rw [HFL.out fn hfn]; omega
        go_upto_region 6 with (first | (go_at_call 38; have ZZ := HB4; (with_reducible refine Calls.mono (CX.out w4) ?_); rintro e' w5 ⟨rfl, HB5⟩) | (go_at_call 38; (with_reducible refine Calls.mono CF ?_); rintro e' w4 ⟨rfl, HB4⟩; have hL4 := (HPP.out w4 HB4.out).2.1; have y3 : w4.cell? ⟨P2, 0, none⟩ = some (.int .i64 (fa.length : Int)) := heap_cl hL4 rfl; have y4 : w4.cell? ⟨P2, 1, none⟩ = some (.slice (some ⟨gc, oc, none⟩) fa.length k2) := heap_cl hL4 rfl; have y5 : w4.cell? ⟨P2, 2, none⟩ = some (.slice b2 m2 j2) := heap_cl hL4 rfl; clear hL4))
        have hb5 : Below w3.heap.size w3 w5 := HB4.out.trans (HB5.out.mono HB4.out.size)
        obtain ⟨p1, p2, p3⟩ := HPP.out w5 hb5
        clear y0 y1 y2 y3 y4 y5
        have y2 : w5.cell? ⟨P1, 2, none⟩ = some (.slice b1 (resP fa ta).length j1) := heap_cl p1 rfl
        obtain ⟨g, o, rfl, hsg, hcf, ai, ci, r1, r2⟩ := row_nts p3 fn hfn
        obtain ⟨g2, o2, rfl, hc2, hs2, r3⟩ := r2.at hyl
        rw [show ((resP fa ta).getD fn [])[yn] = ((resP fa ta).getD fn []).getD yn 0 from getD_at hyl] at r3
        have HBE : Hid (Below w.heap.size w w5) := HBB.out.trans (hb5.mono HBB.out.size)
        have i1 : (0 : Int) ≤ (fn : Int) := by omega
        have i2 : (fn : Int) < ((resP fa ta).length : Int) := hf.2
        have i3 : (0 : Int) ≤ (yn : Int) := by omega
        have i4 : (yn : Int) < (((resP fa ta).getD fn []).length : Int) := by omega
        clear hf hy hfn hyl p1 p2 p3 r2 HPP hb5 HFL hfl
        generalize ((resP fa ta).getD fn []).getD yn 0 = val at *
        generalize ((resP fa ta).getD fn []).length = len at *
        generalize (resP fa ta).length = rl at *
        go_wp2
        refine bodyPost_ret (v := .tuple #[.int .i64 (val : Int), .int .i64 0]) (by simp [results, Tryz.results25, go_sem]) rfl ?_
        exact ⟨by rw [HDE.out], HBE.out⟩
      · rw [decide_eq_false hy] at CX
        rw [if_neg (fun q => hy q.2.2)] at HDE
        clear hf hy
        go_wp2_with (first | (go_at_call 38; have ZZ := HB4; (with_reducible refine Calls.mono (CX.out w4) ?_); rintro e' w5 ⟨rfl, HB5⟩) | (go_at_call 38; (with_reducible refine Calls.mono CF ?_); rintro e' w4 ⟨rfl, HB4⟩; have hL4 := (HPP.out w4 HB4.out).2.1; have y3 : w4.cell? ⟨P2, 0, none⟩ = some (.int .i64 (fa.length : Int)) := heap_cl hL4 rfl; have y4 : w4.cell? ⟨P2, 1, none⟩ = some (.slice (some ⟨gc, oc, none⟩) fa.length k2) := heap_cl hL4 rfl; have y5 : w4.cell? ⟨P2, 2, none⟩ = some (.slice b2 m2 j2) := heap_cl hL4 rfl; clear hL4))
        refine bodyPost_ret (v := .tuple #[.int .i64 0, .int .i64 141]) (by simp [results, Tryz.results25, go_sem]) rfl ?_
        exact ⟨by rw [HDE.out] <;> rfl, HBB.out.trans ((HB4.out.trans (HB5.out.mono HB4.out.size)).mono HBB.out.size)⟩
    · rw [decide_eq_false hf] at CF
      rw [if_neg (fun q => hf ⟨q.1, q.2.1⟩)] at HDE
      clear hf
      go_wp2_with (first | (go_at_call 38; (with_reducible refine Calls.mono CF ?_); rintro e' w4 ⟨rfl, HB4⟩))
      refine bodyPost_ret (v := .tuple #[.int .i64 0, .int .i64 141]) (by simp [results, Tryz.results25, go_sem]) rfl ?_
      exact ⟨by rw [HDE.out] <;> rfl, HBB.out.trans (HB4.out.mono HBB.out.size)⟩
end Go.Proofs.YtgdflaapgfpdeaaGreatDoor

namespace Go.Proofs.YtgdflaapgfpdeaaGreatDoor
open Go.RowKit

theorem row_eq {l : List Nat} {tl : List Int} (h : l.length = tl.length) : (∀ p, p < l.length → ((l.getD p 0 : Nat) : Int) = tl.getD p 0) ↔ ofN l = tl := by
  constructor
  · intro h2
    refine List.ext_getElem (by rw [ofN_len]; exact h) fun p h3 h4 => ?_
    rw [ofN_len] at h3
    have := h2 p h3
    simpa [ofN, List.getD, h3, h4] using this
  · rintro rfl p hp
    rw [ofN_get]
theorem same_step {a b : Nat → Int} {x : Nat} {sb : Bool} (h : sb = true ↔ ∀ p, p < x → a p = b p) : (sb && !(a x != b x)) = true ↔ ∀ p, p < x + 1 → a p = b p := by
  rw [Bool.and_eq_true, h]
  constructor
  · rintro ⟨h1, h2⟩ p hp
    rcases Nat.lt_succ_iff_lt_or_eq.1 hp with h3 | rfl
    · exact h1 p h3
    · simpa using h2
  · intro h1
    exact ⟨fun p hp => h1 p (by omega), by simpa using h1 x (by omega)⟩
set_option maxHeartbeats 16000000 in
set_option maxRecDepth 10000 in
theorem of_ref (d : Nat) (x : Value) (t : Tn (d + 1)) (w : World) (hx : TyAt w w.heap.size (d + 1) x t) (hN : (flat (d + 1) t).length ≤ 4194304) {tv : Value} {tl : List Int} (ht : Zts w tv tl) :
    Calls Tryz.prog 8 #[x, tv] w fun r w' => r = .returned (.tuple #[.int .i64 ((ofD (funD d t) tl).1 : Int), .int .i64 (ofD (funD d t) tl).2]) ∧ Hid (Below w.heap.size w w') := by
  have HX : Hid (TyAt w w.heap.size (d + 1) x t) := hx
  obtain ⟨u, rfl, hn1, hn2, hrow⟩ := hx
  obtain ⟨ad, cap, rfl⟩ := hrow.len
  obtain ⟨X, hX⟩ : ∃ X, X = w.heap.size := ⟨_, rfl⟩
  obtain ⟨W, hW⟩ : ∃ W, W = w.alloc (.cells #[.int .i64 t.1.1, .string ⟨t.1.2.toArray⟩, .slice ad t.2.length cap] 24) := ⟨_, rfl⟩
  have hBW : Below w.heap.size w W := by rw [hW]; exact (Below.refl _ _).alloc (Nat.le_refl _) _
  have hXW : W.heap[X]? = some (.cells #[.int .i64 t.1.1, .string ⟨t.1.2.toArray⟩, .slice ad t.2.length cap] 24 (0, 0)) := by rw [hW, hX]; exact new_blk _ _
  have CO := parts_ref d (.agg #[.int .i64 t.1.1, .string ⟨t.1.2.toArray⟩, .slice ad t.2.length cap]) t W (TyAt.below hBW hBW.size _ _ _ HX.out) hN
  have c0 : W.cell? ⟨X, 0, none⟩ = some (.int .i64 t.1.1) := heap_cl hXW rfl
  have c1 : W.cell? ⟨X, 1, none⟩ = some (.string ⟨t.1.2.toArray⟩) := heap_cl hXW rfl
  have c2 : W.cell? ⟨X, 2, none⟩ = some (.slice ad t.2.length cap) := heap_cl hXW rfl
  have HXE : Hid (X = w.heap.size) := hX
  have HBW : Hid (Below w.heap.size w W) := hBW
  have HZT : Hid (∀ w2, Below w.heap.size w w2 → Zts w2 tv tl) := fun w2 h2 => ht.on h2
  obtain ⟨tad, tcap, rfl, -⟩ := ht
  clear hn1 hn2 hrow hX hBW hXW hN HX
  generalize funD d t = od at *
  generalize t.1.1 = k at *
  generalize t.1.2 = n at *
  generalize t.2.length = m at *
  clear t
  go_enter Tryz.func8, Tryz.ntmps8
  go_upto_region 1 with fail
  rw [← hW, ← HXE.out]
  clear hW
  go_upto_region 2 with (first | (go_at_call 26; (with_reducible refine Calls.mono CO ?_); rintro e' w2 ⟨n1, a1, l1, k1, b1, m1, j1, n2, a2, l2, k2, b2, m2, j2, n3, a3, l3, k3, b3, m3, j3, ok, rfl, HB2, HT2⟩))
  clear c0 c1 c2 CO
  obtain ⟨w3, P1, P2, P3, hw3, hP1, hP2, hP3, hB3, q1, q2, q3⟩ := boxes47 w2 #[.int .i64 n1, .slice a1 l1 k1, .slice b1 m1 j1] #[.int .i64 n2, .slice a2 l2 k2, .slice b2 m2 j2] #[.int .i64 n3, .slice a3 l3 k3, .slice b3 m3 j3]
  rw [← hw3, ← hP3, ← hP2, ← hP1]
  have HBB : Hid (Below w.heap.size w w3) := (HBW.out.trans (HB2.out.mono HBW.out.size)).trans (hB3.mono (Nat.le_trans HBW.out.size HB2.out.size))
  have HT3 : Hid (PaP od w3 (fun y => y < w3.heap.size) (.agg #[.int .i64 n1, .slice a1 l1 k1, .slice b1 m1 j1]) (.agg #[.int .i64 n2, .slice a2 l2 k2, .slice b2 m2 j2]) (.agg #[.int .i64 n3, .slice a3 l3 k3, .slice b3 m3 j3]) ok) := HT2.out.on (fun y hy => hB3.block y hy.2) fun y hy => Nat.lt_of_lt_of_le hy.2 hB3.size
  have HP1 : Hid (w3.heap[P1]? = some (.cells #[.int .i64 n1, .slice a1 l1 k1, .slice b1 m1 j1] 47 (0, 0))) := q1
  have HP2 : Hid (w3.heap[P2]? = some (.cells #[.int .i64 n2, .slice a2 l2 k2, .slice b2 m2 j2] 47 (0, 0))) := q2
  have HP3 : Hid (w3.heap[P3]? = some (.cells #[.int .i64 n3, .slice a3 l3 k3, .slice b3 m3 j3] 47 (0, 0))) := q3
  clear hw3 hP1 hP2 hP3 hB3 q1 q2 q3 HB2 HT2 HBW HXE
  cases ok with
  | false =>
    have hod := HT3.out.2 rfl
    subst hod
    go_wp2
    refine bodyPost_ret (v := .tuple #[.int .i64 0, .int .i64 140]) (by simp [results, Tryz.results8, go_sem]) rfl ?_
    exact ⟨rfl, HBB.out⟩
  | true =>
    obtain ⟨fa, ta, ra, rb, rfl, hla, hlb, hfew, hx1, hx2, -⟩ := HT3.out.1 rfl
    obtain ⟨rfl, rfl, gb, ob, rfl, -, -⟩ := lat_at hx1
    obtain ⟨rfl, hrs⟩ := lat_rs hx1
    obtain ⟨rfl, rfl, gc, oc, rfl, -, -⟩ := lat_at hx2
    have hfl : (fnsP ta (resP fa ta)).length = (resP fa ta).length := fns_len _ _
    rw [hfl] at HP1
    have HFL : Hid (∀ i, i < (resP fa ta).length → ((resP fa ta).getD i []).length = fa.length) := fun i hi => ((res_mem fa ta _).1 (res_in hi)).1
    have HPP : Hid (∀ wr, Below w3.heap.size w3 wr → wr.cell? ⟨P1, 0, none⟩ = some (.int .i64 ((resP fa ta).length : Int)) ∧ wr.cell? ⟨P1, 2, none⟩ = some (.slice b1 (resP fa ta).length j1) ∧ wr.cell? ⟨P2, 0, none⟩ = some (.int .i64 (fa.length : Int)) ∧ RowE ERs wr (fun y => y < w3.heap.size) (fun y => y < w3.heap.size) (.slice b1 (resP fa ta).length j1) (resP fa ta) ∧ Zts wr (.slice tad tl.length tcap) tl) := fun wr hb => by
      have q1 := (hb.block P1 (lt_heap HP1.out)).trans HP1.out
      have q2 := (hb.block P2 (lt_heap HP2.out)).trans HP2.out
      exact ⟨heap_cl q1 rfl, heap_cl q1 rfl, heap_cl q2 rfl, hrs.on (fun y hy => hb.block y hy) (fun y hy => hb.block y hy) (fun y hy => hy) (fun y hy => hy), HZT.out wr (HBB.out.trans (hb.mono HBB.out.size))⟩
    have HNO : Hid ((∀ n, n < (resP fa ta).length → ofN ((resP fa ta).getD n []) ≠ tl) → ofD (some (fnsP ta (resP fa ta), some (fa, ta))) tl = (0, 141)) := of_none
    have HYES : Hid (∀ n, n < (resP fa ta).length → ofN ((resP fa ta).getD n []) = tl → ofD (some (fnsP ta (resP fa ta), some (fa, ta))) tl = (n, 0)) := fun n h1 h2 => of_found h1 h2
    have HFEW : Hid (fa.length ≤ 1000 ∧ (resP fa ta).length ≤ 40) := ⟨by have := hla.few; omega, hfew⟩
    clear hx1 hx2 hrs hla hlb hfew HT3 HP1 HP2 HP3 HZT hfl
    generalize hod : ofD (some (fnsP ta (resP fa ta), some (fa, ta))) tl = od2 at *
    have HOD : Hid (ofD (some (fnsP ta (resP fa ta), some (fa, ta))) tl = od2) := hod
    clear hod
    obtain ⟨z0, z1, z2, -, -⟩ := HPP.out w3 (Below.refl _ _)
    by_cases hl : tl.length = fa.length
    · have i0 : ((tl.length : Int) != (fa.length : Int)) = false := by simp [hl]
      go_upto_region 7 with fail
      clear z0 z1 z2
      go_loopw [10] (fun iv wr => ∃ i : Nat, i ≤ (resP fa ta).length ∧ iv = .int .i64 i ∧ Hid (Below w3.heap.size w3 wr) ∧ Hid (∀ n, n < i → ofN ((resP fa ta).getD n []) ≠ tl)) (fun iv _ => (resP fa ta).length - (intOf iv).toNat)
      case atStart => exact ⟨0, by omega, by go_num, Below.refl _ _, fun n h => by omega⟩
      case round =>
        obtain ⟨i, hi, rfl, HB, HI⟩ := hrel
        obtain ⟨z0, z1, z2, -, -⟩ := HPP.out wr HB.out
        have hff := HFEW.out
        by_cases hil : i < (resP fa ta).length
        · have i1 : (0 : Int) ≤ (i : Int) := by omega
          have i2 : (i : Int) < ((resP fa ta).length : Int) := by omega
          go_upto_region 11 with fail
          clear z0 z1 z2
          go_loopw [11, 12] (fun sv xv wi => ∃ (x : Nat) (sb : Bool), x ≤ fa.length ∧ xv = .int .i64 x ∧ sv = .bool sb ∧ Hid (sb = true ↔ ∀ p, p < x → ((((resP fa ta).getD i []).getD p 0 : Nat) : Int) = tl.getD p 0) ∧ Hid (Below w3.heap.size w3 wi)) (fun _ xv _ => fa.length - (intOf xv).toNat)
          case atStart => exact ⟨0, true, by omega, by go_num, rfl, ⟨fun _ p h => by omega, fun _ => rfl⟩, HB.out⟩
          case round =>
            clear HB
            obtain ⟨x, sb, hx, rfl, rfl, HS, HB2⟩ := hrel
            by_cases hxl : x < fa.length
            · obtain ⟨z0, z1, z2, hrow, hzt⟩ := HPP.out wr.drew HB2.out.drew
              obtain ⟨g, o, rfl, hsg, hcf, ai, ci, q1, n1⟩ := row_nts hrow i hil
              have hxr : x < ((resP fa ta).getD i []).length := by rw [HFL.out i hil]; exact hxl
              obtain ⟨g2, o2, rfl, hc2, hs2, r3⟩ := n1.at hxr
              obtain ⟨tad', tcap', te, htl⟩ := hzt
              obtain ⟨rfl, -, rfl⟩ := Value.slice.inj te
              have hxt : x < tl.length := by omega
              obtain ⟨g3, o3, rfl, hc3, hs3, r4⟩ := htl x hxt
              have HST := same_step (a := fun p => ((((resP fa ta).getD i []).getD p 0 : Nat) : Int)) (b := fun p => tl.getD p 0) HS.out
              rw [show ((resP fa ta).getD i [])[x]'hxr = ((resP fa ta).getD i []).getD x 0 from getD_at hxr] at r3
              rw [show tl[x]'hxt = tl.getD x 0 by simp [List.getD, hxt]] at r4
              obtain ⟨li, hli⟩ : ∃ li, li = ((resP fa ta).getD i []).length := ⟨_, rfl⟩
              have e1 : (x : Int) < (li : Int) := by rw [hli, HFL.out i hil]; omega
              obtain ⟨tn, htn⟩ : ∃ tn, tn = tl.length := ⟨_, rfl⟩
              have e2 : (x : Int) < (tn : Int) := by omega
              have e3 : (0 : Int) ≤ (x : Int) := by omega
              have e4 : (x : Int) < (fa.length : Int) := by omega
              obtain ⟨rl, hrl⟩ : ∃ rl, rl = (resP fa ta).length := ⟨_, rfl⟩
              obtain ⟨fv, hfv⟩ : ∃ fv, fv = ((resP fa ta).getD i []).getD x 0 := ⟨_, rfl⟩
              obtain ⟨tx, htx⟩ : ∃ tx, tx = tl.getD x 0 := ⟨_, rfl⟩
              obtain ⟨bq, hbq⟩ : ∃ bq, ((fv : Int) != tx) = bq := ⟨_, rfl⟩
              replace HST : Hid ((sb && !bq) = true ↔ ∀ p, p < x + 1 → ((((resP fa ta).getD i []).getD p 0 : Nat) : Int) = tl.getD p 0) := by rw [← hbq, hfv, htx]; exact HST
              rw [← hli] at q1
              rw [← hrl] at z1
              rw [← hfv] at r3
              rw [← htx] at r4
              have hS0 : (fun w' : World => w'.cell? ⟨P1, 2, none⟩ = some (.slice (some ⟨g, o, none⟩) rl j1) ∧ w'.cell? ⟨g, o + i, none⟩ = some (.slice (some ⟨g2, o2, none⟩) li ci) ∧ w'.cell? ⟨g2, o2 + x, none⟩ = some (.int .i64 (fv : Int)) ∧ w'.cell? ⟨g3, o3 + x, none⟩ = some (.int .i64 tx)) wr.drew := ⟨z1, q1, r3, r4⟩
              have z2' : wr.cell? ⟨P2, 0, none⟩ = some (.int .i64 (fa.length : Int)) := z2
              have i5 : (i : Int) < (rl : Int) := by omega
              clear z0 z1 z2 hrow n1 q1 r3 r4 te htl hxt hxr hsg hs2 hs3 hli hfv htx hrl hcf hc2 hc3 hff
              try rw [← htn]
              go_upto_region 13 with fail
              refine wp_region_M (S := (fun w' : World => w'.cell? ⟨P1, 2, none⟩ = some (.slice (some ⟨g, o, none⟩) rl j1) ∧ w'.cell? ⟨g, o + i, none⟩ = some (.slice (some ⟨g2, o2, none⟩) li ci) ∧ w'.cell? ⟨g2, o2 + x, none⟩ = some (.int .i64 (fv : Int)) ∧ w'.cell? ⟨g3, o3 + x, none⟩ = some (.int .i64 tx))) (L := 13) (n := 13) (by kernel_rfl) rfl (by kernel_rfl) ?_
              refine wpAnyK_go (i := 0) (m' := 1) (some 39) (v := .pointer (some ⟨P1, 2, none⟩)) rfl rfl (by kernel_rfl) (by kernel_rfl) (by kernel_rfl) (by kernel_rfl) (by kernel_rfl) (fun _ _ _ h => h) (Or.inl ⟨by rfl, ?_⟩) hS0 ?_
              · intro w' hSw
                go_simp
              simp only [Act.put, List.setIfInBounds_toArray, List.set_cons_zero, List.set_cons_succ]
              refine wpAnyK_go (i := 1) (m' := 3) (some 40) (v := .slice (some ⟨g, o, none⟩) rl j1) rfl rfl (by kernel_rfl) (by kernel_rfl) (by kernel_rfl) (by kernel_rfl) (by kernel_rfl) (fun _ _ _ h => h) (Or.inl ⟨by rfl, ?_⟩) hS0 ?_
              · intro w' hSw
                obtain ⟨s1, s2, s3, s4⟩ := hSw
                go_simp
              simp only [Act.put, List.setIfInBounds_toArray, List.set_cons_zero, List.set_cons_succ]
              refine wpAnyK_go (i := 2) (m' := 7) (some 41) (v := .int .i64 (i : Int)) rfl rfl (by kernel_rfl) (by kernel_rfl) (by kernel_rfl) (by kernel_rfl) (by kernel_rfl) (fun _ _ _ h => h) (Or.inl ⟨by rfl, ?_⟩) hS0 ?_
              · intro w' hSw
                go_simp
              simp only [Act.put, List.setIfInBounds_toArray, List.set_cons_zero, List.set_cons_succ]
              refine wpAnyK_go (i := 3) (m' := 15) (some 42) (v := .pointer (some ⟨g, o + i, none⟩)) rfl rfl (by kernel_rfl) (by kernel_rfl) (by kernel_rfl) (by kernel_rfl) (by kernel_rfl) (fun _ _ _ h => h) (Or.inl ⟨by rfl, ?_⟩) hS0 ?_
              · intro w' hSw
                go_simp
              simp only [Act.put, List.setIfInBounds_toArray, List.set_cons_zero, List.set_cons_succ]
              refine wpAnyK_go (i := 4) (m' := 31) (some 43) (v := .slice (some ⟨g2, o2, none⟩) li ci) rfl rfl (by kernel_rfl) (by kernel_rfl) (by kernel_rfl) (by kernel_rfl) (by kernel_rfl) (fun _ _ _ h => h) (Or.inl ⟨by rfl, ?_⟩) hS0 ?_
              · intro w' hSw
                obtain ⟨s1, s2, s3, s4⟩ := hSw
                go_simp
              simp only [Act.put, List.setIfInBounds_toArray, List.set_cons_zero, List.set_cons_succ]
              refine wpAnyK_go (i := 5) (m' := 63) (some 44) (v := .int .i64 (x : Int)) rfl rfl (by kernel_rfl) (by kernel_rfl) (by kernel_rfl) (by kernel_rfl) (by kernel_rfl) (fun _ _ _ h => h) (Or.inl ⟨by rfl, ?_⟩) hS0 ?_
              · intro w' hSw
                go_simp
              simp only [Act.put, List.setIfInBounds_toArray, List.set_cons_zero, List.set_cons_succ]
              refine wpAnyK_go (i := 6) (m' := 127) (some 45) (v := .pointer (some ⟨g2, o2 + x, none⟩)) rfl rfl (by kernel_rfl) (by kernel_rfl) (by kernel_rfl) (by kernel_rfl) (by kernel_rfl) (fun _ _ _ h => h) (Or.inl ⟨by rfl, ?_⟩) hS0 ?_
              · intro w' hSw
                go_simp
              simp only [Act.put, List.setIfInBounds_toArray, List.set_cons_zero, List.set_cons_succ]
              refine wpAnyK_go (i := 7) (m' := 255) (some 46) (v := .int .i64 (fv : Int)) rfl rfl (by kernel_rfl) (by kernel_rfl) (by kernel_rfl) (by kernel_rfl) (by kernel_rfl) (fun _ _ _ h => h) (Or.inl ⟨by rfl, ?_⟩) hS0 ?_
              · intro w' hSw
                obtain ⟨s1, s2, s3, s4⟩ := hSw
                go_simp
              simp only [Act.put, List.setIfInBounds_toArray, List.set_cons_zero, List.set_cons_succ]
              refine wpAnyK_go (i := 8) (m' := 511) (some 47) (v := .slice (some ⟨g3, o3, none⟩) tn tcap) rfl rfl (by kernel_rfl) (by kernel_rfl) (by kernel_rfl) (by kernel_rfl) (by kernel_rfl) (fun _ _ _ h => h) (Or.inl ⟨by rfl, ?_⟩) hS0 ?_
              · intro w' hSw
                go_simp
              simp only [Act.put, List.setIfInBounds_toArray, List.set_cons_zero, List.set_cons_succ]
              refine wpAnyK_go (i := 9) (m' := 1023) (some 48) (v := .int .i64 (x : Int)) rfl rfl (by kernel_rfl) (by kernel_rfl) (by kernel_rfl) (by kernel_rfl) (by kernel_rfl) (fun _ _ _ h => h) (Or.inl ⟨by rfl, ?_⟩) hS0 ?_
              · intro w' hSw
                go_simp
              simp only [Act.put, List.setIfInBounds_toArray, List.set_cons_zero, List.set_cons_succ]
              refine wpAnyK_go (i := 10) (m' := 2047) (some 49) (v := .pointer (some ⟨g3, o3 + x, none⟩)) rfl rfl (by kernel_rfl) (by kernel_rfl) (by kernel_rfl) (by kernel_rfl) (by kernel_rfl) (fun _ _ _ h => h) (Or.inl ⟨by rfl, ?_⟩) hS0 ?_
              · intro w' hSw
                go_simp
              simp only [Act.put, List.setIfInBounds_toArray, List.set_cons_zero, List.set_cons_succ]
              refine wpAnyK_go (i := 11) (m' := 4095) (some 50) (v := .int .i64 tx) rfl rfl (by kernel_rfl) (by kernel_rfl) (by kernel_rfl) (by kernel_rfl) (by kernel_rfl) (fun _ _ _ h => h) (Or.inl ⟨by rfl, ?_⟩) hS0 ?_
              · intro w' hSw
                obtain ⟨s1, s2, s3, s4⟩ := hSw
                go_simp
              simp only [Act.put, List.setIfInBounds_toArray, List.set_cons_zero, List.set_cons_succ]
              refine wpAnyK_go (i := 12) (m' := 8191) (some 51) (v := .bool bq) rfl rfl (by kernel_rfl) (by kernel_rfl) (by kernel_rfl) (by kernel_rfl) (by kernel_rfl) (fun _ _ _ h => h) (Or.inl ⟨by rfl, ?_⟩) hS0 ?_
              · intro w' hSw
                go_simp
              simp only [Act.put, List.setIfInBounds_toArray, List.set_cons_zero, List.set_cons_succ]
              refine wpAnyK_done (by kernel_rfl) ?_ _
              clear hS0
              have hff := HFEW.out
              cases bq with
              | true =>
                have HF : Hid ((false = true) ↔ ∀ p, p < x + 1 → ((((resP fa ta).getD i []).getD p 0 : Nat) : Int) = tl.getD p 0) := by
                  have := HST.out
                  rwa [show (sb && !true) = false by cases sb <;> rfl] at this
                go_wp2
                go_roundw
                case rel => exact ⟨x + 1, false, hxl, by go_num, rfl, HF.out, HB2.out.drew⟩
                case measure => simp [intOf]; omega
              | false =>
                have HF : Hid ((sb = true) ↔ ∀ p, p < x + 1 → ((((resP fa ta).getD i []).getD p 0 : Nat) : Int) = tl.getD p 0) := by
                  have := HST.out
                  rwa [show (sb && !false) = sb by cases sb <;> rfl] at this
                go_wp2
                go_roundw
                case rel => exact ⟨x + 1, sb, hxl, by go_num, rfl, HF.out, HB2.out.drew⟩
                case measure => simp [intOf]; omega
            · have hxe : x = fa.length := by omega
              subst hxe
              have e4 : ¬ ((fa.length : Int) < (fa.length : Int)) := by omega
              obtain ⟨z0, z1, z2, -, -⟩ := HPP.out wr HB2.out
              have HQ : Hid (sb = true ↔ ofN ((resP fa ta).getD i []) = tl) := by
                have h1 := row_eq (l := (resP fa ta).getD i []) (tl := tl) (by rw [HFL.out i hil, hl])
                rw [HFL.out i hil] at h1
                exact HS.out.trans h1
              cases sb with
              | true =>
                have HE : Hid (od2 = (i, 0)) := HYES.out i hil (HQ.out.1 rfl)
                go_wp2
                refine bodyPost_ret (v := .tuple #[.int .i64 (i : Int), .int .i64 0]) (by simp [results, Tryz.results8, go_sem]) rfl ?_
                rw [HOD.out, HE.out]
                exact ⟨rfl, HBB.out.trans (HB2.out.mono HBB.out.size)⟩
              | false =>
                have HI2 : Hid (∀ n, n < i + 1 → ofN ((resP fa ta).getD n []) ≠ tl) := fun n hn => by
                  rcases Nat.lt_succ_iff_lt_or_eq.1 hn with h3 | rfl
                  · exact HI.out n h3
                  · exact fun h => by have := HQ.out.2 h; cases this
                go_wp2
                go_roundw
                case rel => exact ⟨i + 1, hil, by go_num, HB2.out, HI2.out⟩
                case measure => simp [intOf]; omega
        · have i2 : ¬ ((i : Int) < ((resP fa ta).length : Int)) := by omega
          have HE : Hid (od2 = (0, 141)) := HNO.out fun n hn => HI.out n (by omega)
          clear hff
          go_wp2
          refine bodyPost_ret (v := .tuple #[.int .i64 0, .int .i64 141]) (by simp [results, Tryz.results8, go_sem]) rfl ?_
          rw [HOD.out, HE.out]
          exact ⟨rfl, HBB.out.trans (HB.out.mono HBB.out.size)⟩
    · have i0 : ((tl.length : Int) != (fa.length : Int)) = true := by simp; omega
      have HE : Hid (od2 = (0, 141)) := HNO.out fun n hn h => hl (by rw [← h, ofN_len, HFL.out n hn])
      go_wp2
      refine bodyPost_ret (v := .tuple #[.int .i64 0, .int .i64 141]) (by simp [results, Tryz.results8, go_sem]) rfl ?_
      rw [HOD.out, HE.out]
      exact ⟨rfl, HBB.out⟩
end Go.Proofs.YtgdflaapgfpdeaaGreatDoor
