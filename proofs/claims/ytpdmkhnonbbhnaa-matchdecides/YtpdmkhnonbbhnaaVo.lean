/- Compile: its contract. -/
import Derived.Test.YtpdmkhnonbbhnaaVn
import Derived.Test.YtpdmkhnonbbhnaaVl
import Derived.Test.YtpdmkhnonbbhnaaVd
import Derived.Test.YtpdmkhnonbbhnaaMlx
import Derived.Deep.RegionHeld3
namespace Go.Proofs.Ytpdmkhnonbbhnaa
open Go.RowKit Go.Maps

def trZ : Array Value := #[.int .i64 0, .int .i64 0, .slice none 0 0, .slice none 0 0, .slice none 0 0]
def cvZ : Array Value := #[.bool false, .slice none 0 0, .slice none 0 0]
/-- The two results' blocks lie as they lay. -/
structure Cq (w V : World) : Prop where
  below : Below w.heap.size w V
  tree : V.heap[w.heap.size]? = some (.cells trZ 32 (0, 0))
  cov : V.heap[w.heap.size + 1]? = some (.cells cvZ 34 (0, 0))
theorem Cq.lt {w V : World} (h : Cq w V) : w.heap.size + 2 ≤ V.heap.size := by have := lt_of_heap h.cov; omega
theorem Cq.on {w V V' : World} (h : Cq w V) (hb : Below V.heap.size V V') : Cq w V' := by
  have hl := h.lt
  exact ⟨h.below.trans (hb.mono h.below.size), (hb.block _ (by omega)).trans h.tree, (hb.block _ (by omega)).trans h.cov⟩
theorem Cq.kx {w V V' : World} {m : Nat} (h : Cq w V) (hm : w.heap.size + 2 ≤ m) (hk : Kx m V V') : Cq w V' := by
  have hl := h.lt
  exact ⟨h.below.trans (hk.below (by omega) (by omega)), (hk.block _ (by omega) (by omega)).trans h.tree, (hk.block _ (by omega) (by omega)).trans h.cov⟩
theorem Cq.start (w : World) : Cq w ((w.alloc (.cells trZ 32)).alloc (.cells cvZ 34)) := by
  refine ⟨((Below.refl _ _).alloc (Nat.le_refl _) _).alloc (by simp) _, ?_, ?_⟩
  · rw [Below.heap_alloc _ _ _ (by simp)]
    exact new_block w _
  · have := new_block (w.alloc (.cells trZ 32)) (.cells cvZ 34)
    rwa [World.size_alloc] at this
def storeR (w V : World) (a0 a1 a2 a3 a4 b0 b1 b2 : Value) : World := (((((((V.setCell ⟨w.heap.size, 0, none⟩ a0).setCell ⟨w.heap.size, 1, none⟩ a1).setCell ⟨w.heap.size, 2, none⟩ a2).setCell ⟨w.heap.size, 3, none⟩ a3).setCell ⟨w.heap.size, 4, none⟩ a4).setCell ⟨w.heap.size + 1, 0, none⟩ b0).setCell ⟨w.heap.size + 1, 1, none⟩ b1).setCell ⟨w.heap.size + 1, 2, none⟩ b2
theorem Cq.store {w V : World} (h : Cq w V) (a0 a1 a2 a3 a4 b0 b1 b2 : Value) : ∃ U, U = storeR w V a0 a1 a2 a3 a4 b0 b1 b2 ∧ U.heap[w.heap.size]? = some (.cells #[a0, a1, a2, a3, a4] 32 (0, 0)) ∧ U.heap[w.heap.size + 1]? = some (.cells #[b0, b1, b2] 34 (0, 0)) ∧ Below w.heap.size w U ∧ U.heap.size = V.heap.size ∧ ∀ y, y ≠ w.heap.size → y ≠ w.heap.size + 1 → U.heap[y]? = V.heap[y]? := by
  have e0 := setCell_block (i := 0) (v := a0) h.tree
  have e1 := setCell_block (i := 1) (v := a1) e0
  have e2 := setCell_block (i := 2) (v := a2) e1
  have e3 := setCell_block (i := 3) (v := a3) e2
  have e4 := setCell_block (i := 4) (v := a4) e3
  have q : ((((trZ.setIfInBounds 0 a0).setIfInBounds 1 a1).setIfInBounds 2 a2).setIfInBounds 3 a3).setIfInBounds 4 a4 = #[a0, a1, a2, a3, a4] := rfl
  rw [q] at e4
  obtain ⟨V5, hV5⟩ : ∃ V5, V5 = ((((V.setCell ⟨w.heap.size, 0, none⟩ a0).setCell ⟨w.heap.size, 1, none⟩ a1).setCell ⟨w.heap.size, 2, none⟩ a2).setCell ⟨w.heap.size, 3, none⟩ a3).setCell ⟨w.heap.size, 4, none⟩ a4 := ⟨_, rfl⟩
  rw [← hV5] at e4
  have o5 : ∀ y, y ≠ w.heap.size → V5.heap[y]? = V.heap[y]? := fun y hy => by
    rw [hV5, Below.heap_setCell _ _ _ _ hy, Below.heap_setCell _ _ _ _ hy, Below.heap_setCell _ _ _ _ hy, Below.heap_setCell _ _ _ _ hy, Below.heap_setCell _ _ _ _ hy]
  have s5 : V5.heap.size = V.heap.size := by rw [hV5]; simp [World.setCell]
  have b5 : Below w.heap.size w V5 := by
    rw [hV5]
    exact ((((h.below.setCell (p := ⟨w.heap.size, 0, none⟩) (Nat.le_refl _) _).setCell (p := ⟨w.heap.size, 1, none⟩) (Nat.le_refl _) _).setCell (p := ⟨w.heap.size, 2, none⟩) (Nat.le_refl _) _).setCell (p := ⟨w.heap.size, 3, none⟩) (Nat.le_refl _) _).setCell (p := ⟨w.heap.size, 4, none⟩) (Nat.le_refl _) _
  have c5 := (o5 (w.heap.size + 1) (by omega)).trans h.cov
  have f0 := setCell_block (i := 0) (v := b0) c5
  have f1 := setCell_block (i := 1) (v := b1) f0
  have f2 := setCell_block (i := 2) (v := b2) f1
  have q2 : ((cvZ.setIfInBounds 0 b0).setIfInBounds 1 b1).setIfInBounds 2 b2 = #[b0, b1, b2] := rfl
  rw [q2] at f2
  have hU : storeR w V a0 a1 a2 a3 a4 b0 b1 b2 = ((V5.setCell ⟨w.heap.size + 1, 0, none⟩ b0).setCell ⟨w.heap.size + 1, 1, none⟩ b1).setCell ⟨w.heap.size + 1, 2, none⟩ b2 := by rw [hV5]; rfl
  refine ⟨_, rfl, ?_, ?_, ?_, ?_, fun y h1 h2 => ?_⟩
  · rw [hU, Below.heap_setCell _ _ _ _ (by show w.heap.size ≠ w.heap.size + 1; omega), Below.heap_setCell _ _ _ _ (by show w.heap.size ≠ w.heap.size + 1; omega), Below.heap_setCell _ _ _ _ (by show w.heap.size ≠ w.heap.size + 1; omega)]
    exact e4
  · rw [hU]
    exact f2
  · rw [hU]
    exact ((b5.setCell (p := ⟨w.heap.size + 1, 0, none⟩) (by show w.heap.size ≤ w.heap.size + 1; omega) _).setCell (p := ⟨w.heap.size + 1, 1, none⟩) (by show w.heap.size ≤ w.heap.size + 1; omega) _).setCell (p := ⟨w.heap.size + 1, 2, none⟩) (by show w.heap.size ≤ w.heap.size + 1; omega) _
  · rw [hU]
    simp [World.setCell, s5]
  · rw [hU, Below.heap_setCell _ _ _ _ h2, Below.heap_setCell _ _ _ _ h2, Below.heap_setCell _ _ _ _ h2]
    exact o5 y h1
/-- The cells that a return writes. -/
theorem Cq.cells {w V : World} (h : Cq w V) : (V.cell? ⟨w.heap.size, 0, none⟩ = some (.int .i64 0) ∧ V.cell? ⟨w.heap.size, 1, none⟩ = some (.int .i64 0) ∧ V.cell? ⟨w.heap.size, 2, none⟩ = some (.slice none 0 0) ∧ V.cell? ⟨w.heap.size, 3, none⟩ = some (.slice none 0 0) ∧ V.cell? ⟨w.heap.size, 4, none⟩ = some (.slice none 0 0)) ∧ (V.cell? ⟨w.heap.size + 1, 0, none⟩ = some (.bool false) ∧ V.cell? ⟨w.heap.size + 1, 1, none⟩ = some (.slice none 0 0) ∧ V.cell? ⟨w.heap.size + 1, 2, none⟩ = some (.slice none 0 0)) ∧ (∀ o, V.frozen? ⟨w.heap.size, o, none⟩ = false) ∧ ∀ o, V.frozen? ⟨w.heap.size + 1, o, none⟩ = false :=
  ⟨⟨heap_cell' h.tree rfl, heap_cell' h.tree rfl, heap_cell' h.tree rfl, heap_cell' h.tree rfl, heap_cell' h.tree rfl⟩, ⟨heap_cell' h.cov rfl, heap_cell' h.cov rfl, heap_cell' h.cov rfl⟩, fun _ => heap_frozen h.tree, fun _ => heap_frozen h.cov⟩
/-- What stands in memory when the tree is made. -/
structure Ct (F : Nat) (w : World) (S : Nat → Prop) (fv : Value) (b : Nat) (k : Kn) (t : Tr F) (nodes Kb Mb : Nat) (x : Value) (V : World) : Prop where
  cq : Cq w V
  low : w.heap.size + 2 ≤ Kb ∧ w.heap.size + 2 ≤ Mb
  kb : V.heap[Kb]? = some (.cells #[fv, .map (some b)] 58 (0, 0))
  mb : V.heap[Mb]? = some (.cells #[fv, .map (some b), .int .i64 nodes] 65 (0, 0))
  map : MapK V b k
  tree : TrV V (fun y => w.heap.size + 2 ≤ y ∧ y < V.heap.size) F x t
theorem Ct.on {F : Nat} {w : World} {S : Nat → Prop} {fv : Value} {b : Nat} {k : Kn} {t : Tr F} {nodes Kb Mb : Nat} {x : Value} {V V' : World} (h : Ct F w S fv b k t nodes Kb Mb x V) (hb : Below V.heap.size V V') : Ct F w S fv b k t nodes Kb Mb x V' :=
  ⟨h.cq.on hb, h.low, (hb.block _ (lt_of_heap h.kb)).trans h.kb, (hb.block _ (lt_of_heap h.mb)).trans h.mb, h.map.on (hb.block b (Mv.lt h.map)), TrV.below (fun y hy => hb.block y hy.2) (fun _ hy => ⟨hy.1, Nat.lt_of_lt_of_le hy.2 hb.size⟩) F x t h.tree⟩
theorem tree_calls {F : Nat} (hF : F = 5001) {w : World} {S : Nat → Prop} {k : Kn} {fs : List Fam} {rows : List (List Pt)} {fa : Option Addr} {fc b Kb : Nat} {rad : Option Addr} {rcap : Nat} (hkn : knowF 0 [] fs = some k) (hrt : RightR k rows) (hl : rows.length ≤ 200) (hl2 : ∀ r ∈ rows, r.length ≤ 16) {w4 : World} {v4 : Value} (hS : ∀ y, S y → y < w.heap.size) (hq : Cq w w4) (hK : w.heap.size + 2 ≤ Kb) (hkb : w4.heap[Kb]? = some (.cells #[.slice fa fs.length fc, .map (some b)] 58 (0, 0))) (hM : MapK w4 b k) (hF4 : Fams w4 S (.slice fa fs.length fc) fs) (hC : Cols w4 (fun y => S y ∨ (w.heap.size + 2 ≤ y ∧ y < w4.heap.size)) v4 (colsOf [] (rows.headD []).length (linesR rows))) :
    ∃ W5, W5 = w4.alloc (.cells #[.slice fa fs.length fc, .map (some b), .int .i64 0] 65) ∧ Calls Try.prog 21 #[.slice rad rows.length rcap] W5 fun r w6 => ∃ v6, r = .returned v6 ∧ Calls Try.prog 20 #[.pointer (some ⟨w4.heap.size, 0, none⟩), v4, v6] w6 fun r w7 => ∃ a b' pa pl pc ca cl cc ea el ec, r = .returned (.agg #[.int .i64 a, .int .i64 b', .slice pa pl pc, .slice ca cl cc, .slice ea el ec]) ∧ Ct F w S (.slice fa fs.length fc) b k (treeQ F k fs rows).1 (treeQ F k fs rows).2 Kb w4.heap.size (.agg #[.int .i64 a, .int .i64 b', .slice pa pl pc, .slice ca cl cc, .slice ea el ec]) w7 := by
  have hk := knowF_ok hkn
  refine ⟨_, rfl, ?_⟩
  obtain ⟨W5, hW5⟩ : ∃ W5, W5 = w4.alloc (.cells #[.slice fa fs.length fc, .map (some b), .int .i64 0] 65) := ⟨_, rfl⟩
  rw [← hW5]
  have hb5 : Below w4.heap.size w4 W5 := by rw [hW5]; exact (Below.refl _ _).alloc (Nat.le_refl _) _
  have hs5 : W5.heap.size = w4.heap.size + 1 := by rw [hW5]; simp
  have hm5 : W5.heap[w4.heap.size]? = some (.cells #[.slice fa fs.length fc, .map (some b), .int .i64 0] 65 (0, 0)) := by rw [hW5]; exact new_block w4 _
  have hlt := hq.lt
  refine Calls.mono (numbers_any (w := W5) rad rows.length rcap hl) ?_
  rintro r w6 ⟨hb6, v6, rfl, hv6⟩
  refine ⟨v6, rfl, ?_⟩
  have hs6 := hb6.size
  have hb46 : Below w4.heap.size w4 w6 := hb5.trans (hb6.mono (by omega))
  have hq6 : Cq w w6 := hq.on hb46
  have hSl : ∀ y, S y → y < w4.heap.size := fun y hy => by have := hS y hy; omega
  have hgood : ∀ m, ∀ c ∈ colsOf [] (rows.headD []).length (linesR rows), Good k m c := fun m c hc => cols_good hl hc (hrt.2 c hc _) m
  have hwd : (rows.headD []).length ≤ 16 := by
    cases hr : rows with
    | nil => simp
    | cons a r => exact hl2 a (by rw [hr]; simp)
  have hin : TreeIn k fs fa fc b w4.heap.size F 0 (colsOf [] (rows.headD []).length (linesR rows)) (List.range rows.length) v4 v6 (fun y => (S y ∨ (w.heap.size + 2 ≤ y ∧ y < w4.heap.size)) ∨ (W5.heap.size ≤ y ∧ y < w6.heap.size)) w6 := by
    refine ⟨by omega, by omega, (hb6.block _ (by omega)).trans hm5, ?_, hM.on (hb46.block b (Mv.lt hM)), by have := Mv.lt hM; omega, (hF4.on (Keeps.of hb46 hSl)).up fun y hy => .inl (.inl hy), (hC.on (Keeps.of hb46 fun y hy => ?_)).up fun y hy => .inl hy, hv6.up fun y hy => .inr hy, fun c hc => hgood _ c hc, Nat.le_trans (colsOf_len _ _ _) (by omega), List.pairwise_lt_range, fun r hr => by rw [List.mem_range] at hr; omega⟩
    · rintro y ((hy | hy) | hy)
      · have := hSl y hy; exact ⟨by omega, by omega⟩
      · exact ⟨by omega, by omega⟩
      · exact ⟨by omega, by omega⟩
    · rcases hy with hy | hy
      · exact hSl y hy
      · exact hy.2
  refine Calls.mono (tree_any hk F 0 _ _ _ _ _ _ hin) ?_
  rintro r w7 ⟨hk7, hm7, _, x, rfl, hx7⟩
  obtain ⟨a, b', pa, pl, pc, ca, cl, cc, ea, el, ec, rfl⟩ := hx7.parts
  refine ⟨a, b', pa, pl, pc, ca, cl, cc, ea, el, ec, rfl, hq6.kx hlt hk7, ⟨hK, hlt⟩, ?_, hm7, ?_, ?_⟩
  · have := lt_of_heap hkb
    exact (hk7.block Kb (by omega) (by omega)).trans ((hb46.block Kb (by omega)).trans hkb)
  · have := Mv.lt hM
    exact hM.on ((hk7.block b (by omega) (by omega)).trans (hb46.block b (by omega)))
  · exact TrV.below (Keeps.refl _ _) (fun y hy => ⟨by omega, hy.2⟩) F _ _ hx7
def CompPost (F : Nat) (fs : List Fam) (rows : List (List Pt)) (w : World) (r : Ending) (w' : World) : Prop := Below w.heap.size w w' ∧
  ((∃ e : Int, CompIs F fs rows e none ∧ e ≠ 0 ∧ r = .returned (.tuple #[.agg trZ, .agg cvZ, .int .i64 e])) ∨
   ∃ (t : Tr F) (c : Cv F) (x : Value) (ad1 : Option Addr) (c1 : Nat) (ad2 : Option Addr) (c2 : Nat), CompIs F fs rows 0 (some (t, c)) ∧ r = .returned (.tuple #[x, .agg #[.bool c.1, .slice ad1 c.2.1.length c1, .slice ad2 c.2.2.length c2], .int .i64 0]) ∧ TrV w' (fun y => w.heap.size ≤ y ∧ y < w'.heap.size) F x t ∧ Nats w' (fun y => w.heap.size ≤ y ∧ y < w'.heap.size) (.slice ad1 c.2.1.length c1) c.2.1 ∧ Pats w' (fun y => w.heap.size ≤ y ∧ y < w'.heap.size) (.slice ad2 c.2.2.length c2) (c.2.2.map fun u => (⟨F + 1, u⟩ : Pt)))
set_option maxHeartbeats 16000000 in
set_option maxRecDepth 10000 in
theorem compile_any {F : Nat} (hF : F = 5001) {w : World} {S : Nat → Prop} (fs : List Fam) (rows : List (List Pt)) (fa : Option Addr) (fc : Nat) (rv : Value) (hS : ∀ b, S b → b < w.heap.size) (hFm : Fams w S (.slice fa fs.length fc) fs) (hR : RowsAt w S rv rows) (hfl : fs.length ≤ 100000) (hfs : (fs.map fun f => f.1.length).sum ≤ 10000) (hsz : (rows.map szs).sum ≤ 100000) :
    Calls Try.prog 8 #[.slice fa fs.length fc, rv] w (CompPost F fs rows w) := by
  have HF : Hid (F = 5001) := hF
  clear hF
  have hq0 := Cq.start w
  unfold trZ cvZ at hq0
  obtain ⟨W, hW⟩ : ∃ W, W = (w.alloc (.cells #[.int .i64 0, .int .i64 0, .slice none 0 0, .slice none 0 0, .slice none 0 0] 32)).alloc (.cells #[.bool false, .slice none 0 0, .slice none 0 0] 34) := ⟨_, rfl⟩
  rw [← hW] at hq0
  have HQ0 : Hid (Cq w W) := hq0
  obtain ⟨rad, rcap, rfl⟩ := RowP.len hR
  have HIN : Hid ((∀ b, S b → b < w.heap.size) ∧ Fams w S (.slice fa fs.length fc) fs ∧ RowsAt w S (.slice rad rows.length rcap) rows ∧ fs.length ≤ 100000 ∧ (fs.map fun f => f.1.length).sum ≤ 10000 ∧ (rows.map szs).sum ≤ 100000) := ⟨hS, hFm, hR, hfl, hfs, hsz⟩
  have HSV : Hid (∀ V, Cq w V → (∀ b, S b → b < V.heap.size) ∧ Keeps S w V) := fun V hV => ⟨fun y hy => by have := hS y hy; have := hV.below.size; omega, Keeps.of hV.below hS⟩
  have CL := long_any (w := W) (S := S) _ rows (hR.on (HSV.out W hq0).2) (HSV.out W hq0).1
  clear hS hFm hR hfl hfs hsz hq0
  cases hlong : longP rows with
  | true =>
    rw [hlong] at CL
    have HCI : Hid (CompIs F fs rows 2 none) := .inl ⟨hlong, rfl, rfl⟩
    clear hlong
    go_enter Try.func8, Try.ntmps8
    go_upto_region 1 with fail
    rw [← hW]
    clear hW
    go_upto_region 2 with (first | (go_at_call 17; (with_reducible refine Calls.mono CL ?_); rintro e' w1 ⟨rfl, hb1⟩))
    have HQ : Hid (Cq w w1) := HQ0.out.on hb1
    clear hb1
    obtain ⟨⟨g0, g1, g2, g3, g4⟩, ⟨h0, h1, h2⟩, zt, zc⟩ := HQ.out.cells
    have z0 := zt 0
    have z1 := zt 1
    have z2 := zt 2
    have z3 := zt 3
    have z4 := zt 4
    have y0 := zc 0
    have y1 := zc 1
    have y2 := zc 2
    obtain ⟨U, hU, hU1, hU2, hUb, _, _⟩ := HQ.out.store (.int .i64 0) (.int .i64 0) (.slice none 0 0) (.slice none 0 0) (.slice none 0 0) (.bool false) (.slice none 0 0) (.slice none 0 0)
    unfold storeR at hU
    have HUB : Hid (Below w.heap.size w U) := hUb
    clear zt zc hUb
    go_wp2
    rw [← hU]
    have u0 := heap_cell' (i := 0) hU1 rfl
    have u1 := heap_cell' (i := 1) hU1 rfl
    have u2 := heap_cell' (i := 2) hU1 rfl
    have u3 := heap_cell' (i := 3) hU1 rfl
    have u4 := heap_cell' (i := 4) hU1 rfl
    have v0 := heap_cell' (i := 0) hU2 rfl
    have v1 := heap_cell' (i := 1) hU2 rfl
    have v2 := heap_cell' (i := 2) hU2 rfl
    refine bodyPost_ret (v := .tuple #[.agg trZ, .agg cvZ, .int .i64 2]) (by simp [results, Try.results8, go_sem, u0, u1, u2, u3, u4, v0, v1, v2, trZ, cvZ]) rfl ?_
    exact ⟨HUB.out, .inl ⟨2, HCI.out, by decide, rfl⟩⟩
  | false =>
    rw [hlong] at CL
    have HLG : Hid (longP rows = false) := hlong
    clear hlong
    have hlens : rows.length ≤ 200 ∧ ∀ r ∈ rows, r.length ≤ 16 := by
      have := HLG.out
      unfold longP at this
      rw [Bool.or_eq_false_iff, decide_eq_false_iff_not, List.any_eq_false] at this
      refine ⟨by omega, fun r hr => ?_⟩
      have := this.2 r hr
      simp at this
      omega
    have HLN : Hid (rows.length ≤ 200 ∧ ∀ r ∈ rows, r.length ≤ 16) := hlens
    clear hlens
    have HKN : Hid (∀ w1, Below W.heap.size W w1 → Calls Try.prog 18 #[.slice fa fs.length fc] w1 (KnPost w1 (.slice fa fs.length fc) fs)) := fun w1 hb1 => by
      have hq := HQ0.out.on hb1
      exact known_any fa fs fc (HSV.out w1 hq).1 (HIN.out.2.1.on (HSV.out w1 hq).2) HIN.out.2.2.2.1 HIN.out.2.2.2.2.1
    go_enter Try.func8, Try.ntmps8
    go_upto_region 1 with fail
    rw [← hW]
    clear hW
    go_upto_region 3 with (first | (go_at_call 17; (with_reducible refine Calls.mono CL ?_); rintro e' w1 ⟨rfl, hb1⟩))
    have HQ1 : Hid (Cq w w1) := HQ0.out.on hb1
    have CK := HKN.out w1 hb1
    clear hb1 CL HKN HQ0
    cases hkn : knowF 0 [] fs with
    | none =>
      have HCI : Hid (CompIs F fs rows 70 none) := .inr ⟨HLG.out, .inl ⟨hkn, rfl, rfl⟩⟩
      have CK2 : Calls Try.prog 18 #[.slice fa fs.length fc] w1 fun r w' => r = .returned (.tuple #[.agg #[.slice none 0 0, .map none], .bool false]) ∧ Below w1.heap.size w1 w' := Calls.mono CK fun r w' h => by
        obtain ⟨hb, ⟨k, b, h1, _⟩ | ⟨_, h2⟩⟩ := h
        · rw [hkn] at h1; cases h1
        · exact ⟨h2, hb⟩
      clear hkn CK
      go_upto_region 5 with (first | (go_at_call 18; (with_reducible refine Calls.mono CK2 ?_); rintro e' w2 ⟨rfl, hb2⟩))
      have HQ : Hid (Cq w (w2.alloc (.cells #[.slice none 0 0, .map none] 58))) := (HQ1.out.on hb2).on ((Below.refl _ _).alloc (Nat.le_refl _) _)
      generalize hw3 : w2.alloc (.cells #[.slice none 0 0, .map none] 58) = W3 at *
      clear hw3 hb2
      obtain ⟨⟨g0, g1, g2, g3, g4⟩, ⟨h0, h1, h2⟩, zt, zc⟩ := HQ.out.cells
      have z0 := zt 0
      have z1 := zt 1
      have z2 := zt 2
      have z3 := zt 3
      have z4 := zt 4
      have y0 := zc 0
      have y1 := zc 1
      have y2 := zc 2
      obtain ⟨U, hU, hU1, hU2, hUb, _, _⟩ := HQ.out.store (.int .i64 0) (.int .i64 0) (.slice none 0 0) (.slice none 0 0) (.slice none 0 0) (.bool false) (.slice none 0 0) (.slice none 0 0)
      unfold storeR at hU
      have HUB : Hid (Below w.heap.size w U) := hUb
      clear zt zc hUb
      go_wp2
      rw [← hU]
      have u0 := heap_cell' (i := 0) hU1 rfl
      have u1 := heap_cell' (i := 1) hU1 rfl
      have u2 := heap_cell' (i := 2) hU1 rfl
      have u3 := heap_cell' (i := 3) hU1 rfl
      have u4 := heap_cell' (i := 4) hU1 rfl
      have v0 := heap_cell' (i := 0) hU2 rfl
      have v1 := heap_cell' (i := 1) hU2 rfl
      have v2 := heap_cell' (i := 2) hU2 rfl
      refine bodyPost_ret (v := .tuple #[.agg trZ, .agg cvZ, .int .i64 70]) (by simp [results, Try.results8, go_sem, u0, u1, u2, u3, u4, v0, v1, v2, trZ, cvZ]) rfl ?_
      exact ⟨HUB.out, .inl ⟨70, HCI.out, by decide, rfl⟩⟩
    | some k =>
      have hKO := knowF_ok hkn
      have CK2 : Calls Try.prog 18 #[.slice fa fs.length fc] w1 fun r w' => ∃ b, r = .returned (.tuple #[.agg #[.slice fa fs.length fc, .map (some b)], .bool true]) ∧ Below w1.heap.size w1 w' ∧ MapK w' b k := Calls.mono CK fun r w' h => by
        obtain ⟨hb, ⟨k', b, h1, h2, _, h4⟩ | ⟨h1, _⟩⟩ := h
        · rw [hkn] at h1
          obtain rfl := Option.some.inj h1
          exact ⟨b, h2, hb, h4⟩
        · rw [hkn] at h1; cases h1
      have HKN2 : Hid (knowF 0 [] fs = some k ∧ KnOk k fs) := ⟨hkn, hKO⟩
      clear hkn CK hKO
      go_upto_region 6 with (first | (go_at_call 18; (with_reducible refine Calls.mono CK2 ?_); rintro e' w2 ⟨b, rfl, hb2, hm2⟩))
      have hq2 := HQ1.out.on hb2
      obtain ⟨W3, hW3⟩ : ∃ W3, W3 = w2.alloc (.cells #[.slice fa fs.length fc, .map (some b)] 58) := ⟨_, rfl⟩
      rw [← hW3]
      have hb3 : Below w2.heap.size w2 W3 := by rw [hW3]; exact (Below.refl _ _).alloc (Nat.le_refl _) _
      have hk3 : W3.heap[w2.heap.size]? = some (.cells #[.slice fa fs.length fc, .map (some b)] 58 (0, 0)) := by rw [hW3]; exact new_block w2 _
      have HK3 : Hid (Cq w W3 ∧ MapK W3 b k ∧ W3.heap[w2.heap.size]? = some (.cells #[.slice fa fs.length fc, .map (some b)] 58 (0, 0)) ∧ w.heap.size + 2 ≤ w2.heap.size) := ⟨hq2.on hb3, hm2.on (hb3.block b (Mv.lt hm2)), hk3, hq2.lt⟩
      have CR := rcols_any (w := W3) (S := S) fa fs.length fc (.slice rad rows.length rcap) rows HKN2.out.2 (HSV.out W3 HK3.out.1).1 HK3.out.2.1 (HIN.out.2.2.1.on (HSV.out W3 HK3.out.1).2) HLN.out.1 HLN.out.2 HIN.out.2.2.2.2.2
      have kc0 := heap_cell' (i := 0) hk3 rfl
      have kc1 := heap_cell' (i := 1) hk3 rfl
      generalize hKb : w2.heap.size = Kb at *
      clear hq2 hW3 hb3 hk3 hm2 hb2 hKb CK2 HQ1
      by_cases hrt : RightR k rows
      · have CR2 : Calls Try.prog 19 #[.agg #[.slice fa fs.length fc, .map (some b)], .slice rad rows.length rcap] W3 fun r w' => ∃ v, r = .returned (.tuple #[v, .bool true]) ∧ Below W3.heap.size W3 w' ∧ Cols w' (fun b => S b ∨ (W3.heap.size ≤ b ∧ b < w'.heap.size)) v (colsOf [] (rows.headD []).length (linesR rows)) := Calls.mono CR fun r w' h => by
          obtain ⟨hb, ⟨⟨x, hx, hne⟩, _⟩ | ⟨_, v, a, h2, h3, h4⟩⟩ := h
          · exact absurd (hrt.1 x hx) hne
          · obtain rfl : a = true := h4.2 hrt.2
            exact ⟨v, h2, hb, h3⟩
        have HRT : Hid (RightR k rows) := hrt
        have HTC : Hid (∀ w4 v4, Below W3.heap.size W3 w4 → Cols w4 (fun b => S b ∨ (W3.heap.size ≤ b ∧ b < w4.heap.size)) v4 (colsOf [] (rows.headD []).length (linesR rows)) → (w4.cell? ⟨Kb, 0, none⟩ = some (.slice fa fs.length fc) ∧ w4.cell? ⟨Kb, 1, none⟩ = some (.map (some b))) ∧ ∃ W5, W5 = w4.alloc (.cells #[.slice fa fs.length fc, .map (some b), .int .i64 0] 65) ∧ Calls Try.prog 21 #[.slice rad rows.length rcap] W5 fun r w6 => ∃ v6, r = .returned v6 ∧ Calls Try.prog 20 #[.pointer (some ⟨w4.heap.size, 0, none⟩), v4, v6] w6 fun r w7 => ∃ a b' pa pl pc ca cl cc ea el ec, r = .returned (.agg #[.int .i64 a, .int .i64 b', .slice pa pl pc, .slice ca cl cc, .slice ea el ec]) ∧ Ct F w S (.slice fa fs.length fc) b k (treeQ F k fs rows).1 (treeQ F k fs rows).2 Kb w4.heap.size (.agg #[.int .i64 a, .int .i64 b', .slice pa pl pc, .slice ca cl cc, .slice ea el ec]) w7) := fun w4 v4 hb4 hc4 => by
          have h3 := HK3.out
          have hkb4 := (hb4.block Kb (lt_of_heap h3.2.2.1)).trans h3.2.2.1
          have hq4 := h3.1.on hb4
          refine ⟨⟨heap_cell' hkb4 rfl, heap_cell' hkb4 rfl⟩, ?_⟩
          exact tree_calls HF.out HKN2.out.1 HRT.out HLN.out.1 HLN.out.2 HIN.out.1 hq4 h3.2.2.2 hkb4 (h3.2.1.on (hb4.block b (Mv.lt h3.2.1))) (HIN.out.2.1.on (HSV.out w4 hq4).2) (hc4.up fun y hy => hy.imp_right fun e => ⟨by have := h3.1.lt; omega, e.2⟩)
        clear CR hrt
        go_upto_region 9 with (first | (go_at_call 19; (with_reducible refine Calls.mono CR2 ?_); rintro e' w4 ⟨v4, rfl, hb4, hc4⟩))
        obtain ⟨⟨k0, k1⟩, W5, hW5, CN⟩ := HTC.out w4 v4 hb4 hc4
        obtain ⟨cad, ccap, rfl⟩ := RowP.len hc4
        clear hc4 hb4 HTC CR2 kc0 kc1
        generalize (colsOf [] (rows.headD []).length (linesR rows)).length = cn at *
        go_upto_region 10 with fail
        rw [← hW5]
        clear hW5
        generalize hMb : w4.heap.size = Mb at *
        clear hMb
        go_upto_region 11 with (first | (go_at_call 21; (with_reducible refine Calls.mono CN ?_); rintro e' w6 ⟨v6, rfl, CT⟩) | (go_at_call 20; (with_reducible refine Calls.mono CT ?_); rintro e' w7 ⟨ta, tb, pa, pl, pc, ca, cl, cc, ea, el, ec, rfl, hct⟩))
        have HCT : Hid (Ct F w S (.slice fa fs.length fc) b k (treeQ F k fs rows).1 (treeQ F k fs rows).2 Kb Mb (.agg #[.int .i64 ta, .int .i64 tb, .slice pa pl pc, .slice ca cl cc, .slice ea el ec]) w7) := hct
        clear hct CN k0 k1
        obtain ⟨W8, hW8⟩ : ∃ W8, W8 = w7.alloc (.cells #[.int .i64 ta, .int .i64 tb, .slice pa pl pc, .slice ca cl cc, .slice ea el ec] 32) := ⟨_, rfl⟩
        rw [← hW8]
        have hb8 : Below w7.heap.size w7 W8 := by rw [hW8]; exact (Below.refl _ _).alloc (Nat.le_refl _) _
        have ht8 : W8.heap[w7.heap.size]? = some (.cells #[.int .i64 ta, .int .i64 tb, .slice pa pl pc, .slice ca cl cc, .slice ea el ec] 32 (0, 0)) := by rw [hW8]; exact new_block w7 _
        have HC8 : Hid (Ct F w S (.slice fa fs.length fc) b k (treeQ F k fs rows).1 (treeQ F k fs rows).2 Kb Mb (.agg #[.int .i64 ta, .int .i64 tb, .slice pa pl pc, .slice ca cl cc, .slice ea el ec]) W8) := HCT.out.on hb8
        have HT8 : Hid (W8.heap[w7.heap.size]? = some (.cells #[.int .i64 ta, .int .i64 tb, .slice pa pl pc, .slice ca cl cc, .slice ea el ec] 32 (0, 0)) ∧ w.heap.size + 2 ≤ w7.heap.size) := ⟨ht8, HCT.out.cq.lt⟩
        have m2 := heap_cell' (i := 2) HC8.out.mb rfl
        clear hW8 hb8 ht8 HCT
        generalize hTb : w7.heap.size = Tb at *
        clear hTb
        have HNB : Hid (Sm F (treeQ F k fs rows).1 ∧ Tok k fs F (treeQ F k fs rows).1 ∧ (∀ r ∈ metP F (treeQ F k fs rows).1, r < rows.length) ∧ ∀ way, toFail k fs F (treeQ F k fs rows).1 = some way → WayOk (rows.headD []).length way ∧ ∀ s ∈ way, s.2.2 ≤ 8) := by
          have hgood : ∀ c ∈ colsOf [] (rows.headD []).length (linesR rows), Good k 0 c := fun c hc => cols_good HLN.out.1 hc (HRT.out.2 c hc _) 0
          refine ⟨treeP_sm k fs F 0 _ _ fun c hc => (hgood c hc).len, treeP_tok HKN2.out.2 (knowF_pl HKN2.out.1) F 0 _ _ 0 hgood, fun r hr => ?_, fun way h => start_way HKN2.out.2 F 0 _ _ _ way h⟩
          have := treeP_met k fs F 0 _ _ r hr
          rwa [List.mem_range] at this
        have HTQ : Hid (∃ T, T = treeQ F k fs rows) := ⟨_, rfl⟩
        by_cases hbig : 5000 < (treeQ F k fs rows).2
        · have HCI : Hid (CompIs F fs rows 4 none) := .inr ⟨HLG.out, .inr ⟨k, HKN2.out.1, .inr ⟨HRT.out, .inl ⟨hbig, rfl, rfl⟩⟩⟩⟩
          have HQ : Hid (Cq w W8) := HC8.out.cq
          have hbi : decide ((5000 : Int) < ((treeQ F k fs rows).2 : Int)) = true := by simp; omega
          clear HC8 HT8 HNB HTQ
          generalize (treeQ F k fs rows).2 = nodes at *
          have hbi2 : (5000 : Int) < (nodes : Int) := by omega
          clear hbi hbig
          obtain ⟨⟨g0, g1, g2, g3, g4⟩, ⟨h0, h1, h2⟩, zt, zc⟩ := HQ.out.cells
          have z0 := zt 0
          have z1 := zt 1
          have z2 := zt 2
          have z3 := zt 3
          have z4 := zt 4
          have y0 := zc 0
          have y1 := zc 1
          have y2 := zc 2
          obtain ⟨U, hU, hU1, hU2, hUb, _, _⟩ := HQ.out.store (.int .i64 0) (.int .i64 0) (.slice none 0 0) (.slice none 0 0) (.slice none 0 0) (.bool false) (.slice none 0 0) (.slice none 0 0)
          unfold storeR at hU
          have HUB : Hid (Below w.heap.size w U) := hUb
          clear zt zc hUb
          go_wp2
          rw [← hU]
          have u0 := heap_cell' (i := 0) hU1 rfl
          have u1 := heap_cell' (i := 1) hU1 rfl
          have u2 := heap_cell' (i := 2) hU1 rfl
          have u3 := heap_cell' (i := 3) hU1 rfl
          have u4 := heap_cell' (i := 4) hU1 rfl
          have v0 := heap_cell' (i := 0) hU2 rfl
          have v1 := heap_cell' (i := 1) hU2 rfl
          have v2 := heap_cell' (i := 2) hU2 rfl
          refine bodyPost_ret (v := .tuple #[.agg trZ, .agg cvZ, .int .i64 4]) (by simp [results, Try.results8, go_sem, u0, u1, u2, u3, u4, v0, v1, v2, trZ, cvZ]) rfl ?_
          exact ⟨HUB.out, .inl ⟨4, HCI.out, by decide, rfl⟩⟩
        · have HBG : Hid ((treeQ F k fs rows).2 ≤ 5000) := by show _ ≤ _; omega
          have hbi2 : ¬ ((5000 : Int) < ((treeQ F k fs rows).2 : Int)) := by omega
          have CE := nest_any F (by have := HF.out; omega) (treeQ F k fs rows).1 HNB.out.1 W8 (fun y => w.heap.size + 2 ≤ y ∧ y < W8.heap.size) _ (fun y hy => hy.2) HC8.out.tree
          have x0 := heap_cell' (i := 0) HT8.out.1 rfl
          have x1 := heap_cell' (i := 1) HT8.out.1 rfl
          have x2 := heap_cell' (i := 2) HT8.out.1 rfl
          have x3 := heap_cell' (i := 3) HT8.out.1 rfl
          have x4 := heap_cell' (i := 4) HT8.out.1 rfl
          by_cases hnest : 1000 < nestP F (treeQ F k fs rows).1
          · have HCI : Hid (CompIs F fs rows 3 none) := .inr ⟨HLG.out, .inr ⟨k, HKN2.out.1, .inr ⟨HRT.out, .inr ⟨HBG.out, .inl ⟨.inl hnest, rfl, rfl⟩⟩⟩⟩⟩
            have hn1 : decide ((1000 : Int) < (nestP F (treeQ F k fs rows).1 : Int)) = true := by simp; omega
            have HC9 : Hid (∀ V, Below W8.heap.size W8 V → Cq w V) := fun V hV => HC8.out.cq.on hV
            clear HC8 HT8 HNB HTQ HBG hbig hnest
            generalize (treeQ F k fs rows).2 = nodes at *
            generalize nestP F (treeQ F k fs rows).1 = nest at *
            go_upto_region 14 with (first | (go_at_call 22; (with_reducible refine Calls.mono CE ?_); rintro e' w9 ⟨rfl, hb9⟩))
            have HQ : Hid (Cq w w9) := HC9.out w9 hb9
            clear hb9 x0 x1 x2 x3 x4 m2 CE HC9
            obtain ⟨⟨g0, g1, g2, g3, g4⟩, ⟨h0, h1, h2⟩, zt, zc⟩ := HQ.out.cells
            have z0 := zt 0
            have z1 := zt 1
            have z2 := zt 2
            have z3 := zt 3
            have z4 := zt 4
            have y0 := zc 0
            have y1 := zc 1
            have y2 := zc 2
            obtain ⟨U, hU, hU1, hU2, hUb, _, _⟩ := HQ.out.store (.int .i64 0) (.int .i64 0) (.slice none 0 0) (.slice none 0 0) (.slice none 0 0) (.bool false) (.slice none 0 0) (.slice none 0 0)
            unfold storeR at hU
            have HUB : Hid (Below w.heap.size w U) := hUb
            clear zt zc hUb
            go_wp2
            rw [← hU]
            have u0 := heap_cell' (i := 0) hU1 rfl
            have u1 := heap_cell' (i := 1) hU1 rfl
            have u2 := heap_cell' (i := 2) hU1 rfl
            have u3 := heap_cell' (i := 3) hU1 rfl
            have u4 := heap_cell' (i := 4) hU1 rfl
            have v0 := heap_cell' (i := 0) hU2 rfl
            have v1 := heap_cell' (i := 1) hU2 rfl
            have v2 := heap_cell' (i := 2) hU2 rfl
            refine bodyPost_ret (v := .tuple #[.agg trZ, .agg cvZ, .int .i64 3]) (by simp [results, Try.results8, go_sem, u0, u1, u2, u3, u4, v0, v1, v2, trZ, cvZ]) rfl ?_
            exact ⟨HUB.out, .inl ⟨3, HCI.out, by decide, rfl⟩⟩
          · have HNE : Hid (nestP F (treeQ F k fs rows).1 ≤ 1000) := by show _ ≤ _; omega
            have hn1 : decide ((1000 : Int) < (nestP F (treeQ F k fs rows).1 : Int)) = false := by simp; omega
            have HCD : Hid (∀ w9, Below W8.heap.size W8 w9 → Calls Try.prog 23 #[.slice rad rows.length rcap] w9 fun e w' => e = .returned (.bool (deepP rows)) ∧ Below w9.heap.size w9 w') := fun w9 hb9 => by
              have hq := HC8.out.cq.on hb9
              exact deep_any _ rows (HIN.out.2.2.1.on (HSV.out w9 hq).2) (HSV.out w9 hq).1 HLN.out.1 HLN.out.2
            clear hnest hbig
            cases hdp : deepP rows with
            | true =>
              have HCI : Hid (CompIs F fs rows 3 none) := .inr ⟨HLG.out, .inr ⟨k, HKN2.out.1, .inr ⟨HRT.out, .inr ⟨HBG.out, .inl ⟨.inr hdp, rfl, rfl⟩⟩⟩⟩⟩
              rw [hdp] at HCD
              have HC9 : Hid (∀ V, Below W8.heap.size W8 V → Cq w V) := fun V hV => HC8.out.cq.on hV
              clear HC8 HT8 HNB HTQ HBG HNE hdp
              generalize (treeQ F k fs rows).2 = nodes at *
              generalize nestP F (treeQ F k fs rows).1 = nest at *
              go_upto_region 14 with (first | (go_at_call 22; (with_reducible refine Calls.mono CE ?_); rintro e' w9 ⟨rfl, hb9⟩; have CD := HCD.out w9 hb9) | (go_at_call 23; (with_reducible refine Calls.mono CD ?_); rintro e' w10 ⟨rfl, hb10⟩))
              have HQ : Hid (Cq w w10) := (HC9.out w9 hb9).on hb10
              clear hb9 hb10 x0 x1 x2 x3 x4 m2 CE HC9 CD HCD
              obtain ⟨⟨g0, g1, g2, g3, g4⟩, ⟨h0, h1, h2⟩, zt, zc⟩ := HQ.out.cells
              have z0 := zt 0
              have z1 := zt 1
              have z2 := zt 2
              have z3 := zt 3
              have z4 := zt 4
              have y0 := zc 0
              have y1 := zc 1
              have y2 := zc 2
              obtain ⟨U, hU, hU1, hU2, hUb, _, _⟩ := HQ.out.store (.int .i64 0) (.int .i64 0) (.slice none 0 0) (.slice none 0 0) (.slice none 0 0) (.bool false) (.slice none 0 0) (.slice none 0 0)
              unfold storeR at hU
              have HUB : Hid (Below w.heap.size w U) := hUb
              clear zt zc hUb
              go_wp2
              rw [← hU]
              have u0 := heap_cell' (i := 0) hU1 rfl
              have u1 := heap_cell' (i := 1) hU1 rfl
              have u2 := heap_cell' (i := 2) hU1 rfl
              have u3 := heap_cell' (i := 3) hU1 rfl
              have u4 := heap_cell' (i := 4) hU1 rfl
              have v0 := heap_cell' (i := 0) hU2 rfl
              have v1 := heap_cell' (i := 1) hU2 rfl
              have v2 := heap_cell' (i := 2) hU2 rfl
              refine bodyPost_ret (v := .tuple #[.agg trZ, .agg cvZ, .int .i64 3]) (by simp [results, Try.results8, go_sem, u0, u1, u2, u3, u4, v0, v1, v2, trZ, cvZ]) rfl ?_
              exact ⟨HUB.out, .inl ⟨3, HCI.out, by decide, rfl⟩⟩
            | false =>
              have HCI : Hid (CompIs F fs rows 0 (some ((treeQ F k fs rows).1, coverQ F k fs F (treeQ F k fs rows).1 rows))) := .inr ⟨HLG.out, .inr ⟨k, HKN2.out.1, .inr ⟨HRT.out, .inr ⟨HBG.out, .inr ⟨⟨HNE.out, hdp⟩, rfl, rfl⟩⟩⟩⟩⟩
              rw [hdp] at HCD
              clear hdp
              go_upto_region 15 with (first | (go_at_call 22; (with_reducible refine Calls.mono CE ?_); rintro e' w9 ⟨rfl, hb9⟩; have CD := HCD.out w9 hb9) | (go_at_call 23; (with_reducible refine Calls.mono CD ?_); rintro e' w10 ⟨rfl, hb10⟩))
              have H10 : Hid (Below W8.heap.size W8 w10) := hb9.trans (hb10.mono hb9.size)
              have HSC : Hid (∀ V : World, (∀ y, w.heap.size + 2 ≤ y → y < W8.heap.size → V.heap[y]? = W8.heap[y]?) → (V.cell? ⟨Tb, 0, none⟩ = some (.int .i64 ta) ∧ V.cell? ⟨Tb, 1, none⟩ = some (.int .i64 tb) ∧ V.cell? ⟨Tb, 2, none⟩ = some (.slice pa pl pc) ∧ V.cell? ⟨Tb, 3, none⟩ = some (.slice ca cl cc) ∧ V.cell? ⟨Tb, 4, none⟩ = some (.slice ea el ec)) ∧ V.cell? ⟨Kb, 0, none⟩ = some (.slice fa fs.length fc) ∧ V.cell? ⟨Kb, 1, none⟩ = some (.map (some b))) := fun V hV => by
                have h1 := (hV Tb HT8.out.2 (lt_of_heap HT8.out.1)).trans HT8.out.1
                have h2 := (hV Kb HC8.out.low.1 (lt_of_heap HC8.out.kb)).trans HC8.out.kb
                exact ⟨⟨heap_cell' h1 rfl, heap_cell' h1 rfl, heap_cell' h1 rfl, heap_cell' h1 rfl, heap_cell' h1 rfl⟩, heap_cell' h2 rfl, heap_cell' h2 rfl⟩
              have HCV : Hid (Calls Try.prog 24 #[.agg #[.slice fa fs.length fc, .map (some b)], .agg #[.int .i64 ta, .int .i64 tb, .slice pa pl pc, .slice ca cl cc, .slice ea el ec], .slice rad rows.length rcap] w10.drew (CovPost F (coverQ F k fs F (treeQ F k fs rows).1 rows) w10.drew)) := by
                have h10 := (HC8.out.on H10.out).on ((Below.refl _ w10).drew)
                have hkS := (HSV.out _ h10.cq).2
                have hlt := h10.cq.lt
                exact cover_any (w := w10.drew) (S := fun y => S y ∨ (w.heap.size + 2 ≤ y ∧ y < w10.drew.heap.size)) (by have := HF.out; omega) _ rows HNB.out.1 HNB.out.2.1 HKN2.out.2 HNB.out.2.2.1 HNB.out.2.2.2 fa fc _ _ (fun y hy => by
                  rcases hy with hy | hy
                  · exact (HSV.out _ h10.cq).1 y hy
                  · exact hy.2) h10.map ((HIN.out.2.1.on hkS).up fun y hy => .inl hy) (TrV.below (Keeps.refl _ _) (fun y hy => .inr hy) F _ _ h10.tree) ((HIN.out.2.2.1.on hkS).up fun y hy => .inl hy) HLN.out.1 HLN.out.2
              have hS10 := HSC.out w10.drew (fun y _ h2 => H10.out.block y h2)
              have CV2 := HCV.out
              have H11 : Hid (∀ w11, Below w10.drew.heap.size w10.drew w11 → Ct F w S (.slice fa fs.length fc) b k (treeQ F k fs rows).1 (treeQ F k fs rows).2 Kb Mb (.agg #[.int .i64 ta, .int .i64 tb, .slice pa pl pc, .slice ca cl cc, .slice ea el ec]) w11 ∧ (∀ y, w.heap.size + 2 ≤ y → y < W8.heap.size → w11.heap[y]? = W8.heap[y]?) ∧ w.heap.size + 2 ≤ w10.heap.size) := fun w11 hb11 => by
                have hb : Below w10.heap.size w10 w11 := ⟨hb11.os, hb11.tape, hb11.output, hb11.size, hb11.block⟩
                have hb' := H10.out.trans (hb.mono H10.out.size)
                exact ⟨HC8.out.on hb', fun y _ h2 => hb'.block y h2, (HC8.out.on H10.out).cq.lt⟩
              have HST1 : Hid (∀ w11 : World, (∀ y, w.heap.size + 2 ≤ y → y < W8.heap.size → w11.heap[y]? = W8.heap[y]?) → ∀ a0 a1 a2 a3 a4 : Value, ((((((w11.setCell ⟨w.heap.size, 0, none⟩ a0).setCell ⟨w.heap.size, 1, none⟩ a1).setCell ⟨w.heap.size, 2, none⟩ a2).setCell ⟨w.heap.size, 3, none⟩ a3).setCell ⟨w.heap.size, 4, none⟩ a4).cell? ⟨Tb, 0, none⟩ = some (.int .i64 ta) ∧ (((((w11.setCell ⟨w.heap.size, 0, none⟩ a0).setCell ⟨w.heap.size, 1, none⟩ a1).setCell ⟨w.heap.size, 2, none⟩ a2).setCell ⟨w.heap.size, 3, none⟩ a3).setCell ⟨w.heap.size, 4, none⟩ a4).cell? ⟨Tb, 1, none⟩ = some (.int .i64 tb) ∧ (((((w11.setCell ⟨w.heap.size, 0, none⟩ a0).setCell ⟨w.heap.size, 1, none⟩ a1).setCell ⟨w.heap.size, 2, none⟩ a2).setCell ⟨w.heap.size, 3, none⟩ a3).setCell ⟨w.heap.size, 4, none⟩ a4).cell? ⟨Tb, 2, none⟩ = some (.slice pa pl pc) ∧ (((((w11.setCell ⟨w.heap.size, 0, none⟩ a0).setCell ⟨w.heap.size, 1, none⟩ a1).setCell ⟨w.heap.size, 2, none⟩ a2).setCell ⟨w.heap.size, 3, none⟩ a3).setCell ⟨w.heap.size, 4, none⟩ a4).cell? ⟨Tb, 3, none⟩ = some (.slice ca cl cc) ∧ (((((w11.setCell ⟨w.heap.size, 0, none⟩ a0).setCell ⟨w.heap.size, 1, none⟩ a1).setCell ⟨w.heap.size, 2, none⟩ a2).setCell ⟨w.heap.size, 3, none⟩ a3).setCell ⟨w.heap.size, 4, none⟩ a4).cell? ⟨Tb, 4, none⟩ = some (.slice ea el ec)) ∧ (((((w11.setCell ⟨w.heap.size, 0, none⟩ a0).setCell ⟨w.heap.size, 1, none⟩ a1).setCell ⟨w.heap.size, 2, none⟩ a2).setCell ⟨w.heap.size, 3, none⟩ a3).setCell ⟨w.heap.size, 4, none⟩ a4).cell? ⟨Kb, 0, none⟩ = some (.slice fa fs.length fc) ∧ (((((w11.setCell ⟨w.heap.size, 0, none⟩ a0).setCell ⟨w.heap.size, 1, none⟩ a1).setCell ⟨w.heap.size, 2, none⟩ a2).setCell ⟨w.heap.size, 3, none⟩ a3).setCell ⟨w.heap.size, 4, none⟩ a4).cell? ⟨Kb, 1, none⟩ = some (.map (some b))) := fun w11 h11 a0 a1 a2 a3 a4 => HSC.out _ fun y h1 h2 => by
                rw [Below.heap_setCell _ _ _ _ (by show y ≠ w.heap.size; omega), Below.heap_setCell _ _ _ _ (by show y ≠ w.heap.size; omega), Below.heap_setCell _ _ _ _ (by show y ≠ w.heap.size; omega), Below.heap_setCell _ _ _ _ (by show y ≠ w.heap.size; omega), Below.heap_setCell _ _ _ _ (by show y ≠ w.heap.size; omega)]
                exact h11 y h1 h2
              have HST2 : Hid (∀ w11 : World, (∀ y, w.heap.size + 2 ≤ y → y < W8.heap.size → w11.heap[y]? = W8.heap[y]?) → ∀ a0 a1 a2 a3 a4 b0 b1 b2 : Value, (((((((((w11.setCell ⟨w.heap.size, 0, none⟩ a0).setCell ⟨w.heap.size, 1, none⟩ a1).setCell ⟨w.heap.size, 2, none⟩ a2).setCell ⟨w.heap.size, 3, none⟩ a3).setCell ⟨w.heap.size, 4, none⟩ a4).setCell ⟨w.heap.size + 1, 0, none⟩ b0).setCell ⟨w.heap.size + 1, 1, none⟩ b1).setCell ⟨w.heap.size + 1, 2, none⟩ b2).cell? ⟨Tb, 0, none⟩ = some (.int .i64 ta) ∧ ((((((((w11.setCell ⟨w.heap.size, 0, none⟩ a0).setCell ⟨w.heap.size, 1, none⟩ a1).setCell ⟨w.heap.size, 2, none⟩ a2).setCell ⟨w.heap.size, 3, none⟩ a3).setCell ⟨w.heap.size, 4, none⟩ a4).setCell ⟨w.heap.size + 1, 0, none⟩ b0).setCell ⟨w.heap.size + 1, 1, none⟩ b1).setCell ⟨w.heap.size + 1, 2, none⟩ b2).cell? ⟨Tb, 1, none⟩ = some (.int .i64 tb) ∧ ((((((((w11.setCell ⟨w.heap.size, 0, none⟩ a0).setCell ⟨w.heap.size, 1, none⟩ a1).setCell ⟨w.heap.size, 2, none⟩ a2).setCell ⟨w.heap.size, 3, none⟩ a3).setCell ⟨w.heap.size, 4, none⟩ a4).setCell ⟨w.heap.size + 1, 0, none⟩ b0).setCell ⟨w.heap.size + 1, 1, none⟩ b1).setCell ⟨w.heap.size + 1, 2, none⟩ b2).cell? ⟨Tb, 2, none⟩ = some (.slice pa pl pc) ∧ ((((((((w11.setCell ⟨w.heap.size, 0, none⟩ a0).setCell ⟨w.heap.size, 1, none⟩ a1).setCell ⟨w.heap.size, 2, none⟩ a2).setCell ⟨w.heap.size, 3, none⟩ a3).setCell ⟨w.heap.size, 4, none⟩ a4).setCell ⟨w.heap.size + 1, 0, none⟩ b0).setCell ⟨w.heap.size + 1, 1, none⟩ b1).setCell ⟨w.heap.size + 1, 2, none⟩ b2).cell? ⟨Tb, 3, none⟩ = some (.slice ca cl cc) ∧ ((((((((w11.setCell ⟨w.heap.size, 0, none⟩ a0).setCell ⟨w.heap.size, 1, none⟩ a1).setCell ⟨w.heap.size, 2, none⟩ a2).setCell ⟨w.heap.size, 3, none⟩ a3).setCell ⟨w.heap.size, 4, none⟩ a4).setCell ⟨w.heap.size + 1, 0, none⟩ b0).setCell ⟨w.heap.size + 1, 1, none⟩ b1).setCell ⟨w.heap.size + 1, 2, none⟩ b2).cell? ⟨Tb, 4, none⟩ = some (.slice ea el ec)) ∧ ((((((((w11.setCell ⟨w.heap.size, 0, none⟩ a0).setCell ⟨w.heap.size, 1, none⟩ a1).setCell ⟨w.heap.size, 2, none⟩ a2).setCell ⟨w.heap.size, 3, none⟩ a3).setCell ⟨w.heap.size, 4, none⟩ a4).setCell ⟨w.heap.size + 1, 0, none⟩ b0).setCell ⟨w.heap.size + 1, 1, none⟩ b1).setCell ⟨w.heap.size + 1, 2, none⟩ b2).cell? ⟨Kb, 0, none⟩ = some (.slice fa fs.length fc) ∧ ((((((((w11.setCell ⟨w.heap.size, 0, none⟩ a0).setCell ⟨w.heap.size, 1, none⟩ a1).setCell ⟨w.heap.size, 2, none⟩ a2).setCell ⟨w.heap.size, 3, none⟩ a3).setCell ⟨w.heap.size, 4, none⟩ a4).setCell ⟨w.heap.size + 1, 0, none⟩ b0).setCell ⟨w.heap.size + 1, 1, none⟩ b1).setCell ⟨w.heap.size + 1, 2, none⟩ b2).cell? ⟨Kb, 1, none⟩ = some (.map (some b))) := fun w11 h11 a0 a1 a2 a3 a4 b0 b1 b2 => HSC.out _ fun y h1 h2 => by
                rw [Below.heap_setCell _ _ _ _ (by show y ≠ w.heap.size + 1; omega), Below.heap_setCell _ _ _ _ (by show y ≠ w.heap.size + 1; omega), Below.heap_setCell _ _ _ _ (by show y ≠ w.heap.size + 1; omega), Below.heap_setCell _ _ _ _ (by show y ≠ w.heap.size; omega), Below.heap_setCell _ _ _ _ (by show y ≠ w.heap.size; omega), Below.heap_setCell _ _ _ _ (by show y ≠ w.heap.size; omega), Below.heap_setCell _ _ _ _ (by show y ≠ w.heap.size; omega), Below.heap_setCell _ _ _ _ (by show y ≠ w.heap.size; omega)]
                exact h11 y h1 h2
              clear hb9 hb10 x0 x1 x2 x3 x4 m2 CE CD HCD HCV HC8 HT8 HNB HTQ HBG HNE hn1 hbi2 H10
              unfold CovPost at CV2
              generalize hcq : coverQ F k fs F (treeQ F k fs rows).1 rows = cvr at *
              clear hcq
              go_region_held3 (fun w' => (w'.cell? ⟨Tb, 0, none⟩ = some (.int .i64 ta) ∧ w'.cell? ⟨Tb, 1, none⟩ = some (.int .i64 tb) ∧ w'.cell? ⟨Tb, 2, none⟩ = some (.slice pa pl pc) ∧ w'.cell? ⟨Tb, 3, none⟩ = some (.slice ca cl cc) ∧ w'.cell? ⟨Tb, 4, none⟩ = some (.slice ea el ec)) ∧ w'.cell? ⟨Kb, 0, none⟩ = some (.slice fa fs.length fc) ∧ w'.cell? ⟨Kb, 1, none⟩ = some (.map (some b)))
                (first | (with_reducible exact hS10) | (with_reducible exact hS11) | (with_reducible exact HST1.out _ h11 _ _ _ _ _) | (with_reducible exact HST2.out _ h11 _ _ _ _ _ _ _ _))
                (first
                | (go_at_call 24; (with_reducible refine Calls.mono CV2 ?_); rintro e' w11 ⟨hb11, ad1, cp1, ad2, cp2, rfl, hn11, hp11⟩; obtain ⟨hct11, h11, hl11⟩ := H11.out w11 hb11; have hS11 := HSC.out w11 h11; obtain ⟨⟨g0, g1, g2, g3, g4⟩, ⟨h0, h1, h2⟩, zt, zc⟩ := hct11.cq.cells; have z0 := zt 0; have z1 := zt 1; have z2 := zt 2; have z3 := zt 3; have z4 := zt 4; have y0 := zc 0; have y1 := zc 1; have y2 := zc 2))
              obtain ⟨U, hU, hU1, hU2, hUb, hUs, hUo⟩ := hct11.cq.store (.int .i64 ta) (.int .i64 tb) (.slice pa pl pc) (.slice ca cl cc) (.slice ea el ec) (.bool cvr.1) (.slice ad1 cvr.2.1.length cp1) (.slice ad2 cvr.2.2.length cp2)
              unfold storeR at hU
              go_wp2
              rw [← hU]
              have u0 := heap_cell' (i := 0) hU1 rfl
              have u1 := heap_cell' (i := 1) hU1 rfl
              have u2 := heap_cell' (i := 2) hU1 rfl
              have u3 := heap_cell' (i := 3) hU1 rfl
              have u4 := heap_cell' (i := 4) hU1 rfl
              have v0 := heap_cell' (i := 0) hU2 rfl
              have v1 := heap_cell' (i := 1) hU2 rfl
              have v2 := heap_cell' (i := 2) hU2 rfl
              refine bodyPost_ret (v := .tuple #[.agg #[.int .i64 ta, .int .i64 tb, .slice pa pl pc, .slice ca cl cc, .slice ea el ec], .agg #[.bool cvr.1, .slice ad1 cvr.2.1.length cp1, .slice ad2 cvr.2.2.length cp2], .int .i64 0]) (by simp [results, Try.results8, go_sem, u0, u1, u2, u3, u4, v0, v1, v2]) rfl ?_
              have hz : w10.drew.heap.size = w10.heap.size := rfl
              refine ⟨hUb, .inr ⟨_, _, _, ad1, cp1, ad2, cp2, HCI.out, rfl, ?_, ?_, ?_⟩⟩
              · exact TrV.below (fun y hy => hUo y (by omega) (by omega)) (fun y hy => ⟨by omega, by omega⟩) F _ _ hct11.tree
              · exact (hn11.on fun y hy => hUo y (by omega) (by omega)).up fun y hy => ⟨by omega, by omega⟩
              · exact (hp11.on fun y hy => hUo y (by omega) (by omega)).up fun y hy => ⟨by omega, by omega⟩
      · have HCI : Hid (CompIs F fs rows 71 none) := .inr ⟨HLG.out, .inr ⟨k, HKN2.out.1, .inl ⟨hrt, rfl, rfl⟩⟩⟩
        have CR2 : Calls Try.prog 19 #[.agg #[.slice fa fs.length fc, .map (some b)], .slice rad rows.length rcap] W3 fun r w' => ∃ v, r = .returned (.tuple #[v, .bool false]) ∧ Below W3.heap.size W3 w' := Calls.mono CR fun r w' h => by
          obtain ⟨hb, ⟨_, h2⟩ | ⟨h1, v, a, h2, _, h4⟩⟩ := h
          · exact ⟨_, h2, hb⟩
          · cases a with
            | false => exact ⟨v, h2, hb⟩
            | true => exact absurd ⟨h1, h4.1 rfl⟩ hrt
        clear hrt CR
        go_upto_region 8 with (first | (go_at_call 19; (with_reducible refine Calls.mono CR2 ?_); rintro e' w4 ⟨v4, rfl, hb4⟩))
        have HQ : Hid (Cq w w4) := HK3.out.1.on hb4
        clear hb4 kc0 kc1 CR2
        obtain ⟨⟨g0, g1, g2, g3, g4⟩, ⟨h0, h1, h2⟩, zt, zc⟩ := HQ.out.cells
        have z0 := zt 0
        have z1 := zt 1
        have z2 := zt 2
        have z3 := zt 3
        have z4 := zt 4
        have y0 := zc 0
        have y1 := zc 1
        have y2 := zc 2
        obtain ⟨U, hU, hU1, hU2, hUb, _, _⟩ := HQ.out.store (.int .i64 0) (.int .i64 0) (.slice none 0 0) (.slice none 0 0) (.slice none 0 0) (.bool false) (.slice none 0 0) (.slice none 0 0)
        unfold storeR at hU
        have HUB : Hid (Below w.heap.size w U) := hUb
        clear zt zc hUb
        go_wp2
        rw [← hU]
        have u0 := heap_cell' (i := 0) hU1 rfl
        have u1 := heap_cell' (i := 1) hU1 rfl
        have u2 := heap_cell' (i := 2) hU1 rfl
        have u3 := heap_cell' (i := 3) hU1 rfl
        have u4 := heap_cell' (i := 4) hU1 rfl
        have v0 := heap_cell' (i := 0) hU2 rfl
        have v1 := heap_cell' (i := 1) hU2 rfl
        have v2 := heap_cell' (i := 2) hU2 rfl
        refine bodyPost_ret (v := .tuple #[.agg trZ, .agg cvZ, .int .i64 71]) (by simp [results, Try.results8, go_sem, u0, u1, u2, u3, u4, v0, v1, v2, trZ, cvZ]) rfl ?_
        exact ⟨HUB.out, .inl ⟨71, HCI.out, by decide, rfl⟩⟩
end Go.Proofs.Ytpdmkhnonbbhnaa
