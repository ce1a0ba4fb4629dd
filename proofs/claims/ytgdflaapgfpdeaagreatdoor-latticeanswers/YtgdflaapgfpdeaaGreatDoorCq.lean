/- The program's Canon: its walk, over what it calls. -/
import Derived.Test.YtgdflaapgfpdeaaGreatDoorEv
import Derived.Test.YtgdflaapgfpdeaaGreatDoorMmx
import Derived.Test.YtgdflaapgfpdeaaGreatDoorMa
import Derived.Test.YtgdflaapgfpdeaaGreatDoorMhx
import Derived.RangeFuncWrites
import Derived.Maps.OwnIn
namespace Go.Proofs.YtgdflaapgfpdeaaGreatDoor
open Go.RowKit Go.Maps Go.Shelf
attribute [local go_sem] Oper.semAt_some

theorem idx_le : ∀ (ns : List (List UInt8)) (x : List UInt8), idxN ns x ≤ ns.length
  | [], _ => Nat.le_refl _
  | a :: r, x => by
    rw [idxN]
    split
    · exact Nat.zero_le _
    · have := idx_le r x
      simp
      exact this
theorem idx_app (ns r : List (List UInt8)) (x : List UInt8) (h : ¬ idxN ns x < ns.length) : idxN (ns ++ r) x = ns.length + idxN r x := by
  induction ns with
  | nil => simp
  | cons a l ih =>
    have ha : a ≠ x := fun e => h (by rw [idxN, if_pos e]; simp)
    rw [idxN, if_neg ha] at h
    rw [List.cons_append, idxN, if_neg ha, ih (fun q => h (by simpa using q))]
    simp
    omega
/-- What the map holds when these names have come. -/
def sOf (NS : List (List UInt8)) (n : List UInt8) : Option Value := if idxN NS n < NS.length then some (.agg #[.int .i64 2, strV (letB (idxN NS n)), .slice none 0 0]) else none
theorem sOf_new {NS : List (List UInt8)} {x : List UInt8} (h : ¬ idxN NS x < NS.length) : sOf (NS ++ [x]) = fun y => if y = x then some (.agg #[.int .i64 2, strV (letB NS.length), .slice none 0 0]) else sOf NS y := by
  funext y
  by_cases hy : y = x
  · subst hy
    have e : idxN (NS ++ [y]) y = NS.length := by rw [idx_app _ _ _ h, idxN, if_pos rfl]; rfl
    unfold sOf
    rw [e, if_pos (by simp), if_pos rfl]
  · rw [if_neg hy]
    unfold sOf
    by_cases hn : idxN NS y < NS.length
    · rw [idx_pre (List.prefix_append NS [x]) hn, if_pos hn, if_pos (by simp; omega)]
    · have e : idxN (NS ++ [x]) y = NS.length + 1 := by rw [idx_app _ _ _ hn, idxN, if_neg (fun e => hy e.symm)]; rfl
      rw [e, if_neg hn, if_neg (by simp)]
/-- The names that have come. -/
def foldN (pre : List Nn) : List (List UInt8) := (pre.map Subtype.val).foldl addN []
theorem foldN_snoc (pre : List Nn) (x : Nn) : foldN (pre ++ [x]) = addN (foldN pre) x.1 := by
  unfold foldN
  rw [List.map_append, List.foldl_append]
  rfl
theorem foldN_len (pre : List Nn) : (foldN pre).length ≤ pre.length := by
  have := fold_len (pre.map Subtype.val) []
  simpa [foldN] using this
set_option maxHeartbeats 16000000 in
set_option maxRecDepth 100000 in
theorem canon_walk (X : World → World → Int → ByteArray → Option Addr → Nat → Nat → Prop) (d : Nat) (k : Int) (n : ByteArray) (ad : Option Addr) (len cap : Nat) (t : Tn d) (ys : List Nn) (w : World) (hT : TyAt w w.heap.size d (.agg #[.int .i64 k, .string n, .slice ad len cap]) t) (hys : ys.map Subtype.val = namesT d t) (hyl : ys.length ≤ 500)
    (CW : ∀ (g : Nat) (W : World), Below w.heap.size w W → g < W.heap.size → W.cell? ⟨g, 0, none⟩ = some (.int .i64 k) → W.cell? ⟨g, 1, none⟩ = some (.string n) → W.cell? ⟨g, 2, none⟩ = some (.slice ad len cap) → Calls Tryz.prog 63 #[.slice (some ⟨g, 0, none⟩) 1 1] W fun r w' => r = .returned (.int .i64 0) ∧ Below W.heap.size W w')
    (CN : ∀ (n : Nat) (W : World), n < 2600 → Calls Tryz.prog 65 #[.int .i64 n] W fun r w' => r = .returned (strV (letB n)) ∧ w' = W)
    (CP : ∀ (b : Nat) (W : World), Below w.heap.size w W → Mv W b (foldN ys).length (sOf (foldN ys)) → Calls Tryz.prog 66 #[.map (some b), .agg #[.int .i64 k, .string n, .slice ad len cap]] W fun r w2 => Below W.heap.size W w2 ∧ ∃ k2 n2 ad2 len2 cap2, r = .returned (.agg #[.int .i64 k2, .string n2, .slice ad2 len2 cap2]) ∧ X W w2 k2 n2 ad2 len2 cap2) :
    Calls Tryz.prog 54 #[.agg #[.int .i64 k, .string n, .slice ad len cap]] w fun r w' => Below w.heap.size w w' ∧ ∃ (W w2 : World) (k2 : Int) (n2 : ByteArray) (ad2 : Option Addr) (len2 cap2 : Nat), r = .returned (.tuple #[.agg #[.int .i64 k2, .string n2, .slice ad2 len2 cap2], .int .i64 0]) ∧ w.heap.size ≤ W.heap.size ∧ Below W.heap.size W w2 ∧ X W w2 k2 n2 ad2 len2 cap2 ∧ w'.heap.size = w2.heap.size ∧ ∀ g, W.heap.size ≤ g → w'.heap[g]? = w2.heap[g]? := by
  refine (callsIn_wide (n := 6)).1 ?_
  obtain ⟨W, hW⟩ : ∃ W, W = ((w.alloc (Obj.cells #[.int .i64 k, .string n, .slice ad len cap] 24)).alloc (Obj.cells #[.int .i64 0, .string ⟨#[]⟩, .slice none 0 0] 24)).alloc (Obj.cells #[.int .i64 k, .string n, .slice ad len cap] 24) := ⟨_, rfl⟩
  have hbW : Below w.heap.size w W := by rw [hW]; exact (((Below.refl _ _).alloc (Nat.le_refl _) _).alloc (by simp) _).alloc (by simp; omega) _
  have hsW : W.heap.size = w.heap.size + 3 := by rw [hW]; simp
  have arg : W.heap[w.heap.size]? = some (.cells #[.int .i64 k, .string n, .slice ad len cap] 24 (0, 0)) := by
    rw [hW, Below.heap_alloc _ _ _ (by simp; omega), Below.heap_alloc _ _ _ (by simp)]
    show (w.heap.push _)[w.heap.size]? = _
    simp
  have res : W.heap[w.heap.size + 1]? = some (.cells #[.int .i64 0, .string ⟨#[]⟩, .slice none 0 0] 24 (0, 0)) := by
    rw [hW, Below.heap_alloc _ _ _ (by simp)]
    show ((w.heap.push _).push _)[w.heap.size + 1]? = _
    rw [Array.getElem?_push, if_pos (by simp)]
  have row : W.heap[w.heap.size + 2]? = some (.cells #[.int .i64 k, .string n, .slice ad len cap] 24 (0, 0)) := by
    rw [hW]
    show (((w.heap.push _).push _).push _)[w.heap.size + 2]? = _
    rw [Array.getElem?_push, if_pos (by simp)]
  obtain ⟨c0, c1, c2⟩ := heap_cells row
  have C1 := CW (w.heap.size + 1 + 1) W hbW (by omega) c0 c1 c2
  have HX : Hid (∀ w1, Below W.heap.size W w1 → Below w.heap.size w w1 ∧ W.heap.size ≤ w1.heap.size ∧ w1.heap[w.heap.size]? = some (.cells #[.int .i64 k, .string n, .slice ad len cap] 24 (0, 0)) ∧ w1.heap[w.heap.size + 1]? = some (.cells #[.int .i64 0, .string ⟨#[]⟩, .slice none 0 0] 24 (0, 0))) := fun w1 hb =>
    ⟨hbW.trans (hb.mono (by omega)), hb.size, (hb.block _ (lt_of_heap arg)).trans arg, (hb.block _ (lt_of_heap res)).trans res⟩
  have hmm := @run_makeMap Tryz.prog
  clear CW c0 c1 c2 row arg res hbW
  have f28 : Fence.wide.fn 63 := trivial
  have f29 : Fence.wide.fn 64 := trivial
  have f30 : Fence.wide.fn 65 := trivial
  have f31 : Fence.wide.fn 66 := trivial
  refine callsIn_of_wp_marks Tryz.func54 rfl trivial ?_ rfl
  simp only [Tryz.ntmps54, List.size_toArray, List.length_cons, List.length_nil, Nat.reduceAdd, Nat.reduceSub, Array.replicate_succ, Array.replicate_zero, List.push_toArray, List.append_toArray, List.nil_append, List.cons_append]
  gi_wp2_with (first | (rw [← hW]; gi_at_call 63; refine (callsIn_wide.2 C1).mono ?_; rintro e' w1 ⟨rfl, hb1⟩; obtain ⟨hB1, hs1, arg1, res1⟩ := HX.out _ hb1; obtain ⟨y0, y1, y2⟩ := heap_cells arg1; have hz1 := lt_of_heap arg1; have bm : Below w1.heap.size w1 ((w1.alloc (Obj.map #[] 0)).alloc (Obj.cells #[.map (some w1.heap.size)] 98)) := ((Below.refl _ _).alloc (Nat.le_refl _) _).alloc (by simp) _; have z0 := (bm.cell (p := ⟨w.heap.size, 0, none⟩) hz1).trans y0; have z1 := (bm.cell (p := ⟨w.heap.size, 1, none⟩) hz1).trans y1; have z2 := (bm.cell (p := ⟨w.heap.size, 2, none⟩) hz1).trans y2) | (gi_at_call 64; refine (callsIn_wide.2 (varsOf_any k n ad len cap _)).mono ?_; rintro e' w2 ⟨rfl, rfl⟩))
  obtain ⟨Wl, hWl⟩ : ∃ Wl, Wl = ((w1.alloc (Obj.map #[] 0)).alloc (Obj.cells #[.map (some w1.heap.size)] 98)).alloc (Obj.cells #[.int .i64 k, .string n, .slice ad len cap] 24) := ⟨_, rfl⟩
  rw [← hWl]
  have bl : Below w1.heap.size w1 Wl := by rw [hWl]; exact bm.alloc (by simp; omega) _
  have hsl : Wl.heap.size = w1.heap.size + 3 := by rw [hWl]; simp
  have hml : Mv Wl w1.heap.size 0 (fun _ => none) := by
    have h1 := Mv.made w1
    have h2 : Below (w1.alloc (Obj.map #[] 0)).heap.size (w1.alloc (Obj.map #[] 0)) Wl := by rw [hWl]; exact ((Below.refl _ _).alloc (Nat.le_refl _) _).alloc (by simp) _
    exact h1.below h2
  have hcl : Wl.cell? ⟨w1.heap.size + 1, 0, none⟩ = some (.map (some w1.heap.size)) := by
    have e : Wl.heap[w1.heap.size + 1]? = some (.cells #[.map (some w1.heap.size)] 98 (0, 0)) := by
      rw [hWl, Below.heap_alloc _ _ _ (by simp)]
      show ((w1.heap.push _).push _)[w1.heap.size + 1]? = _
      rw [Array.getElem?_push, if_pos (by simp)]
    simp only [World.cell?, e]
    rfl
  have hbt : Wl.heap[w1.heap.size + 1 + 1]? = some (.cells #[.int .i64 k, .string n, .slice ad len cap] 24 (0, 0)) := by
    rw [hWl]
    show (((w1.heap.push _).push _).push _)[w1.heap.size + 1 + 1]? = _
    rw [Array.getElem?_push, if_pos (by simp)]
  obtain ⟨b0, b1, b2⟩ := heap_cells hbt
  have hTl := hT.on (hB1.trans (bl.mono hB1.size))
  have hszz := hB1.size
  clear hWl hW C1 HX z0 z1 z2 bm hbt y0 y1 y2 hmm
  refine wpIn_rangeFunc_ownG rfl (by omega) (gf := 73) (lb := #[.pointer (some ⟨w1.heap.size + 1 + 1, 0, none⟩)]) rfl trivial (enters_of Tryz.func73 (by kernel_rfl) rfl)
    (vars_stops Fence.wide rfl (6 - 1) trivial trivial rfl (w1.heap.size + 1 + 1) w.heap.size d k n ad len cap t ys Wl (by omega) (by omega) b0 b1 b2 hTl hys) belowK_t (belowK_b (by omega)) (Below.refl _ _) (fun _ => rfl)
    (fun pre W => (W.cell? ⟨w1.heap.size + 1, 0, none⟩ = some (.map (some w1.heap.size)) ∧ Mv W w1.heap.size (foldN pre).length (sOf (foldN pre))) ∧ Below w1.heap.size w1 W)
    (fun _ _ _ => False)
    (OwnFrom.and (fun s A B row hs hg hr => ⟨cell_kept hs.1 hg (fun r e => (hr r e).2), hs.2.on (hg.block _ hs.2.lt (fun e => by have := (hr _ e.symm).1; omega))⟩) (ownFrom_below (Nat.le_refl _) (by omega)))
    (fun _ _ _ _ _ hs _ _ => hs)
    ⟨⟨hcl, hml⟩, bl⟩
    (fun x => { tmps := #[Value.agg #[.int .i64 k, .string n, .slice ad len cap], .pointer (some ⟨w.heap.size, 0, none⟩), .pointer (some ⟨w.heap.size + 1, 0, none⟩), .int .i64 0, .int .i64 0, .pointer (some ⟨w1.heap.size + 1, 0, none⟩), .string ⟨x.1.toArray⟩, undef, undef, Value.agg #[.int .i64 k, .string n, .slice ad len cap], .slice (some ⟨w.heap.size + 1 + 1, 0, none⟩) 1 1, .int .i64 0, .int .i64 0, .bool false, undef, undef, .map (some w1.heap.size), Value.agg #[.int .i64 k, .string n, .slice ad len cap], .func (.func 73) #[] #[.pointer (some ⟨w1.heap.size + 1 + 1, 0, none⟩)], .string ⟨x.1.toArray⟩, undef, undef, undef, undef, undef, undef, undef, undef, undef, undef, undef, undef, undef, undef, undef, undef, undef], defers := [] }) ?assign ?body ?done ?stop
  case assign =>
    intro l x W K hK
    gi_wp2
    exact hK
  case body =>
    rintro l pre x W ⟨⟨hc, hM⟩, hB⟩ hlt
    have hlk := hM.look x.1 x.2
    have hfl := foldN_len pre
    by_cases hin : idxN (foldN pre) x.1 < (foldN pre).length
    · have e1 : sOf (foldN pre) x.1 = some (.agg #[.int .i64 2, strV (letB (idxN (foldN pre) x.1)), .slice none 0 0]) := by unfold sOf; rw [if_pos hin]
      rw [e1] at hlk
      simp only [Option.getD_some, Option.isSome_some] at hlk
      have e2 : foldN (pre ++ [x]) = foldN pre := by rw [foldN_snoc, addN, if_pos hin]
      clear e1
      gi_wp2
      refine ⟨(KeepsOthers.alloc _ _).from _, (Below.refl _ W).alloc (by have := hB.size; omega) _, ⟨cell_kept hc (World.grownBy_alloc W _ none) (fun r e => by cases e), ?_⟩, hB.alloc hB.size _⟩
      rw [e2]
      exact hM.below ((Below.refl _ W).alloc (Nat.le_refl _) _)
    · have e1 : sOf (foldN pre) x.1 = none := by unfold sOf; rw [if_neg hin]
      rw [e1] at hlk
      simp only [Option.getD_none, Option.isSome_none, zeroT] at hlk
      have e2 : foldN (pre ++ [x]) = foldN pre ++ [x.1] := by rw [foldN_snoc, addN, if_neg hin]
      have e3 := sOf_new hin
      generalize foldN pre = NS at *
      obtain ⟨U, hU⟩ : ∃ U, U = W.alloc (Obj.cells #[.int .i64 0, .string ⟨#[]⟩, .slice none 0 0] 24) := ⟨_, rfl⟩
      have hbU : Below W.heap.size W U := by rw [hU]; exact (Below.refl _ W).alloc (Nat.le_refl _) _
      have hMU : Mv U.drew w1.heap.size NS.length (sOf NS) := (hM.below hbU).on rfl
      have hcU : U.cell? ⟨w1.heap.size + 1, 0, none⟩ = some (.map (some w1.heap.size)) := by rw [hU]; exact cell_kept hc (World.grownBy_alloc W _ none) (fun r e => by cases e)
      have hcD : U.drew.cell? ⟨w1.heap.size + 1, 0, none⟩ = some (.map (some w1.heap.size)) := hcU
      have hln := fun ty => hMU.len ty
      obtain ⟨w9, hup, hM9, hg9⟩ := hMU.put x.1 x.2 (by omega) e1 (.agg #[.int .i64 2, strV (letB NS.length), .slice none 0 0])
      have C30 := CN NS.length U.drew (by omega)
      have hmx : Tryz.prog.follows .mixedOrders = true := by kernel_rfl
      have hszB := hB.size
      have HEND : Hid (KeepsFrom Wl.heap.size W w9 ∧ Below w.heap.size W w9 ∧ (w9.cell? ⟨w1.heap.size + 1, 0, none⟩ = some (.map (some w1.heap.size)) ∧ Mv w9 w1.heap.size (foldN (pre ++ [x])).length (sOf (foldN (pre ++ [x])))) ∧ Below w1.heap.size w1 w9) := by
        have hWU : Below w1.heap.size W U := hbU.mono hszB
        refine ⟨(KeepsOthers.trans (by rw [hU]; exact KeepsOthers.alloc _ _) (KeepsOthers.drew _) |>.from _).trans (KeepsFrom.of_grownBy hg9 (fun j e => by cases e; omega)), (hWU.mono hszz).drew.grown hg9 (by have := hbU.size; show _ ≤ U.heap.size; omega) (fun j e => by cases e; exact hszz), ⟨cell_kept hcD hg9 (fun r e => by cases e; obtain ⟨es, ck, hh⟩ := hMU.obj; exact ⟨_, hh, rfl⟩), ?_⟩, (hB.trans hWU).drew.grown hg9 (by have := hbU.size; show _ ≤ U.heap.size; omega) (fun j e => by cases e; exact Nat.le_refl _)⟩
        rw [e2, e3, List.length_append]
        exact hM9
      gi_wp2
      rw [← hU]
      clear hU hlk hc hM hbU hMU hcU hM9 hg9 e1 e2 e3 hszB hB hfl
      gi_region_with_o (gi_at_call 65; refine (CallsIn.inRound l (callsIn_wide.2 C30)).mono ?_; rintro e w' ⟨rfl, rfl⟩)
      all_goals (gi_wp2; exact HEND.out)
  case done =>
    rintro D _ W hD rfl ⟨⟨hc, hM⟩, hB⟩ hK
    have hBw := hB1.trans (hB.mono hszz)
    have CP1 := CP w1.heap.size W hBw hM
    have hsB := hB.size
    have hDW := lt_of_heap hK
    have arg2 := (hB.block _ (lt_of_heap arg1)).trans arg1
    have res2 := (hB.block _ (lt_of_heap res1)).trans res1
    have hr1 := lt_of_heap res1
    obtain ⟨y0, y1, y2⟩ := heap_cells arg2
    have HR : Hid (∀ w2, Below W.heap.size W w2 → w2.heap[w.heap.size + 1]? = some (.cells #[.int .i64 0, .string ⟨#[]⟩, .slice none 0 0] 24 (0, 0)) ∧ w2.heap[D]? = some (.deferred (some []))) := fun w2 h => ⟨(h.block _ (lt_of_heap res2)).trans res2, (h.block _ hDW).trans hK⟩
    have HQ : Hid (Below w.heap.size w W ∧ w.heap.size + 1 < w1.heap.size ∧ w1.heap.size + 3 ≤ D ∧ D < W.heap.size) := ⟨hBw, hr1, by omega, hDW⟩
    clear CP CN hT hTl hys hyl hB arg1 res1 arg2 res2 hM hsl hml hcl b0 b1 b2 bl hB1 hs1 hb1 hszz hBw hD hK hz1 hsB hr1 hsW
    gi_wp2_with (gi_at_call 66; refine (callsIn_wide.2 CP1).mono ?_; rintro e w2 ⟨hb2, k2, n2, ad2, l2, cp2, rfl, hX2⟩; obtain ⟨hr2, hk2⟩ := HR.out w2 hb2; obtain ⟨r0, r1, r2⟩ := heap_cells hr2; have f0 := heap_frozen (o := 0) hr2; have f1 := heap_frozen (o := 1) hr2; have f2 := heap_frozen (o := 2) hr2)
    obtain ⟨V, hV, hv1, hoth, hszV, hbV⟩ := store3 hr2 (.int .i64 k2) (.string n2) (.slice ad2 l2 cp2)
    rw [← hV]
    obtain ⟨q1, q2, q3, q4⟩ := HQ.out
    have hs2 := hb2.size
    have hkV : V.heap[D]? = some (.deferred (some [])) := (hoth D (by omega)).trans hk2
    have ho2 : ∀ g, g ≠ D → (V.putObj D (.deferred none)).heap[g]? = V.heap[g]? := fun g hne => World.putObj_heap_other hne
    have hvz := (ho2 (w.heap.size + 1) (by omega)).trans hv1
    obtain ⟨s0, s1, s2⟩ := heap_cells hvz
    refine ⟨by simp, .inl ⟨_, _, rfl, run_takeDeferred hkV, ?_⟩⟩
    refine ⟨.tuple #[.agg #[.int .i64 k2, .string n2, .slice ad2 l2 cp2], .int .i64 0], by simp [results, Tryz.results54, go_sem, s0, s1, s2], ?_, W, w2, k2, n2, ad2, l2, cp2, rfl, q1.size, hb2, hX2, by simp [hszV], fun g hg => ?_⟩
    · have h1 : Below w.heap.size w V := (q1.trans (hb2.mono (by omega))).trans (hbV.mono (by omega))
      exact h1.trans (belowK_b (w := w) (Nat.le_refl _) V D _ _ (by omega) hkV rfl rfl)
    · rw [ho2 g (by omega), hoth g (by omega)]
  case stop =>
    rintro D c pre W _ _ h _
    exact h.elim
set_option maxHeartbeats 4000000 in
set_option maxRecDepth 10000 in
theorem canon_bad (e : Int) (he : e ≠ 0) (k : Int) (n : ByteArray) (ad : Option Addr) (len cap : Nat) (w : World)
    (CW : ∀ (g : Nat) (W : World), Below w.heap.size w W → g < W.heap.size → W.cell? ⟨g, 0, none⟩ = some (.int .i64 k) → W.cell? ⟨g, 1, none⟩ = some (.string n) → W.cell? ⟨g, 2, none⟩ = some (.slice ad len cap) → Calls Tryz.prog 63 #[.slice (some ⟨g, 0, none⟩) 1 1] W fun r w' => r = .returned (.int .i64 e) ∧ Below W.heap.size W w') :
    Calls Tryz.prog 54 #[.agg #[.int .i64 k, .string n, .slice ad len cap]] w fun r w' => Below w.heap.size w w' ∧ r = .returned (.tuple #[.agg #[.int .i64 0, .string ⟨#[]⟩, .slice none 0 0], .int .i64 e]) := by
  obtain ⟨W, hW⟩ : ∃ W, W = ((w.alloc (Obj.cells #[.int .i64 k, .string n, .slice ad len cap] 24)).alloc (Obj.cells #[.int .i64 0, .string ⟨#[]⟩, .slice none 0 0] 24)).alloc (Obj.cells #[.int .i64 k, .string n, .slice ad len cap] 24) := ⟨_, rfl⟩
  have hbW : Below w.heap.size w W := by rw [hW]; exact (((Below.refl _ _).alloc (Nat.le_refl _) _).alloc (by simp) _).alloc (by simp; omega) _
  have hsW : W.heap.size = w.heap.size + 3 := by rw [hW]; simp
  have res : W.heap[w.heap.size + 1]? = some (.cells #[.int .i64 0, .string ⟨#[]⟩, .slice none 0 0] 24 (0, 0)) := by
    rw [hW, Below.heap_alloc _ _ _ (by simp)]
    show ((w.heap.push _).push _)[w.heap.size + 1]? = _
    rw [Array.getElem?_push, if_pos (by simp)]
  have row : W.heap[w.heap.size + 2]? = some (.cells #[.int .i64 k, .string n, .slice ad len cap] 24 (0, 0)) := by
    rw [hW]
    show (((w.heap.push _).push _).push _)[w.heap.size + 2]? = _
    rw [Array.getElem?_push, if_pos (by simp)]
  obtain ⟨c0, c1, c2⟩ := heap_cells row
  have C1 := CW (w.heap.size + 1 + 1) W hbW (by omega) c0 c1 c2
  have HX : Hid (∀ w1, Below W.heap.size W w1 → Below w.heap.size w w1 ∧ w1.heap[w.heap.size + 1]? = some (.cells #[.int .i64 0, .string ⟨#[]⟩, .slice none 0 0] 24 (0, 0))) := fun w1 hb =>
    ⟨hbW.trans (hb.mono (by omega)), (hb.block _ (lt_of_heap res)).trans res⟩
  have hneb : (e != 0) = true := by simpa using he
  have HE : Hid (e ≠ 0) := he
  clear CW c0 c1 c2 row res hbW hsW he
  go_enter Tryz.func54, Tryz.ntmps54
  go_upto_region 3 with (rw [← hW]; go_at_call 63; (with_reducible refine Calls.mono C1 ?_); rintro e' w1 ⟨rfl, hb1⟩)
  obtain ⟨hB1, res1⟩ := HX.out w1 hb1
  obtain ⟨r0, r1, r2⟩ := heap_cells res1
  have g0 := heap_frozen (o := 0) res1
  have g1 := heap_frozen (o := 1) res1
  have g2 := heap_frozen (o := 2) res1
  have HB1 : Hid (Below w.heap.size w w1) := hB1
  clear hb1 C1 hB1
  go_wp2
  obtain ⟨W', hW', hz', hoth, hsz, hbz'⟩ := store3 res1 (.int .i64 0) (.string ⟨#[]⟩) (.slice none 0 0)
  rw [← hW']
  obtain ⟨s0, s1, s2⟩ := heap_cells hz'
  refine bodyPost_ret (v := .tuple #[.agg #[.int .i64 0, .string ⟨#[]⟩, .slice none 0 0], .int .i64 e]) (by simp [results, Tryz.results54, go_sem, s0, s1, s2]) rfl ?_
  exact ⟨HB1.out.trans (hbz'.mono (by omega)), rfl⟩
end Go.Proofs.YtgdflaapgfpdeaaGreatDoor
