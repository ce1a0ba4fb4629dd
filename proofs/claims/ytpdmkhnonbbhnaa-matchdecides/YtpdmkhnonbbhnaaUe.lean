/- meet: the rows that a tree comes to. -/
import Derived.Test.YtpdmkhnonbbhnaaMlx
namespace Go.Proofs.Ytpdmkhnonbbhnaa
open Go.RowKit Go.Maps

def bV (bs : List Bool) : Array Value := (bs.map Value.bool).toArray
def markP (bs : List Bool) (l : List Nat) : List Bool := l.foldl (fun b r => b.set r true) bs
theorem markP_len : ∀ (l : List Nat) (bs : List Bool), (markP bs l).length = bs.length
  | [], _ => rfl
  | a :: r, bs => by
    show (markP (bs.set a true) r).length = _
    rw [markP_len r, List.length_set]
theorem markP_append (bs : List Bool) (a b : List Nat) : markP bs (a ++ b) = markP (markP bs a) b := List.foldl_append
theorem bV_set (bs : List Bool) (r : Nat) : (bV bs).setIfInBounds r (.bool true) = bV (bs.set r true) := by
  unfold bV
  rw [List.setIfInBounds_toArray, List.map_set]
theorem bV_get {bs : List Bool} {r : Nat} (h : r < bs.length) : (bV bs)[r]? = some (.bool bs[r]) := by
  unfold bV
  simp [h]
def MeetC (f : Nat) (t : Tr f) : Prop := ∀ (w : World) (S : Nat → Prop) (x : Value) (mb : Nat) (bs : List Bool), (∀ b, S b → b < w.heap.size ∧ b ≠ mb) → TrV w S f x t → w.heap[mb]? = some (.cells (bV bs) 4 (0, 0)) → (∀ r ∈ metP f t, r < bs.length) → bs.length ≤ 200 →
  Calls Try.prog 38 #[x, .slice (some ⟨mb, 0, none⟩) bs.length bs.length] w fun r w' => r = .returned (.tuple #[]) ∧ Kx mb w w' ∧ w'.heap[mb]? = some (.cells (bV (markP bs (metP f t))) 4 (0, 0))
theorem flat_snoc {α β : Type} (g : α → List β) (l : List α) (i : Nat) (h : i < l.length) : (l.take (i + 1)).flatMap g = (l.take i).flatMap g ++ g l[i] := by
  rw [take_snoc l i h, List.flatMap_append]
  simp
structure Mt (mb : Nat) (bs : List Bool) (l : List Nat) (W wr : World) : Prop where
  kx : Kx mb W wr
  blk : wr.heap[mb]? = some (.cells (bV (markP bs l)) 4 (0, 0))
set_option maxHeartbeats 8000000 in
set_option maxRecDepth 10000 in
theorem meet_step {f : Nat} (t : Tr (f + 1)) (hSm : t.2.1.length ≤ 200 ∧ t.2.2.length ≤ 1) (hC : ∀ c, (c ∈ t.2.1.map (·.2) ∨ c ∈ t.2.2) → MeetC f c) : MeetC (f + 1) t := by
  intro w S x mb bs hS hx hblk hlow hbs
  obtain ⟨pa, pc, ca, cc, ea, ec, rfl, hN, hCs, hEs⟩ := hx
  obtain ⟨_, _, he1, hrow1⟩ := RowP.open hCs
  injection he1 with he1 _ hcc1
  subst he1 hcc1
  obtain ⟨_, _, he2, hrow2⟩ := RowP.open hEs
  injection he2 with he2 _ hcc2
  subst he2 hcc2
  have hR : metP (f + 1) t = (if t.1.1 = 2 then [t.1.2.1] else []) ++ (t.2.1.flatMap fun c => metP f c.2) ++ t.2.2.flatMap (metP f) := rfl
  have HC1 : Hid (∀ i (h : i < t.2.1.length), MeetC f t.2.1[i].2) := fun i h => hC _ (.inl (List.mem_map.2 ⟨_, List.getElem_mem h, rfl⟩))
  have HC2 : Hid (∀ i (h : i < t.2.2.length), MeetC f t.2.2[i]) := fun i h => hC _ (.inr (List.getElem_mem h))
  rw [hR] at hlow ⊢
  obtain ⟨hs1, hs2⟩ := hSm
  have HL1 : Hid (∀ i (h : i < t.2.1.length), ∀ r ∈ metP f t.2.1[i].2, r < bs.length) := fun i h r hr => hlow r (List.mem_append.2 (.inl (List.mem_append.2 (.inr (List.mem_flatMap.2 ⟨_, List.getElem_mem h, hr⟩)))))
  have HL2 : Hid (∀ i (h : i < t.2.2.length), ∀ r ∈ metP f t.2.2[i], r < bs.length) := fun i h r hr => hlow r (List.mem_append.2 (.inr (List.mem_flatMap.2 ⟨_, List.getElem_mem h, hr⟩)))
  have HL0 : Hid (t.1.1 = 2 → t.1.2.1 < bs.length) := fun h => hlow _ (by simp [h])
  generalize t.1.1 = t0 at *
  generalize t.1.2.1 = t1 at *
  generalize t.1.2.2.length = pl at *
  clear hN hCs hEs hR hC
  generalize t.2.1 = l1 at *
  generalize t.2.2 = l2 at *
  have HR1 : Hid (l1 ≠ [] → ∃ g o, ca = some ⟨g, o, none⟩ ∧ l1.length ≤ cc ∧ ∀ j (h : j < l1.length), S g ∧ w.cell? ⟨g, o + j * 7, none⟩ = some (.string ⟨l1[j].1.1.toArray⟩) ∧ w.cell? ⟨g, o + j * 7 + 1, none⟩ = some (.int .i64 l1[j].1.2) ∧ l1[j].1.1.length < 140737488355328 ∧ ∃ v0 v1 v2 v3 v4, w.cell? ⟨g, o + j * 7 + 2, none⟩ = some v0 ∧ w.cell? ⟨g, o + j * 7 + 3, none⟩ = some v1 ∧ w.cell? ⟨g, o + j * 7 + 4, none⟩ = some v2 ∧ w.cell? ⟨g, o + j * 7 + 5, none⟩ = some v3 ∧ w.cell? ⟨g, o + j * 7 + 6, none⟩ = some v4 ∧ TrV w S f (.agg #[v0, v1, v2, v3, v4]) l1[j].2) := hrow1
  have HR2 : Hid (l2 ≠ [] → ∃ g o, ea = some ⟨g, o, none⟩ ∧ l2.length ≤ ec ∧ ∀ j (h : j < l2.length), S g ∧ ∃ v0 v1 v2 v3 v4, w.cell? ⟨g, o + j * 5, none⟩ = some v0 ∧ w.cell? ⟨g, o + j * 5 + 1, none⟩ = some v1 ∧ w.cell? ⟨g, o + j * 5 + 2, none⟩ = some v2 ∧ w.cell? ⟨g, o + j * 5 + 3, none⟩ = some v3 ∧ w.cell? ⟨g, o + j * 5 + 4, none⟩ = some v4 ∧ TrV w S f (.agg #[v0, v1, v2, v3, v4]) l2[j]) := hrow2
  have HS : Hid (∀ b, S b → b < w.heap.size ∧ b ≠ mb) := hS
  have hmbl := lt_of_heap hblk
  have hW : ∃ W, W = w.alloc (Obj.cells #[.int .i64 t0, .int .i64 t1, .slice pa pl pc, .slice ca l1.length cc, .slice ea l2.length ec] 32) ∧ Below w.heap.size w W ∧ W.heap.size = w.heap.size + 1 ∧ W.heap[w.heap.size]? = some (.cells #[.int .i64 t0, .int .i64 t1, .slice pa pl pc, .slice ca l1.length cc, .slice ea l2.length ec] 32 (0, 0)) := ⟨_, rfl, (Below.refl _ _).alloc (Nat.le_refl _) _, by simp, new_block w _⟩
  obtain ⟨W, hW, hbW, hsW, hT⟩ := hW
  have HW : Hid (Below w.heap.size w W ∧ W.heap.size = w.heap.size + 1 ∧ mb < w.heap.size ∧ W.heap[w.heap.size]? = some (.cells #[.int .i64 t0, .int .i64 t1, .slice pa pl pc, .slice ca l1.length cc, .slice ea l2.length ec] 32 (0, 0))) := ⟨hbW, hsW, hmbl, hT⟩
  have hmW := (hbW.block mb hmbl).trans hblk
  have d0 := heap_cell hT (i := 0) rfl
  have d1 := heap_cell hT (i := 1) rfl
  have HM0 : Hid (W.heap[mb]? = some (.cells (bV bs) 4 (0, 0))) := hmW
  have HMZ : Hid (mb < w.heap.size) := hmbl
  clear hrow1 hrow2 hS hlow hbW hsW hT hblk hmW hmbl
  by_cases h2 : t0 = 2
  · subst h2
    rw [if_pos rfl]
    have hlt := HL0.out rfl
    have y := heap_cell HM0.out (bV_get hlt)
    have z := heap_frozen (o := t1) HM0.out
    have i1 : (0 : Int) ≤ (t1 : Int) := by omega
    have i2 : (t1 : Int) < (bs.length : Int) := by omega
    have HMT : Hid (Mt mb bs [t1] W (W.setCell ⟨mb, t1, none⟩ (.bool true))) := ⟨(Kx.refl _ _).setCell _ _, by
      have := setCell_block (i := t1) (v := .bool true) HM0.out
      rw [bV_set] at this
      exact this⟩
    obtain ⟨Wm, hWm⟩ : ∃ Wm, Wm = W.setCell ⟨mb, t1, none⟩ (.bool true) := ⟨_, rfl⟩
    rw [← hWm] at HMT
    generalize bs[t1] = bb at *
    clear hlt
    go_enter Try.func38, Try.ntmps38
    go_upto_region 1 with fail
    rw [← hW]
    clear hW
    go_upto_region 3 with fail
    rw [← hWm]
    clear hWm d0 d1 y z
    have d3 := heap_cell ((HMT.out.kx.block w.heap.size (by have := HW.out.2.1; omega) (by have := HMZ.out; omega)).trans HW.out.2.2.2) (i := 3) rfl
    go_wp2
    clear d3
    go_loopw [18] (fun iv wr => ∃ i : Nat, i ≤ l1.length ∧ iv = .int .i64 i ∧ Hid (Mt mb bs ([t1] ++ (l1.take i).flatMap fun c => metP f c.2) W wr)) (fun iv _ => l1.length - (intOf iv).toNat)
    case atStart => exact ⟨0, by omega, by go_num, by show Mt _ _ _ _ _; have := HMT.out; simpa using this⟩
    case round =>
      obtain ⟨i, hi, rfl, HT⟩ := hrel
      have HKS : Hid (Keeps S w wr) := fun x hx => (HT.out.kx.block x (by have := HW.out.2.1; have := HS.out x hx; omega) (HS.out x hx).2).trans (HW.out.1.block x (HS.out x hx).1)
      have HSZ : Hid (w.heap.size + 1 ≤ wr.heap.size) := by
        show _ ≤ _
        have := HT.out.kx.size
        have := HW.out.2.1
        omega
      by_cases hil : i < l1.length
      · obtain ⟨g, o, rfl, hc, hr⟩ := HR1.out (fun e => by rw [e] at hil; simp at hil)
        obtain ⟨s0, q0, q1, _, v0, v1, v2, v3, v4, q2, q3, q4, q5, q6, ht⟩ := hr i hil
        obtain ⟨a, b, pa', pl', pc', ca', cl', cc', ea', el', ec', rfl, rfl, rfl, rfl, rfl⟩ := ht.vals
        have hk := HKS.out
        have q0 := (hk.cell (p := ⟨g, o + i * 7, none⟩) s0).trans q0
        have q1 := (hk.cell (p := ⟨g, o + i * 7 + 1, none⟩) s0).trans q1
        have q2 := (hk.cell (p := ⟨g, o + i * 7 + 2, none⟩) s0).trans q2
        have q3 := (hk.cell (p := ⟨g, o + i * 7 + 3, none⟩) s0).trans q3
        have q4 := (hk.cell (p := ⟨g, o + i * 7 + 4, none⟩) s0).trans q4
        have q5 := (hk.cell (p := ⟨g, o + i * 7 + 5, none⟩) s0).trans q5
        have q6 := (hk.cell (p := ⟨g, o + i * 7 + 6, none⟩) s0).trans q6
        have hW1 : ∃ W1, W1 = wr.alloc (Obj.cells #[.string ⟨l1[i].1.1.toArray⟩, .int .i64 l1[i].1.2, .int .i64 a, .int .i64 b, .slice pa' pl' pc', .slice ca' cl' cc', .slice ea' el' ec'] 53) ∧ Below wr.heap.size wr W1 ∧ W1.heap.size = wr.heap.size + 1 ∧ W1.cell? ⟨wr.heap.size, 2, none⟩ = some (.int .i64 a) ∧ W1.cell? ⟨wr.heap.size, 3, none⟩ = some (.int .i64 b) ∧ W1.cell? ⟨wr.heap.size, 4, none⟩ = some (.slice pa' pl' pc') ∧ W1.cell? ⟨wr.heap.size, 5, none⟩ = some (.slice ca' cl' cc') ∧ W1.cell? ⟨wr.heap.size, 6, none⟩ = some (.slice ea' el' ec') := ⟨_, rfl, (Below.refl _ _).alloc (Nat.le_refl _) _, by simp, heap_cell' (new_block' wr _) rfl, heap_cell' (new_block' wr _) rfl, heap_cell' (new_block' wr _) rfl, heap_cell' (new_block' wr _) rfl, heap_cell' (new_block' wr _) rfl⟩
        obtain ⟨W1, hW1, hb1, hsz1, x2, x3, x4, x5, x6⟩ := hW1
        have hszr := HSZ.out
        have hmz := HMZ.out
        have hk1 : Keeps S w W1 := hk.trans (Keeps.of hb1 fun b hb => by have := (HS.out b hb).1; omega)
        have CN := HC1.out i hil W1 S _ mb (markP bs ([t1] ++ (l1.take i).flatMap fun c => metP f c.2)) (fun b hb => ⟨by have := (HS.out b hb).1; omega, (HS.out b hb).2⟩) (TrV.below hk1 (fun _ h => h) f _ _ ht) ((hb1.block mb (by omega)).trans HT.out.blk) (fun r hr => by rw [markP_len]; exact HL1.out i hil r hr) (by rw [markP_len]; exact hbs)
        rw [markP_len, ← markP_append, List.append_assoc, ← flat_snoc _ _ _ hil] at CN
        have HK1 : Hid (Kx mb W W1) := HT.out.kx.trans (Kx.of hb1)
        have i1 : (0 : Int) ≤ (i : Int) := by omega
        have i2 : (i : Int) < (l1.length : Int) := by omega
        clear hk hk1 hr ht hb1 hsz1 hszr hmz
        generalize l1[i].1.1 = c0 at *
        generalize l1[i].1.2 = c1 at *
        go_upto_region 6 with fail
        rw [← hW1]
        clear hW1 q0 q1 q2 q3 q4 q5 q6
        go_wp2_with (first | (go_at_call 38; (with_reducible refine Calls.mono CN ?_); rintro e' w2 ⟨rfl, hk2, hb2⟩))
        refine ⟨⟨i + 1, hil, by go_num, HK1.out.trans hk2, hb2⟩, by simp [intOf]; omega⟩
      · obtain rfl : i = l1.length := by omega
        have HT : Hid (Mt mb bs ([t1] ++ l1.flatMap fun c => metP f c.2) W wr) := by
          have := HT.out
          rwa [List.take_length] at this
        have d4 := heap_cell ((HT.out.kx.block w.heap.size (by have := HW.out.2.1; omega) (by have := HMZ.out; omega)).trans HW.out.2.2.2) (i := 4) rfl
        go_wp2
        clear d4
        go_loopw [30] (fun iv wr => ∃ i : Nat, i ≤ l2.length ∧ iv = .int .i64 i ∧ Hid (Mt mb bs ([t1] ++ (l1.flatMap fun c => metP f c.2) ++ (l2.take i).flatMap (metP f)) W wr)) (fun iv _ => l2.length - (intOf iv).toNat)
        case atStart => exact ⟨0, by omega, by go_num, by show Mt _ _ _ _ _; have := HT.out; simpa using this⟩
        case round =>
          obtain ⟨i, hi, rfl, HT⟩ := hrel
          have HKS : Hid (Keeps S w wr) := fun x hx => (HT.out.kx.block x (by have := HW.out.2.1; have := HS.out x hx; omega) (HS.out x hx).2).trans (HW.out.1.block x (HS.out x hx).1)
          have HSZ : Hid (w.heap.size + 1 ≤ wr.heap.size) := by
            show _ ≤ _
            have := HT.out.kx.size
            have := HW.out.2.1
            omega
          by_cases hil2 : i < l2.length
          · obtain ⟨g, o, rfl, hc, hr⟩ := HR2.out (fun e => by rw [e] at hil2; simp at hil2)
            obtain ⟨s0, v0, v1, v2, v3, v4, q2, q3, q4, q5, q6, ht⟩ := hr i hil2
            obtain ⟨a, b, pa', pl', pc', ca', cl', cc', ea', el', ec', rfl, rfl, rfl, rfl, rfl⟩ := ht.vals
            have hk := HKS.out
            have q2 := (hk.cell (p := ⟨g, o + i * 5, none⟩) s0).trans q2
            have q3 := (hk.cell (p := ⟨g, o + i * 5 + 1, none⟩) s0).trans q3
            have q4 := (hk.cell (p := ⟨g, o + i * 5 + 2, none⟩) s0).trans q4
            have q5 := (hk.cell (p := ⟨g, o + i * 5 + 3, none⟩) s0).trans q5
            have q6 := (hk.cell (p := ⟨g, o + i * 5 + 4, none⟩) s0).trans q6
            have hW1 : ∃ W1, W1 = wr.alloc (Obj.cells #[.int .i64 a, .int .i64 b, .slice pa' pl' pc', .slice ca' cl' cc', .slice ea' el' ec'] 32) ∧ Below wr.heap.size wr W1 ∧ W1.heap.size = wr.heap.size + 1 ∧ W1.cell? ⟨wr.heap.size, 0, none⟩ = some (.int .i64 a) ∧ W1.cell? ⟨wr.heap.size, 1, none⟩ = some (.int .i64 b) ∧ W1.cell? ⟨wr.heap.size, 2, none⟩ = some (.slice pa' pl' pc') ∧ W1.cell? ⟨wr.heap.size, 3, none⟩ = some (.slice ca' cl' cc') ∧ W1.cell? ⟨wr.heap.size, 4, none⟩ = some (.slice ea' el' ec') := ⟨_, rfl, (Below.refl _ _).alloc (Nat.le_refl _) _, by simp, heap_cell' (new_block' wr _) rfl, heap_cell' (new_block' wr _) rfl, heap_cell' (new_block' wr _) rfl, heap_cell' (new_block' wr _) rfl, heap_cell' (new_block' wr _) rfl⟩
            obtain ⟨W1, hW1, hb1, hsz1, x2, x3, x4, x5, x6⟩ := hW1
            have hszr := HSZ.out
            have hmz := HMZ.out
            have hk1 : Keeps S w W1 := hk.trans (Keeps.of hb1 fun b hb => by have := (HS.out b hb).1; omega)
            have CN := HC2.out i hil2 W1 S _ mb (markP bs ([t1] ++ (l1.flatMap fun c => metP f c.2) ++ (l2.take i).flatMap (metP f))) (fun b hb => ⟨by have := (HS.out b hb).1; omega, (HS.out b hb).2⟩) (TrV.below hk1 (fun _ h => h) f _ _ ht) ((hb1.block mb (by omega)).trans HT.out.blk) (fun r hr => by rw [markP_len]; exact HL2.out i hil2 r hr) (by rw [markP_len]; exact hbs)
            rw [markP_len, ← markP_append, List.append_assoc _ _ (metP f l2[i]), ← flat_snoc _ _ _ hil2] at CN
            have HK1 : Hid (Kx mb W W1) := HT.out.kx.trans (Kx.of hb1)
            have i1 : (0 : Int) ≤ (i : Int) := by omega
            have i2 : (i : Int) < (l2.length : Int) := by omega
            clear hk hk1 hr ht hb1 hsz1 hszr hmz
            go_upto_region 11 with fail
            rw [← hW1]
            clear hW1 q2 q3 q4 q5 q6
            go_wp2_with (first | (go_at_call 38; (with_reducible refine Calls.mono CN ?_); rintro e' w2 ⟨rfl, hk2, hb2⟩))
            refine ⟨⟨i + 1, hil2, by go_num, HK1.out.trans hk2, hb2⟩, by simp [intOf]; omega⟩
          · obtain rfl : i = l2.length := by omega
            have HT : Hid (Mt mb bs ([t1] ++ (l1.flatMap fun c => metP f c.2) ++ l2.flatMap (metP f)) W wr) := by
              have := HT.out
              rwa [List.take_length] at this
            go_wp2
            refine bodyPost_end (v := .tuple #[]) (by simp [results, Try.results38, go_sem]) rfl ?_
            refine ⟨rfl, (Kx.of HW.out.1).trans HT.out.kx, ?_⟩
            have := HT.out.blk
            simpa using this
  · rw [if_neg h2]
    have HMT : Hid (Mt mb bs [] W W) := ⟨Kx.refl _ _, HM0.out⟩
    go_enter Try.func38, Try.ntmps38
    go_upto_region 1 with fail
    rw [← hW]
    clear hW
    go_upto_region 3 with fail
    clear d0 d1
    have d3 := heap_cell ((HMT.out.kx.block w.heap.size (by have := HW.out.2.1; omega) (by have := HMZ.out; omega)).trans HW.out.2.2.2) (i := 3) rfl
    go_wp2
    clear d3
    go_loopw [18] (fun iv wr => ∃ i : Nat, i ≤ l1.length ∧ iv = .int .i64 i ∧ Hid (Mt mb bs (([] : List Nat) ++ (l1.take i).flatMap fun c => metP f c.2) W wr)) (fun iv _ => l1.length - (intOf iv).toNat)
    case atStart => exact ⟨0, by omega, by go_num, by show Mt _ _ _ _ _; have := HMT.out; simpa using this⟩
    case round =>
      obtain ⟨i, hi, rfl, HT⟩ := hrel
      have HKS : Hid (Keeps S w wr) := fun x hx => (HT.out.kx.block x (by have := HW.out.2.1; have := HS.out x hx; omega) (HS.out x hx).2).trans (HW.out.1.block x (HS.out x hx).1)
      have HSZ : Hid (w.heap.size + 1 ≤ wr.heap.size) := by
        show _ ≤ _
        have := HT.out.kx.size
        have := HW.out.2.1
        omega
      by_cases hil : i < l1.length
      · obtain ⟨g, o, rfl, hc, hr⟩ := HR1.out (fun e => by rw [e] at hil; simp at hil)
        obtain ⟨s0, q0, q1, _, v0, v1, v2, v3, v4, q2, q3, q4, q5, q6, ht⟩ := hr i hil
        obtain ⟨a, b, pa', pl', pc', ca', cl', cc', ea', el', ec', rfl, rfl, rfl, rfl, rfl⟩ := ht.vals
        have hk := HKS.out
        have q0 := (hk.cell (p := ⟨g, o + i * 7, none⟩) s0).trans q0
        have q1 := (hk.cell (p := ⟨g, o + i * 7 + 1, none⟩) s0).trans q1
        have q2 := (hk.cell (p := ⟨g, o + i * 7 + 2, none⟩) s0).trans q2
        have q3 := (hk.cell (p := ⟨g, o + i * 7 + 3, none⟩) s0).trans q3
        have q4 := (hk.cell (p := ⟨g, o + i * 7 + 4, none⟩) s0).trans q4
        have q5 := (hk.cell (p := ⟨g, o + i * 7 + 5, none⟩) s0).trans q5
        have q6 := (hk.cell (p := ⟨g, o + i * 7 + 6, none⟩) s0).trans q6
        have hW1 : ∃ W1, W1 = wr.alloc (Obj.cells #[.string ⟨l1[i].1.1.toArray⟩, .int .i64 l1[i].1.2, .int .i64 a, .int .i64 b, .slice pa' pl' pc', .slice ca' cl' cc', .slice ea' el' ec'] 53) ∧ Below wr.heap.size wr W1 ∧ W1.heap.size = wr.heap.size + 1 ∧ W1.cell? ⟨wr.heap.size, 2, none⟩ = some (.int .i64 a) ∧ W1.cell? ⟨wr.heap.size, 3, none⟩ = some (.int .i64 b) ∧ W1.cell? ⟨wr.heap.size, 4, none⟩ = some (.slice pa' pl' pc') ∧ W1.cell? ⟨wr.heap.size, 5, none⟩ = some (.slice ca' cl' cc') ∧ W1.cell? ⟨wr.heap.size, 6, none⟩ = some (.slice ea' el' ec') := ⟨_, rfl, (Below.refl _ _).alloc (Nat.le_refl _) _, by simp, heap_cell' (new_block' wr _) rfl, heap_cell' (new_block' wr _) rfl, heap_cell' (new_block' wr _) rfl, heap_cell' (new_block' wr _) rfl, heap_cell' (new_block' wr _) rfl⟩
        obtain ⟨W1, hW1, hb1, hsz1, x2, x3, x4, x5, x6⟩ := hW1
        have hszr := HSZ.out
        have hmz := HMZ.out
        have hk1 : Keeps S w W1 := hk.trans (Keeps.of hb1 fun b hb => by have := (HS.out b hb).1; omega)
        have CN := HC1.out i hil W1 S _ mb (markP bs (([] : List Nat) ++ (l1.take i).flatMap fun c => metP f c.2)) (fun b hb => ⟨by have := (HS.out b hb).1; omega, (HS.out b hb).2⟩) (TrV.below hk1 (fun _ h => h) f _ _ ht) ((hb1.block mb (by omega)).trans HT.out.blk) (fun r hr => by rw [markP_len]; exact HL1.out i hil r hr) (by rw [markP_len]; exact hbs)
        rw [markP_len, ← markP_append, List.append_assoc, ← flat_snoc _ _ _ hil] at CN
        have HK1 : Hid (Kx mb W W1) := HT.out.kx.trans (Kx.of hb1)
        have i1 : (0 : Int) ≤ (i : Int) := by omega
        have i2 : (i : Int) < (l1.length : Int) := by omega
        clear hk hk1 hr ht hb1 hsz1 hszr hmz
        generalize l1[i].1.1 = c0 at *
        generalize l1[i].1.2 = c1 at *
        go_upto_region 6 with fail
        rw [← hW1]
        clear hW1 q0 q1 q2 q3 q4 q5 q6
        go_wp2_with (first | (go_at_call 38; (with_reducible refine Calls.mono CN ?_); rintro e' w2 ⟨rfl, hk2, hb2⟩))
        refine ⟨⟨i + 1, hil, by go_num, HK1.out.trans hk2, hb2⟩, by simp [intOf]; omega⟩
      · obtain rfl : i = l1.length := by omega
        have HT : Hid (Mt mb bs (([] : List Nat) ++ l1.flatMap fun c => metP f c.2) W wr) := by
          have := HT.out
          rwa [List.take_length] at this
        have d4 := heap_cell ((HT.out.kx.block w.heap.size (by have := HW.out.2.1; omega) (by have := HMZ.out; omega)).trans HW.out.2.2.2) (i := 4) rfl
        go_wp2
        clear d4
        go_loopw [30] (fun iv wr => ∃ i : Nat, i ≤ l2.length ∧ iv = .int .i64 i ∧ Hid (Mt mb bs (([] : List Nat) ++ (l1.flatMap fun c => metP f c.2) ++ (l2.take i).flatMap (metP f)) W wr)) (fun iv _ => l2.length - (intOf iv).toNat)
        case atStart => exact ⟨0, by omega, by go_num, by show Mt _ _ _ _ _; have := HT.out; simpa using this⟩
        case round =>
          obtain ⟨i, hi, rfl, HT⟩ := hrel
          have HKS : Hid (Keeps S w wr) := fun x hx => (HT.out.kx.block x (by have := HW.out.2.1; have := HS.out x hx; omega) (HS.out x hx).2).trans (HW.out.1.block x (HS.out x hx).1)
          have HSZ : Hid (w.heap.size + 1 ≤ wr.heap.size) := by
            show _ ≤ _
            have := HT.out.kx.size
            have := HW.out.2.1
            omega
          by_cases hil2 : i < l2.length
          · obtain ⟨g, o, rfl, hc, hr⟩ := HR2.out (fun e => by rw [e] at hil2; simp at hil2)
            obtain ⟨s0, v0, v1, v2, v3, v4, q2, q3, q4, q5, q6, ht⟩ := hr i hil2
            obtain ⟨a, b, pa', pl', pc', ca', cl', cc', ea', el', ec', rfl, rfl, rfl, rfl, rfl⟩ := ht.vals
            have hk := HKS.out
            have q2 := (hk.cell (p := ⟨g, o + i * 5, none⟩) s0).trans q2
            have q3 := (hk.cell (p := ⟨g, o + i * 5 + 1, none⟩) s0).trans q3
            have q4 := (hk.cell (p := ⟨g, o + i * 5 + 2, none⟩) s0).trans q4
            have q5 := (hk.cell (p := ⟨g, o + i * 5 + 3, none⟩) s0).trans q5
            have q6 := (hk.cell (p := ⟨g, o + i * 5 + 4, none⟩) s0).trans q6
            have hW1 : ∃ W1, W1 = wr.alloc (Obj.cells #[.int .i64 a, .int .i64 b, .slice pa' pl' pc', .slice ca' cl' cc', .slice ea' el' ec'] 32) ∧ Below wr.heap.size wr W1 ∧ W1.heap.size = wr.heap.size + 1 ∧ W1.cell? ⟨wr.heap.size, 0, none⟩ = some (.int .i64 a) ∧ W1.cell? ⟨wr.heap.size, 1, none⟩ = some (.int .i64 b) ∧ W1.cell? ⟨wr.heap.size, 2, none⟩ = some (.slice pa' pl' pc') ∧ W1.cell? ⟨wr.heap.size, 3, none⟩ = some (.slice ca' cl' cc') ∧ W1.cell? ⟨wr.heap.size, 4, none⟩ = some (.slice ea' el' ec') := ⟨_, rfl, (Below.refl _ _).alloc (Nat.le_refl _) _, by simp, heap_cell' (new_block' wr _) rfl, heap_cell' (new_block' wr _) rfl, heap_cell' (new_block' wr _) rfl, heap_cell' (new_block' wr _) rfl, heap_cell' (new_block' wr _) rfl⟩
            obtain ⟨W1, hW1, hb1, hsz1, x2, x3, x4, x5, x6⟩ := hW1
            have hszr := HSZ.out
            have hmz := HMZ.out
            have hk1 : Keeps S w W1 := hk.trans (Keeps.of hb1 fun b hb => by have := (HS.out b hb).1; omega)
            have CN := HC2.out i hil2 W1 S _ mb (markP bs (([] : List Nat) ++ (l1.flatMap fun c => metP f c.2) ++ (l2.take i).flatMap (metP f))) (fun b hb => ⟨by have := (HS.out b hb).1; omega, (HS.out b hb).2⟩) (TrV.below hk1 (fun _ h => h) f _ _ ht) ((hb1.block mb (by omega)).trans HT.out.blk) (fun r hr => by rw [markP_len]; exact HL2.out i hil2 r hr) (by rw [markP_len]; exact hbs)
            rw [markP_len, ← markP_append, List.append_assoc _ _ (metP f l2[i]), ← flat_snoc _ _ _ hil2] at CN
            have HK1 : Hid (Kx mb W W1) := HT.out.kx.trans (Kx.of hb1)
            have i1 : (0 : Int) ≤ (i : Int) := by omega
            have i2 : (i : Int) < (l2.length : Int) := by omega
            clear hk hk1 hr ht hb1 hsz1 hszr hmz
            go_upto_region 11 with fail
            rw [← hW1]
            clear hW1 q2 q3 q4 q5 q6
            go_wp2_with (first | (go_at_call 38; (with_reducible refine Calls.mono CN ?_); rintro e' w2 ⟨rfl, hk2, hb2⟩))
            refine ⟨⟨i + 1, hil2, by go_num, HK1.out.trans hk2, hb2⟩, by simp [intOf]; omega⟩
          · obtain rfl : i = l2.length := by omega
            have HT : Hid (Mt mb bs (([] : List Nat) ++ (l1.flatMap fun c => metP f c.2) ++ l2.flatMap (metP f)) W wr) := by
              have := HT.out
              rwa [List.take_length] at this
            go_wp2
            refine bodyPost_end (v := .tuple #[]) (by simp [results, Try.results38, go_sem]) rfl ?_
            refine ⟨rfl, (Kx.of HW.out.1).trans HT.out.kx, ?_⟩
            have := HT.out.blk
            simpa using this
theorem meet_any : ∀ (f : Nat) (t : Tr f), Sm f t → MeetC f t
  | 0, t, _ => by
    intro w S x mb bs hS hx hb hl hbs
    have h1 : TrV w S 1 x (trZero 1) := by
      have : x = _ := hx
      rw [this]
      exact trZero_at w S 1
    exact meet_step (f := 0) (trZero 1) ⟨by simp [trZero], by simp [trZero]⟩ (fun c h => by simp [trZero] at h) w S x mb bs hS h1 hb (fun r hr => by simp [metP, trZero] at hr) hbs
  | f + 1, t, hs => meet_step t ⟨hs.1, hs.2.1⟩ fun c hc => by
    rcases hc with hc | hc
    · obtain ⟨d, hd, rfl⟩ := List.mem_map.1 hc
      exact meet_any f _ (hs.2.2.1 d hd)
    · exact meet_any f _ (hs.2.2.2 c hc)
end Go.Proofs.Ytpdmkhnonbbhnaa
