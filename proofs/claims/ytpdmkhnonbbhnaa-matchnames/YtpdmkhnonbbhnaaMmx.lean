/- nestOf: how many levels a tree has. What is known of the tree of rows: not too many cases, its rows are of the rows given. -/
import Derived.Test.YtpdmkhnonbbhnaaMlx
namespace Go.Proofs.Ytpdmkhnonbbhnaa
open Go.RowKit Go.Maps

theorem TrV.vals {w : World} {S : Nat → Prop} {f : Nat} {v0 v1 v2 v3 v4 : Value} {t : Tr f} (h : TrV w S f (.agg #[v0, v1, v2, v3, v4]) t) : ∃ a b pa pl pc ca cl cc ea el ec, v0 = .int .i64 a ∧ v1 = .int .i64 b ∧ v2 = .slice pa pl pc ∧ v3 = .slice ca cl cc ∧ v4 = .slice ea el ec := by
  obtain ⟨a, b, pa, pl, pc, ca, cl, cc, ea, el, ec, e⟩ := h.parts
  injection e with e
  injection e with e
  injection e with e0 e
  injection e with e1 e
  injection e with e2 e
  injection e with e3 e
  injection e with e4 e
  exact ⟨a, b, pa, pl, pc, ca, cl, cc, ea, el, ec, e0, e1, e2, e3, e4⟩
theorem foldl_max_le : ∀ (l : List Nat) (a B : Nat), a ≤ B → (∀ x ∈ l, x ≤ B) → l.foldl max a ≤ B
  | [], _, _, h, _ => h
  | x :: r, a, B, h, hl => by
    rw [List.foldl_cons]
    exact foldl_max_le r _ B (by have := hl x (by simp); omega) (fun y hy => hl y (by simp [hy]))
theorem nestP_le : ∀ (f : Nat) (t : Tr f), nestP f t ≤ f + 1
  | 0, _ => Nat.le_refl _
  | f + 1, t => by
    unfold nestP
    have h1 : (t.2.1.map fun c => nestP f c.2).foldl max 0 ≤ f + 1 := foldl_max_le _ _ _ (by omega) (fun x hx => by
      obtain ⟨c, _, rfl⟩ := List.mem_map.1 hx
      exact nestP_le f c.2)
    have h2 := foldl_max_le (t.2.2.map (nestP f)) _ (f + 1) h1 (fun x hx => by
      obtain ⟨c, _, rfl⟩ := List.mem_map.1 hx
      exact nestP_le f c)
    omega
/-- Not more than 200 cases, not more than one else, in the whole tree. -/
def Sm : (f : Nat) → Tr f → Prop
  | 0, _ => True
  | f + 1, t => t.2.1.length ≤ 200 ∧ t.2.2.length ≤ 1 ∧ (∀ c ∈ t.2.1, Sm f c.2) ∧ ∀ e ∈ t.2.2, Sm f e
theorem Sm.zero : ∀ f, Sm f (trZero f)
  | 0 => trivial
  | _ + 1 => ⟨by simp [trZero], by simp [trZero], fun c h => by simp [trZero] at h, fun c h => by simp [trZero] at h⟩
def NestC (f : Nat) (t : Tr f) : Prop := ∀ (w : World) (S : Nat → Prop) (x : Value), (∀ b, S b → b < w.heap.size) → TrV w S f x t → Calls Try.prog 22 #[x] w fun r w' => r = .returned (.int .i64 (nestP f t)) ∧ Below w.heap.size w w'
theorem foldl_snoc (l : List Nat) (i a : Nat) (h : i < l.length) : (l.take (i + 1)).foldl max a = max ((l.take i).foldl max a) l[i] := by
  rw [take_snoc l i h, List.foldl_append]
  rfl
set_option maxHeartbeats 8000000 in
set_option maxRecDepth 10000 in
theorem nest_step {f : Nat} (t : Tr (f + 1)) (hle : f ≤ 5001) (hSm : t.2.1.length ≤ 200 ∧ t.2.2.length ≤ 1) (hC : ∀ c, (c ∈ t.2.1.map (·.2) ∨ c ∈ t.2.2) → NestC f c) : NestC (f + 1) t := by
  intro w S x hS hx
  obtain ⟨pa, pc, ca, cc, ea, ec, rfl, hN, hCs, hEs⟩ := hx
  obtain ⟨_, _, he1, hrow1⟩ := RowP.open hCs
  injection he1 with he1 _ hcc1
  subst he1 hcc1
  obtain ⟨_, _, he2, hrow2⟩ := RowP.open hEs
  injection he2 with he2 _ hcc2
  subst he2 hcc2
  have hR : nestP (f + 1) t = (t.2.2.map (nestP f)).foldl max ((t.2.1.map fun c => nestP f c.2).foldl max 0) + 1 := rfl
  have hb1 : ∀ x ∈ (t.2.1.map fun c => nestP f c.2), x ≤ f + 1 := fun x hx => by obtain ⟨c, _, rfl⟩ := List.mem_map.1 hx; exact nestP_le f c.2
  have hb2 : ∀ x ∈ (t.2.2.map (nestP f)), x ≤ f + 1 := fun x hx => by obtain ⟨c, _, rfl⟩ := List.mem_map.1 hx; exact nestP_le f c
  have HC1 : Hid (∀ i (h : i < t.2.1.length), NestC f t.2.1[i].2) := fun i h => hC _ (.inl (List.mem_map.2 ⟨_, List.getElem_mem h, rfl⟩))
  have HC2 : Hid (∀ i (h : i < t.2.2.length), NestC f t.2.2[i]) := fun i h => hC _ (.inr (List.getElem_mem h))
  rw [hR]
  generalize t.1.1 = t0
  generalize t.1.2.1 = t1
  generalize t.1.2.2.length = pl
  clear hN hCs hEs hR hC
  obtain ⟨hs1, hs2⟩ := hSm
  generalize t.2.1 = l1 at *
  generalize t.2.2 = l2 at *
  have HR1 : Hid (l1 ≠ [] → ∃ g o, ca = some ⟨g, o, none⟩ ∧ l1.length ≤ cc ∧ ∀ j (h : j < l1.length), S g ∧ w.cell? ⟨g, o + j * 7, none⟩ = some (.string ⟨l1[j].1.1.toArray⟩) ∧ w.cell? ⟨g, o + j * 7 + 1, none⟩ = some (.int .i64 l1[j].1.2) ∧ l1[j].1.1.length < 140737488355328 ∧ ∃ v0 v1 v2 v3 v4, w.cell? ⟨g, o + j * 7 + 2, none⟩ = some v0 ∧ w.cell? ⟨g, o + j * 7 + 3, none⟩ = some v1 ∧ w.cell? ⟨g, o + j * 7 + 4, none⟩ = some v2 ∧ w.cell? ⟨g, o + j * 7 + 5, none⟩ = some v3 ∧ w.cell? ⟨g, o + j * 7 + 6, none⟩ = some v4 ∧ TrV w S f (.agg #[v0, v1, v2, v3, v4]) l1[j].2) := hrow1
  have HR2 : Hid (l2 ≠ [] → ∃ g o, ea = some ⟨g, o, none⟩ ∧ l2.length ≤ ec ∧ ∀ j (h : j < l2.length), S g ∧ ∃ v0 v1 v2 v3 v4, w.cell? ⟨g, o + j * 5, none⟩ = some v0 ∧ w.cell? ⟨g, o + j * 5 + 1, none⟩ = some v1 ∧ w.cell? ⟨g, o + j * 5 + 2, none⟩ = some v2 ∧ w.cell? ⟨g, o + j * 5 + 3, none⟩ = some v3 ∧ w.cell? ⟨g, o + j * 5 + 4, none⟩ = some v4 ∧ TrV w S f (.agg #[v0, v1, v2, v3, v4]) l2[j]) := hrow2
  have HS : Hid (∀ b, S b → b < w.heap.size) := hS
  have HB1 : Hid (∀ i, ((l1.map fun c => nestP f c.2).take i).foldl max 0 ≤ f + 1) := fun i => foldl_max_le _ _ _ (by omega) (fun x hx => hb1 x (List.mem_of_mem_take hx))
  have HB2 : Hid (∀ i, ((l2.map (nestP f)).take i).foldl max ((l1.map fun c => nestP f c.2).foldl max 0) ≤ f + 1) := fun i => foldl_max_le _ _ _ (foldl_max_le _ _ _ (by omega) hb1) (fun x hx => hb2 x (List.mem_of_mem_take hx))
  clear hrow1 hrow2 hS hb1 hb2
  have hW : ∃ W, W = w.alloc (Obj.cells #[.int .i64 t0, .int .i64 t1, .slice pa pl pc, .slice ca l1.length cc, .slice ea l2.length ec] 32) ∧ Below w.heap.size w W ∧ W.heap.size = w.heap.size + 1 ∧ W.cell? ⟨w.heap.size, 3, none⟩ = some (.slice ca l1.length cc) ∧ W.cell? ⟨w.heap.size, 4, none⟩ = some (.slice ea l2.length ec) := ⟨_, rfl, (Below.refl _ _).alloc (Nat.le_refl _) _, by simp, heap_cell' (new_block' w _) rfl, heap_cell' (new_block' w _) rfl⟩
  obtain ⟨W, hW, hbW, hsW, d3, d4⟩ := hW
  have HW : Hid (Below w.heap.size w W ∧ W.heap.size = w.heap.size + 1 ∧ W.cell? ⟨w.heap.size, 4, none⟩ = some (.slice ea l2.length ec)) := ⟨hbW, hsW, d4⟩
  clear hbW hsW d4
  go_enter Try.func22, Try.ntmps22
  go_upto_region 1 with fail
  rw [← hW]
  clear hW
  go_wp2
  clear d3
  have HLe : Hid (f ≤ 5001) := hle
  clear hle
  go_loopw [3, 11] (fun mv iv wr => ∃ i : Nat, i ≤ l1.length ∧ mv = .int .i64 (((l1.map fun c => nestP f c.2).take i).foldl max 0 : Nat) ∧ iv = .int .i64 i ∧ Hid (Below W.heap.size W wr)) (fun _ iv _ => l1.length - (intOf iv).toNat)
  case atStart => exact ⟨0, by omega, by go_num, by go_num, Below.refl _ _⟩
  case round =>
    obtain ⟨i, hi, rfl, rfl, HT⟩ := hrel
    have HBw : Hid (Below w.heap.size w wr) := HW.out.1.trans (HT.out.mono (by have := HW.out.2.1; omega))
    by_cases hil : i < l1.length
    · obtain ⟨g, o, rfl, hc, hr⟩ := HR1.out (fun e => by rw [e] at hil; simp at hil)
      obtain ⟨s0, q0, q1, _, v0, v1, v2, v3, v4, q2, q3, q4, q5, q6, ht⟩ := hr i hil
      obtain ⟨a, b, pa', pl', pc', ca', cl', cc', ea', el', ec', rfl, rfl, rfl, rfl, rfl⟩ := ht.vals
      have hk := Keeps.of HBw.out HS.out
      have q0 := (hk.cell (p := ⟨g, o + i * 7, none⟩) s0).trans q0
      have q1 := (hk.cell (p := ⟨g, o + i * 7 + 1, none⟩) s0).trans q1
      have q2 := (hk.cell (p := ⟨g, o + i * 7 + 2, none⟩) s0).trans q2
      have q3 := (hk.cell (p := ⟨g, o + i * 7 + 3, none⟩) s0).trans q3
      have q4 := (hk.cell (p := ⟨g, o + i * 7 + 4, none⟩) s0).trans q4
      have q5 := (hk.cell (p := ⟨g, o + i * 7 + 5, none⟩) s0).trans q5
      have q6 := (hk.cell (p := ⟨g, o + i * 7 + 6, none⟩) s0).trans q6
      have hW1 : ∃ W1, W1 = wr.alloc (Obj.cells #[.string ⟨l1[i].1.1.toArray⟩, .int .i64 l1[i].1.2, .int .i64 a, .int .i64 b, .slice pa' pl' pc', .slice ca' cl' cc', .slice ea' el' ec'] 53) ∧ Below wr.heap.size wr W1 ∧ W1.heap.size = wr.heap.size + 1 ∧ W1.cell? ⟨wr.heap.size, 2, none⟩ = some (.int .i64 a) ∧ W1.cell? ⟨wr.heap.size, 3, none⟩ = some (.int .i64 b) ∧ W1.cell? ⟨wr.heap.size, 4, none⟩ = some (.slice pa' pl' pc') ∧ W1.cell? ⟨wr.heap.size, 5, none⟩ = some (.slice ca' cl' cc') ∧ W1.cell? ⟨wr.heap.size, 6, none⟩ = some (.slice ea' el' ec') := ⟨_, rfl, (Below.refl _ _).alloc (Nat.le_refl _) _, by simp, heap_cell' (new_block' wr _) rfl, heap_cell' (new_block' wr _) rfl, heap_cell' (new_block' wr _) rfl, heap_cell' (new_block' wr _) rfl, heap_cell' (new_block' wr _) rfl⟩
      obtain ⟨W1, hW1, hb1, hsz1, x2, x3, x4, x5, x6⟩ := hW1
      have hk1 : Keeps S w W1 := hk.trans (Keeps.of hb1 fun b hb => Nat.lt_of_lt_of_le (HS.out b hb) HBw.out.size)
      have CN := HC1.out i hil W1 S _ (fun b hb => by have := HS.out b hb; have := HBw.out.size; omega) (TrV.below hk1 (fun _ h => h) f _ _ ht)
      have HB1' : Hid (Below W.heap.size W W1) := HT.out.trans (hb1.mono HT.out.size)
      have HWS : Hid (W.heap.size ≤ W1.heap.size) := HB1'.out.size
      have HSN : Hid (((l1.map fun c => nestP f c.2).take (i + 1)).foldl max 0 = max (((l1.map fun c => nestP f c.2).take i).foldl max 0) (nestP f l1[i].2)) := by
        have := foldl_snoc (l1.map fun c => nestP f c.2) i 0 (by simpa using hil)
        rw [List.getElem_map] at this
        exact this
      have i1 : (0 : Int) ≤ (i : Int) := by omega
      have i2 : (i : Int) < (l1.length : Int) := by omega
      clear hk hk1 hr ht hb1 hsz1
      generalize ((l1.map fun c => nestP f c.2).take i).foldl max 0 = M at *
      generalize nestP f l1[i].2 = N at *
      generalize l1[i].1.1 = c0 at *
      generalize l1[i].1.2 = c1 at *
      go_upto_region 5 with fail
      rw [← hW1]
      clear hW1 q0 q1 q2 q3 q4 q5 q6
      go_wp2_with (first | (go_at_call 22; (with_reducible refine Calls.mono CN ?_); rintro e' w2 ⟨rfl, hb2⟩))
      refine ⟨⟨i + 1, hil, by rw [HSN.out]; congr 1; omega, by go_num, HB1'.out.trans (hb2.mono HWS.out)⟩, by simp [intOf]; omega⟩
    · obtain rfl : i = l1.length := by omega
      have HM : Hid (((l1.map fun c => nestP f c.2).take l1.length).foldl max 0 = (l1.map fun c => nestP f c.2).foldl max 0) := by
        show _ = _
        congr 1
        exact List.take_of_length_le (by simp)
      rw [HM.out]
      have HMB : Hid ((l1.map fun c => nestP f c.2).foldl max 0 ≤ f + 1) := by
        have := HB1.out l1.length
        rwa [HM.out] at this
      generalize hME : (l1.map fun c => nestP f c.2).foldl max 0 = M at *
      have HME : Hid ((l1.map fun c => nestP f c.2).foldl max 0 = M) := hME
      clear hME
      have d4 := (HT.out.cell (p := ⟨w.heap.size, 4, none⟩) (by have := HW.out.2.1; show w.heap.size < _; omega)).trans HW.out.2.2
      go_wp2
      have HBW0 : Hid (Below w.heap.size w wr) := HBw.out
      clear d4 HT HB1 HC1 HR1
      go_loopw [3, 24] (fun mv iv wr2 => ∃ i : Nat, i ≤ l2.length ∧ mv = .int .i64 (((l2.map (nestP f)).take i).foldl max M : Nat) ∧ iv = .int .i64 i ∧ Hid (Below w.heap.size w wr2)) (fun _ iv _ => l2.length - (intOf iv).toNat)
      case atStart => exact ⟨0, by omega, by go_num, by go_num, HBW0.out⟩
      case round =>
        obtain ⟨i, hi, rfl, rfl, HT⟩ := hrel
        by_cases hil2 : i < l2.length
        · obtain ⟨g, o, rfl, hc, hr⟩ := HR2.out (fun e => by rw [e] at hil2; simp at hil2)
          obtain ⟨s0, v0, v1, v2, v3, v4, q2, q3, q4, q5, q6, ht⟩ := hr i hil2
          obtain ⟨a, b, pa', pl', pc', ca', cl', cc', ea', el', ec', rfl, rfl, rfl, rfl, rfl⟩ := ht.vals
          have hk := Keeps.of HT.out HS.out
          have q2 := (hk.cell (p := ⟨g, o + i * 5, none⟩) s0).trans q2
          have q3 := (hk.cell (p := ⟨g, o + i * 5 + 1, none⟩) s0).trans q3
          have q4 := (hk.cell (p := ⟨g, o + i * 5 + 2, none⟩) s0).trans q4
          have q5 := (hk.cell (p := ⟨g, o + i * 5 + 3, none⟩) s0).trans q5
          have q6 := (hk.cell (p := ⟨g, o + i * 5 + 4, none⟩) s0).trans q6
          have hW1 : ∃ W1, W1 = wr.alloc (Obj.cells #[.int .i64 a, .int .i64 b, .slice pa' pl' pc', .slice ca' cl' cc', .slice ea' el' ec'] 32) ∧ Below wr.heap.size wr W1 ∧ W1.heap.size = wr.heap.size + 1 ∧ W1.cell? ⟨wr.heap.size, 0, none⟩ = some (.int .i64 a) ∧ W1.cell? ⟨wr.heap.size, 1, none⟩ = some (.int .i64 b) ∧ W1.cell? ⟨wr.heap.size, 2, none⟩ = some (.slice pa' pl' pc') ∧ W1.cell? ⟨wr.heap.size, 3, none⟩ = some (.slice ca' cl' cc') ∧ W1.cell? ⟨wr.heap.size, 4, none⟩ = some (.slice ea' el' ec') := ⟨_, rfl, (Below.refl _ _).alloc (Nat.le_refl _) _, by simp, heap_cell' (new_block' wr _) rfl, heap_cell' (new_block' wr _) rfl, heap_cell' (new_block' wr _) rfl, heap_cell' (new_block' wr _) rfl, heap_cell' (new_block' wr _) rfl⟩
          obtain ⟨W1, hW1, hb1, hsz1, x2, x3, x4, x5, x6⟩ := hW1
          have hk1 : Keeps S w W1 := hk.trans (Keeps.of hb1 fun b hb => Nat.lt_of_lt_of_le (HS.out b hb) HT.out.size)
          have CN := HC2.out i hil2 W1 S _ (fun b hb => by have := HS.out b hb; have := HT.out.size; omega) (TrV.below hk1 (fun _ h => h) f _ _ ht)
          have HB1' : Hid (Below w.heap.size w W1) := HT.out.trans (hb1.mono HT.out.size)
          have HWS : Hid (w.heap.size ≤ W1.heap.size) := HB1'.out.size
          have HSN : Hid (((l2.map (nestP f)).take (i + 1)).foldl max M = max (((l2.map (nestP f)).take i).foldl max M) (nestP f l2[i])) := by
            have := foldl_snoc (l2.map (nestP f)) i M (by simpa using hil2)
            rw [List.getElem_map] at this
            exact this
          have i1 : (0 : Int) ≤ (i : Int) := by omega
          have i2 : (i : Int) < (l2.length : Int) := by omega
          clear hk hk1 hr ht hb1 hsz1
          generalize ((l2.map (nestP f)).take i).foldl max M = M2 at *
          generalize nestP f l2[i] = N at *
          go_upto_region 10 with fail
          rw [← hW1]
          clear hW1 q2 q3 q4 q5 q6
          go_wp2_with (first | (go_at_call 22; (with_reducible refine Calls.mono CN ?_); rintro e' w2 ⟨rfl, hb2⟩))
          refine ⟨⟨i + 1, hil2, by rw [HSN.out]; congr 1; omega, by go_num, HB1'.out.trans (hb2.mono HWS.out)⟩, by simp [intOf]; omega⟩
        · obtain rfl : i = l2.length := by omega
          have hM2 : ((l2.map (nestP f)).take l2.length).foldl max M = (l2.map (nestP f)).foldl max M := by
            congr 1
            exact List.take_of_length_le (by simp)
          have hMB2 := HB2.out l2.length
          rw [hM2] at hMB2 ⊢
          have HF : Hid ((l2.map (nestP f)).foldl max ((l1.map fun c => nestP f c.2).foldl max 0) + 1 = (l2.map (nestP f)).foldl max M + 1) := by
            show _ = _
            rw [HME.out]
          have hle := HLe.out
          clear hM2
          generalize (l2.map (nestP f)).foldl max M = M2 at *
          have hw2 : IntKind.i64.wrap ((M2 : Int) + 1) = ((M2 + 1 : Nat) : Int) := by rw [IntKind.wrap_i64]; omega
          go_wp2
          go_ret
          refine ⟨?_, HT.out⟩
          rw [HF.out]
          rfl
theorem nest_any : ∀ (f : Nat), f ≤ 5001 → ∀ (t : Tr f), Sm f t → NestC f t
  | 0, _, t, _ => by
    intro w S x hS hx
    have h1 : TrV w S 1 x (trZero 1) := by
      have : x = _ := hx
      rw [this]
      exact trZero_at w S 1
    exact nest_step (f := 0) (trZero 1) (by omega) ⟨by simp [trZero], by simp [trZero]⟩ (fun c h => by simp [trZero] at h) w S x hS h1
  | f + 1, hf, t, hs => nest_step t (by omega) ⟨hs.1, hs.2.1⟩ fun c hc => by
    rcases hc with hc | hc
    · obtain ⟨d, hd, rfl⟩ := List.mem_map.1 hc
      exact nest_any f (by omega) _ (hs.2.2.1 d hd)
    · exact nest_any f (by omega) _ (hs.2.2.2 c hc)
end Go.Proofs.Ytpdmkhnonbbhnaa

namespace Go.Proofs.Ytpdmkhnonbbhnaa
open Go.RowKit Go.Maps

theorem eachP_all {α β : Type} {step : α → Nat → β × Nat} {P : β → Prop} : ∀ (l : List α), (∀ x ∈ l, ∀ n, P (step x n).1) → ∀ n, ∀ y ∈ (eachP step l n).1, P y
  | [], _, _, y, hy => by simp [eachP] at hy
  | a :: r, h, n, y, hy => by
    unfold eachP at hy
    rcases List.mem_cons.1 hy with rfl | hy
    · exact h a (by simp) n
    · exact eachP_all r (fun x hx => h x (List.mem_cons_of_mem _ hx)) _ y hy
theorem spotsOf_len (n : Nat) (lines : List (Nat × List Pt)) : (spotsOf n lines).length ≤ lines.length := List.length_filterMap_le _ _
theorem within_len {k : Kn} {spots : List Sp} {con : Str} {path : List Nat} {c : Col} (h : c ∈ within k spots con path) : c.2.2.length ≤ spots.length := by
  obtain ⟨n, _, _, rfl⟩ := mem_colsOf.1 h
  refine Nat.le_trans (spotsOf_len n _) ?_
  simp [linesOf]
theorem treeP_sm (k : Kn) (fs : List Fam) : ∀ (f n : Nat) (cols : List Col) (rows : List Nat), (∀ c ∈ cols, c.2.2.length ≤ 200) → Sm f (treeP k fs f n cols rows).1
  | 0, _, _, _, _ => trivial
  | f + 1, n, cols, rows, hc => by
    by_cases hn : 5000 ≤ n
    · rw [treeP_big _ _ _ _ _ _ hn]; exact Sm.zero _
    · cases rows with
      | nil => rw [treeP_none _ _ _ _ _ (by omega)]; exact ⟨by simp, by simp, fun c h => by simp at h, fun c h => by simp at h⟩
      | cons r rows =>
        cases hi : cols.findIdx? (hasRow r) with
        | none => rw [treeP_row _ _ _ _ _ _ _ (by omega) hi]; exact ⟨by simp, by simp, fun c h => by simp at h, fun c h => by simp at h⟩
        | some ax =>
          have ha : ax < cols.length := (List.findIdx?_eq_some_iff_getElem.1 hi).1
          rw [treeP_branch k fs f n cols r rows ax ha (by omega) hi]
          have hs : (ofRows cols[ax].2.2 (r :: rows)).length ≤ 200 := Nat.le_trans (List.length_filter_le _ _) (hc _ (List.getElem_mem ha))
          have hcl : (casesOf k (ofRows cols[ax].2.2 (r :: rows))).length ≤ 200 := Nat.le_trans (casesOf_len k _) hs
          have h1 : ∀ m, ∀ y ∈ (eachP (stepP k fs f cols (r :: rows) ax (ofRows cols[ax].2.2 (r :: rows)) (cols[ax].1 ++ [cols[ax].2.1])) (casesOf k (ofRows cols[ax].2.2 (r :: rows))) m).1, Sm f y := eachP_all _ (fun x _ m => treeP_sm k fs f m _ _ (fun c hcm => by
            rcases List.mem_append.1 hcm with hcm | hcm
            · rcases List.mem_append.1 hcm with hcm | hcm
              · exact hc c (List.mem_of_mem_take hcm)
              · exact Nat.le_trans (within_len hcm) (Nat.le_trans (List.length_filter_le _ _) hs)
            · exact hc c (List.mem_of_mem_drop hcm)))
          unfold branchP
          dsimp only
          split
          · exact ⟨by rw [List.length_zip]; exact Nat.le_trans (Nat.min_le_left _ _) hcl, by simp, fun c h => h1 _ _ (List.of_mem_zip h).2, fun c h => by simp at h⟩
          · refine ⟨by rw [List.length_zip]; exact Nat.le_trans (Nat.min_le_left _ _) hcl, by simp, fun c h => h1 _ _ (List.of_mem_zip h).2, fun c h => ?_⟩
            obtain rfl := List.mem_singleton.1 h
            exact treeP_sm k fs f _ _ _ (fun c hcm => by
              rcases List.mem_append.1 hcm with hcm | hcm
              · exact hc c (List.mem_of_mem_take hcm)
              · exact hc c (List.mem_of_mem_drop hcm))
theorem met_zero : ∀ f, metP f (trZero f) = []
  | 0 => rfl
  | _ + 1 => rfl
theorem treeP_met (k : Kn) (fs : List Fam) : ∀ (f n : Nat) (cols : List Col) (rows : List Nat), ∀ r ∈ metP f (treeP k fs f n cols rows).1, r ∈ rows
  | 0, _, _, _, _, h => by simp [metP] at h
  | f + 1, n, cols, rows, q, hq => by
    by_cases hn : 5000 ≤ n
    · rw [treeP_big _ _ _ _ _ _ hn, met_zero] at hq
      simp at hq
    · cases rows with
      | nil =>
        rw [treeP_none _ _ _ _ _ (by omega)] at hq
        simp [metP] at hq
      | cons r rows =>
        cases hi : cols.findIdx? (hasRow r) with
        | none =>
          rw [treeP_row _ _ _ _ _ _ _ (by omega) hi] at hq
          simp [metP] at hq
          simp [hq]
        | some ax =>
          have ha : ax < cols.length := (List.findIdx?_eq_some_iff_getElem.1 hi).1
          rw [treeP_branch k fs f n cols r rows ax ha (by omega) hi] at hq
          have h1 : ∀ m, ∀ y ∈ (eachP (stepP k fs f cols (r :: rows) ax (ofRows cols[ax].2.2 (r :: rows)) (cols[ax].1 ++ [cols[ax].2.1])) (casesOf k (ofRows cols[ax].2.2 (r :: rows))) m).1, ∀ q ∈ metP f y, q ∈ r :: rows := eachP_all _ (fun x _ m q hq => (without_sub _ _).subset (treeP_met k fs f m _ _ q hq))
          have h2 : ∀ (cs : List Cs) (l : List (Tr f)), (∀ y ∈ l, ∀ q ∈ metP f y, q ∈ r :: rows) → ∀ q ∈ ((cs.zip l).flatMap fun c => metP f c.2), q ∈ r :: rows := fun cs l h q hq => by
            obtain ⟨c, hc, hq⟩ := List.mem_flatMap.1 hq
            exact h c.2 (List.of_mem_zip hc).2 q hq
          unfold branchP at hq
          dsimp only at hq
          split at hq
          · simp only [metP] at hq
            rw [if_neg (by decide), List.nil_append, List.flatMap_nil, List.append_nil] at hq
            exact h2 _ _ (h1 _) q hq
          · simp only [metP] at hq
            rw [if_neg (by decide), List.nil_append] at hq
            rcases List.mem_append.1 hq with hq | hq
            · exact h2 _ _ (h1 _) q hq
            · rw [List.flatMap_singleton] at hq
              exact (without_sub _ _).subset (treeP_met k fs f _ _ _ q hq)
end Go.Proofs.Ytpdmkhnonbbhnaa
