/- wrongAt: one instruction's depth. -/
import Derived.Test.YtlpnegnpejpdkaaGreatDoorMdx
import Derived.Test.YtlpnegnpejpdkaaGreatDoorKz
namespace Go.Proofs.YtlpnegnpejpdkaaGreatDoor
open Go.RowKit

/-- The state of the walk through a global's code. -/
structure FlowW (w : World) (B F D : Nat) (sv cv : Value) (n dcap : Nat) (ds : List Int) : Prop where
  blk : w.heap[F]? = some (.cells #[sv, cv, .slice (some ⟨D, 0, none⟩) n dcap] 150 (0, 0))
  dep : DepAt w D ds
  len : n = ds.length
  cap : n ≤ dcap
  ne : F ≠ D
  lowF : B ≤ F
  lowD : B ≤ D
theorem FlowW.on {w w' : World} {B F D : Nat} {sv cv : Value} {n dcap : Nat} {ds : List Int} (h : FlowW w B F D sv cv n dcap ds) (hb : Below w.heap.size w w') : FlowW w' B F D sv cv n dcap ds := ⟨(hb.block F (lt_heap h.blk)).trans h.blk, h.dep.on (hb.block D h.dep.lt), h.len, h.cap, h.ne, h.lowF, h.lowD⟩
theorem FlowW.put {w w' : World} {B F D : Nat} {sv cv : Value} {n dcap : Nat} {ds es : List Int} (h : FlowW w B F D sv cv n dcap ds) (hd : DepAt w' D es) (hl : es.length = ds.length) (hk : ∀ y, y ≠ D → w'.heap[y]? = w.heap[y]?) : FlowW w' B F D sv cv n dcap es := ⟨(hk F h.ne).trans h.blk, hd, by rw [hl]; exact h.len, h.cap, h.ne, h.lowF, h.lowD⟩
theorem reach_len (ds : List Int) (i : Nat) (d : Int) : (reachP ds i d).1.length = ds.length := by
  unfold reachP
  split
  · exact List.length_set
  · rfl
theorem num_ok {ns ng len i : Nat} {x : Ins} (h : numP ns ng len i x = 0) : isOpP x.1 = true ∧ ∀ to, targetP x = some to → (i : Int) < to ∧ to < (len : Int) := by
  unfold numP at h
  split at h
  · omega
  · rename_i hw
    simp only [Bool.not_eq_false, Bool.and_eq_true] at hw
    refine ⟨hw.1.1, fun to ht => ?_⟩
    rw [ht] at h
    simp only at h
    split at h <;> omega
theorem row_low {α : Type} {E : Elt α} {w w' : World} {B : Nat} {v : Value} {l : List α} (h : RowE E w (fun y => y < B) (fun y => y < B) v l) (hb : Below B w w') : RowE E w' (fun y => y < B) (fun y => y < B) v l := h.on (Keeps.of hb fun _ h => h) (Keeps.of hb fun _ h => h) (fun _ h => h) fun _ h => h
theorem row_up {α : Type} {E : Elt α} {w : World} {B : Nat} {v : Value} {l : List α} (h : RowE E w (fun y => y < B) (fun y => y < B) v l) (hB : B ≤ w.heap.size) : RowE E w (fun y => y < w.heap.size) (fun y => y < w.heap.size) v l := h.on (Keeps.refl _ _) (Keeps.refl _ _) (fun _ h => Nat.lt_of_lt_of_le h hB) fun _ h => Nat.lt_of_lt_of_le h hB
/-- What comes behind the next instruction: the one that it jumps to. -/
def tailP (x : Ins) (r : List Int × Bool) (b : Int) : List Int × Int :=
  if r.2 = false then (r.1, 173)
  else match targetP x with
    | some to => ((reachP r.1 to.toNat b).1, if (reachP r.1 to.toNat b).2 then 0 else 173)
    | none => (r.1, 0)
theorem at_zero {fs : List Int} {len i : Nat} {ds : List Int} {x : Ins} (h : ds.getD i 0 = 0) : atP fs len ds i x = (ds, 174) := by
  unfold atP
  simp only
  rw [if_pos h]
theorem at_needs {fs : List Int} {len i : Nat} {ds : List Int} {x : Ins} (h0 : ds.getD i 0 ≠ 0) (h : (behindP fs x (ds.getD i 0)).2 = false ∨ 8000 < (behindP fs x (ds.getD i 0)).1) : atP fs len ds i x = (ds, 173) := by
  unfold atP
  simp only
  rw [if_neg h0, if_pos h]
theorem at_end {fs : List Int} {len i : Nat} {ds : List Int} {x : Ins} (h0 : ds.getD i 0 ≠ 0) (h : ¬ ((behindP fs x (ds.getD i 0)).2 = false ∨ 8000 < (behindP fs x (ds.getD i 0)).1)) (hg : goesP x.1 = true) (he : i + 1 = len) : atP fs len ds i x = (ds, 174) := by
  unfold atP
  simp only
  rw [if_neg h0, if_neg h, if_pos ⟨hg, he⟩]
theorem at_tail {fs : List Int} {len i : Nat} {ds : List Int} {x : Ins} (h0 : ds.getD i 0 ≠ 0) (h : ¬ ((behindP fs x (ds.getD i 0)).2 = false ∨ 8000 < (behindP fs x (ds.getD i 0)).1)) (he : ¬ (goesP x.1 = true ∧ i + 1 = len)) : atP fs len ds i x = tailP x (if goesP x.1 = true then reachP ds (i + 1) (behindP fs x (ds.getD i 0)).1 else (ds, true)) (behindP fs x (ds.getD i 0)).1 := by
  unfold atP tailP
  simp only
  rw [if_neg h0, if_neg h, if_neg he]
  split
  · rfl
  · cases targetP x <;> rfl
set_option maxHeartbeats 16000000 in
set_option maxRecDepth 10000 in
theorem wrongAt_any {w : World} {B F D n dcap : Nat} {sv cv : Value} {l : List Shp} {code : List Ins} {ds : List Int} {rd : Option Addr} {rcap : Nat} (hW : FlowW w B F D sv cv n dcap ds) (hB : B ≤ w.heap.size) (hs : RowE EShp w (fun y => y < B) (fun y => y < B) sv l) (hc : RowE EIns w (fun y => y < B) (fun y => y < B) cv code) (hn : n = code.length) (hR : ∀ w2, Below B w w2 → RowsAt w2 rd rcap)
    (hfs : ∀ k (h : k < l.length), 0 ≤ l[k].2 ∧ l[k].2 ≤ 8) (hll : l.length < 140737488355328) (hn8 : n ≤ 8000) {ng : Nat} {i : Nat} (hi : i < code.length) (hx : numP l.length ng code.length i code[i] = 0) (hxa : code[i].2.1 < 9223372036854775808) (hd : 0 ≤ ds.getD i 0 ∧ ds.getD i 0 ≤ 8000) :
    Calls Tryz.prog 105 #[.pointer (some ⟨F, 0, none⟩), .int .i64 i] w fun r w' => r = .returned (.int .i64 (atP (l.map fun s => s.2) n ds i code[i]).2) ∧ Hid (Below B w w' ∧ FlowW w' B F D sv cv n dcap (atP (l.map fun s => s.2) n ds i code[i]).1) := by
  obtain ⟨ca, ccap, rfl, hcc⟩ := ins_at (row_low hc ((Below.refl B w).drew))
  obtain ⟨cg, co, rfl, hgl, hcl, c0, c1, c2⟩ := hcc i hi
  rw [← hn] at hcl
  have hin : i < n := by omega
  have hWd := hW.on ((Below.refl _ w).drew)
  have f1 : w.drew.cell? ⟨F, 1, none⟩ = some (.slice (some ⟨cg, co, none⟩) n ccap) := by rw [hn]; exact heap_cl hWd.blk rfl
  have f2 : w.drew.cell? ⟨F, 2, none⟩ = some (.slice (some ⟨D, 0, none⟩) n dcap) := heap_cl hWd.blk rfl
  have d0 := hWd.dep.cell (i := i) (by have := hW.len; omega)
  obtain ⟨x, hxe⟩ : ∃ x, x = code[i] := ⟨_, rfl⟩
  rw [← hxe] at c0 c1 c2 hx hxa ⊢
  obtain ⟨op, a, b⟩ := x
  simp only at c0 c1 c2 hxa
  obtain ⟨d, hde⟩ : ∃ d, d = ds.getD i 0 := ⟨_, rfl⟩
  rw [← hde] at d0 hd
  obtain ⟨R, hRe⟩ : ∃ R, R = atP (l.map fun s => s.2) n ds i (op, a, b) := ⟨_, rfl⟩
  have HRR : Hid (R = atP (l.map fun s => s.2) n ds i (op, a, b)) := hRe
  have HDE : Hid (d = ds.getD i 0) := hde
  rw [← hRe]
  have hS0 : (fun w' : World => w'.cell? ⟨F, 1, none⟩ = some (.slice (some ⟨cg, co, none⟩) n ccap) ∧ w'.cell? ⟨F, 2, none⟩ = some (.slice (some ⟨D, 0, none⟩) n dcap) ∧ w'.cell? ⟨cg, co + i * 3, none⟩ = some (.int .i64 op) ∧ w'.cell? ⟨cg, co + i * 3 + 1, none⟩ = some (.int .i64 a) ∧ w'.cell? ⟨cg, co + i * 3 + 2, none⟩ = some (.int .i64 b) ∧ w'.cell? ⟨D, i, none⟩ = some (.int .i64 d)) w.drew := ⟨f1, f2, c0, c1, c2, d0⟩
  have i1 : (0 : Int) ≤ (i : Int) := by omega
  have i2 : (i : Int) < (n : Int) := by omega
  rw [← hn]
  obtain ⟨cv, hcv⟩ : ∃ cv, cv = Value.slice (some ⟨cg, co, none⟩) n ccap := ⟨_, rfl⟩
  rw [← hn] at hW hWd
  rw [← hcv] at hW hWd ⊢
  have HCV : Hid (cv = Value.slice (some ⟨cg, co, none⟩) n ccap) := hcv
  obtain ⟨Y, hYe⟩ : ∃ Y, Y = w.heap.size := ⟨_, rfl⟩
  obtain ⟨W1, hW1⟩ : ∃ W1, W1 = (w.alloc (.cells #[.int .i64 op, .int .i64 a, .int .i64 b] 53)).drew := ⟨_, rfl⟩
  have hbw : Below w.heap.size w W1 := by rw [hW1]; exact ((Below.refl _ _).alloc (Nat.le_refl _) _).drew
  have HB1 : Hid (Below B w W1) := hbw.mono hB
  have HF1 : Hid (FlowW W1 B F D sv cv n dcap ds) := hW.on hbw
  have HY1 : Hid (W1.heap[Y]? = some (.cells #[.int .i64 op, .int .i64 a, .int .i64 b] 53 (0, 0))) := by rw [hW1, hYe]; exact new_blk w _
  have HYE : Hid (Y = w.heap.size) := hYe
  have HYD : Hid (Y ≠ D) := by have := hW.dep.lt; show Y ≠ D; omega
  have HSZ : Hid (∀ w2 : World, Below B w w2 → B ≤ w2.heap.size) := fun w2 hb => Nat.le_trans hB hb.size
  have HS : Hid (RowE EShp w (fun y => y < B) (fun y => y < B) sv l) := hs
  have HFS : Hid (∀ k (h : k < l.length), 0 ≤ l[k].2 ∧ l[k].2 ≤ 8) := hfs
  have HX : Hid (numP l.length ng code.length i (op, a, b) = 0) := hx
  have HRW : Hid (∀ w2 : World, Below B w w2 → RowsAt w2 rd rcap) := hR
  have hop : isOpP op = true := (num_ok hx).1
  have HTO : Hid (∀ to, targetP (op, a, b) = some to → (i : Int) < to ∧ to < (n : Int)) := fun to ht => by rw [hn]; exact (num_ok hx).2 to ht
  have hlen := hW.len
  have hSk2 : (fun w' : World => w'.cell? ⟨F, 1, none⟩ = some (.slice (some ⟨cg, co, none⟩) n ccap) ∧ w'.cell? ⟨F, 2, none⟩ = some (.slice (some ⟨D, 0, none⟩) n dcap) ∧ w'.cell? ⟨cg, co + i * 3, none⟩ = some (.int .i64 op) ∧ w'.cell? ⟨cg, co + i * 3 + 1, none⟩ = some (.int .i64 a) ∧ w'.cell? ⟨cg, co + i * 3 + 2, none⟩ = some (.int .i64 b) ∧ w'.cell? ⟨D, i, none⟩ = some (.int .i64 d)) (w.alloc (.cells #[.int .i64 op, .int .i64 a, .int .i64 b] 53)).drew := by
    obtain ⟨s1, s2, s3, s4, s5, s6⟩ := hS0
    have hb : Below w.heap.size w.drew ((w.alloc (.cells #[.int .i64 op, .int .i64 a, .int .i64 b] 53)).drew) := ⟨rfl, rfl, rfl, by show w.heap.size ≤ (w.heap.push _).size; simp, fun k hk => Below.heap_alloc w _ k hk⟩
    exact ⟨(hb.cell (World.block_lt_of_cell? w.drew _ s1)).trans s1, (hb.cell (World.block_lt_of_cell? w.drew _ s2)).trans s2, (hb.cell (World.block_lt_of_cell? w.drew _ s3)).trans s3, (hb.cell (World.block_lt_of_cell? w.drew _ s4)).trans s4, (hb.cell (World.block_lt_of_cell? w.drew _ s5)).trans s5, (hb.cell (World.block_lt_of_cell? w.drew _ s6)).trans s6⟩
  clear c0 c1 c2 d0 f1 f2 hcc hde hRe hcv hYe hn hxe hs hfs hx hR hWd hbw hlen hc hi
  go_enter Tryz.func105, Tryz.ntmps105
  go_upto_region 1 with fail
  refine wp_region_M (S := (fun w' : World => w'.cell? ⟨F, 1, none⟩ = some (.slice (some ⟨cg, co, none⟩) n ccap) ∧ w'.cell? ⟨F, 2, none⟩ = some (.slice (some ⟨D, 0, none⟩) n dcap) ∧ w'.cell? ⟨cg, co + i * 3, none⟩ = some (.int .i64 op) ∧ w'.cell? ⟨cg, co + i * 3 + 1, none⟩ = some (.int .i64 a) ∧ w'.cell? ⟨cg, co + i * 3 + 2, none⟩ = some (.int .i64 b) ∧ w'.cell? ⟨D, i, none⟩ = some (.int .i64 d))) (L := 16) (n := 17) (by kernel_rfl) rfl (by kernel_rfl) ?_
  refine wpAnyK_go (i := 0) (m' := 1) (some 11) (v := .pointer (some ⟨F, 0, none⟩)) rfl rfl (by kernel_rfl) (by kernel_rfl) (by kernel_rfl) (by kernel_rfl) (by kernel_rfl) (fun _ _ _ h => h) (Or.inl ⟨by rfl, ?_⟩) hS0 ?_
  · intro w' hSw
    go_simp
  simp only [Act.put, List.setIfInBounds_toArray, List.set_cons_zero, List.set_cons_succ]
  refine wpAnyK_go (i := 1) (m' := 3) (some 12) (v := .pointer (some ⟨F, 0, none⟩)) rfl rfl (by kernel_rfl) (by kernel_rfl) (by kernel_rfl) (by kernel_rfl) (by kernel_rfl) (fun _ _ _ h => h) (Or.inl ⟨by rfl, ?_⟩) hS0 ?_
  · intro w' hSw
    go_simp
  simp only [Act.put, List.setIfInBounds_toArray, List.set_cons_zero, List.set_cons_succ]
  refine wpAnyK_go (i := 2) (m' := 7) (some 13) (v := .pointer (some ⟨F, 1, none⟩)) rfl rfl (by kernel_rfl) (by kernel_rfl) (by kernel_rfl) (by kernel_rfl) (by kernel_rfl) (fun _ _ _ h => h) (Or.inl ⟨by rfl, ?_⟩) hS0 ?_
  · intro w' hSw
    go_simp
  simp only [Act.put, List.setIfInBounds_toArray, List.set_cons_zero, List.set_cons_succ]
  refine wpAnyK_go (i := 3) (m' := 15) (some 14) (v := .slice (some ⟨cg, co, none⟩) n ccap) rfl rfl (by kernel_rfl) (by kernel_rfl) (by kernel_rfl) (by kernel_rfl) (by kernel_rfl) (fun _ _ _ h => h) (Or.inl ⟨by rfl, ?_⟩) hS0 ?_
  · intro w' hSw
    obtain ⟨s1, s2, s3, s4, s5, s6⟩ := hSw
    go_simp
  simp only [Act.put, List.setIfInBounds_toArray, List.set_cons_zero, List.set_cons_succ]
  refine wpAnyK_go (i := 4) (m' := 31) (some 15) (v := .int .i64 (i : Int)) rfl rfl (by kernel_rfl) (by kernel_rfl) (by kernel_rfl) (by kernel_rfl) (by kernel_rfl) (fun _ _ _ h => h) (Or.inl ⟨by rfl, ?_⟩) hS0 ?_
  · intro w' hSw
    go_simp
  simp only [Act.put, List.setIfInBounds_toArray, List.set_cons_zero, List.set_cons_succ]
  refine wpAnyK_go (i := 5) (m' := 63) (some 16) (v := .pointer (some ⟨cg, co + i * 3, none⟩)) rfl rfl (by kernel_rfl) (by kernel_rfl) (by kernel_rfl) (by kernel_rfl) (by kernel_rfl) (fun _ _ _ h => h) (Or.inl ⟨by rfl, ?_⟩) hS0 ?_
  · intro w' hSw
    go_simp
  simp only [Act.put, List.setIfInBounds_toArray, List.set_cons_zero, List.set_cons_succ]
  refine wpAnyK_go (i := 6) (m' := 127) (some 17) (v := .agg #[.int .i64 op, .int .i64 a, .int .i64 b]) rfl rfl (by kernel_rfl) (by kernel_rfl) (by kernel_rfl) (by kernel_rfl) (by kernel_rfl) (fun _ _ _ h => h) (Or.inl ⟨by rfl, ?_⟩) hS0 ?_
  · intro w' hSw
    obtain ⟨s1, s2, s3, s4, s5, s6⟩ := hSw
    go_simp
  simp only [Act.put, List.setIfInBounds_toArray, List.set_cons_zero, List.set_cons_succ]
  refine wpAnyK_go (i := 7) (m' := 255) (some 18) (v := .pointer (some ⟨F, 0, none⟩)) rfl rfl (by kernel_rfl) (by kernel_rfl) (by kernel_rfl) (by kernel_rfl) (by kernel_rfl) (fun _ _ _ h => h) (Or.inl ⟨by rfl, ?_⟩) hS0 ?_
  · intro w' hSw
    go_simp
  simp only [Act.put, List.setIfInBounds_toArray, List.set_cons_zero, List.set_cons_succ]
  refine wpAnyK_go (i := 8) (m' := 511) (some 19) (v := .pointer (some ⟨F, 0, none⟩)) rfl rfl (by kernel_rfl) (by kernel_rfl) (by kernel_rfl) (by kernel_rfl) (by kernel_rfl) (fun _ _ _ h => h) (Or.inl ⟨by rfl, ?_⟩) hS0 ?_
  · intro w' hSw
    go_simp
  simp only [Act.put, List.setIfInBounds_toArray, List.set_cons_zero, List.set_cons_succ]
  refine wpAnyK_go (i := 9) (m' := 1023) (some 20) (v := .pointer (some ⟨F, 2, none⟩)) rfl rfl (by kernel_rfl) (by kernel_rfl) (by kernel_rfl) (by kernel_rfl) (by kernel_rfl) (fun _ _ _ h => h) (Or.inl ⟨by rfl, ?_⟩) hS0 ?_
  · intro w' hSw
    go_simp
  simp only [Act.put, List.setIfInBounds_toArray, List.set_cons_zero, List.set_cons_succ]
  refine wpAnyK_go (i := 10) (m' := 2047) (some 21) (v := .slice (some ⟨D, 0, none⟩) n dcap) rfl rfl (by kernel_rfl) (by kernel_rfl) (by kernel_rfl) (by kernel_rfl) (by kernel_rfl) (fun _ _ _ h => h) (Or.inl ⟨by rfl, ?_⟩) hS0 ?_
  · intro w' hSw
    obtain ⟨s1, s2, s3, s4, s5, s6⟩ := hSw
    go_simp
  simp only [Act.put, List.setIfInBounds_toArray, List.set_cons_zero, List.set_cons_succ]
  refine wpAnyK_go (i := 11) (m' := 4095) (some 22) (v := .int .i64 (i : Int)) rfl rfl (by kernel_rfl) (by kernel_rfl) (by kernel_rfl) (by kernel_rfl) (by kernel_rfl) (fun _ _ _ h => h) (Or.inl ⟨by rfl, ?_⟩) hS0 ?_
  · intro w' hSw
    go_simp
  simp only [Act.put, List.setIfInBounds_toArray, List.set_cons_zero, List.set_cons_succ]
  refine wpAnyK_go (i := 12) (m' := 8191) (some 23) (v := .pointer (some ⟨D, i, none⟩)) rfl rfl (by kernel_rfl) (by kernel_rfl) (by kernel_rfl) (by kernel_rfl) (by kernel_rfl) (fun _ _ _ h => h) (Or.inl ⟨by rfl, ?_⟩) hS0 ?_
  · intro w' hSw
    go_simp
  simp only [Act.put, List.setIfInBounds_toArray, List.set_cons_zero, List.set_cons_succ]
  refine wpAnyK_go (i := 13) (m' := 16383) (some 24) (v := .int .i64 d) rfl rfl (by kernel_rfl) (by kernel_rfl) (by kernel_rfl) (by kernel_rfl) (by kernel_rfl) (fun _ _ _ h => h) (Or.inl ⟨by rfl, ?_⟩) hS0 ?_
  · intro w' hSw
    obtain ⟨s1, s2, s3, s4, s5, s6⟩ := hSw
    go_simp
  simp only [Act.put, List.setIfInBounds_toArray, List.set_cons_zero, List.set_cons_succ]
  have hSk : ∀ o : Obj, (fun w' : World => w'.cell? ⟨F, 1, none⟩ = some (.slice (some ⟨cg, co, none⟩) n ccap) ∧ w'.cell? ⟨F, 2, none⟩ = some (.slice (some ⟨D, 0, none⟩) n dcap) ∧ w'.cell? ⟨cg, co + i * 3, none⟩ = some (.int .i64 op) ∧ w'.cell? ⟨cg, co + i * 3 + 1, none⟩ = some (.int .i64 a) ∧ w'.cell? ⟨cg, co + i * 3 + 2, none⟩ = some (.int .i64 b) ∧ w'.cell? ⟨D, i, none⟩ = some (.int .i64 d)) (w.drew.alloc o) := fun o => by
    obtain ⟨s1, s2, s3, s4, s5, s6⟩ := hS0
    have hb := (Below.refl w.drew.heap.size w.drew).alloc (Nat.le_refl _) o
    exact ⟨(hb.cell (World.block_lt_of_cell? _ _ s1)).trans s1, (hb.cell (World.block_lt_of_cell? _ _ s2)).trans s2, (hb.cell (World.block_lt_of_cell? _ _ s3)).trans s3, (hb.cell (World.block_lt_of_cell? _ _ s4)).trans s4, (hb.cell (World.block_lt_of_cell? _ _ s5)).trans s5, (hb.cell (World.block_lt_of_cell? _ _ s6)).trans s6⟩
  refine wpAnyK_only (i := 14) (m' := 32767) (by kernel_rfl) rfl (by kernel_rfl) fun K hK => ?_
  go_simp
  refine hK.out _ _ (fun _ => hSk _) ?_
  clear hK K
  refine wpAnyK_only (i := 15) (m' := 65535) (by kernel_rfl) rfl (by kernel_rfl) fun K hK => ?_
  go_simp
  refine hK.out _ _ (fun _ => hSk2) ?_
  clear hK K
  refine wpAnyK_only (i := 16) (m' := 131071) (by kernel_rfl) rfl (by kernel_rfl) fun K hK => ?_
  go_simp
  refine hK.out _ _ (fun _ => hSk2) ?_
  clear hK K hS0 hSk hSk2
  refine wpAnyK_done (by kernel_rfl) ?_ _
  rw [← hW1, ← HYE.out]
  clear hW1
  by_cases hd0 : d = 0
  · have HE : Hid (R = (ds, 174)) := by show R = _; rw [HRR.out]; exact at_zero (by rw [← HDE.out]; exact hd0)
    have e1 : (d == 0) = true := by simp [hd0]
    go_wp2
    go_ret
    exact ⟨by rw [HE.out]; rfl, HB1.out, by rw [HE.out]; exact HF1.out⟩
  · have e1 : (d == 0) = false := by simpa using hd0
    have y0 : W1.cell? ⟨Y, 0, none⟩ = some (.int .i64 op) := heap_cl HY1.out rfl
    have y1 : W1.cell? ⟨Y, 1, none⟩ = some (.int .i64 a) := heap_cl HY1.out rfl
    have y2 : W1.cell? ⟨Y, 2, none⟩ = some (.int .i64 b) := heap_cl HY1.out rfl
    have CB := behind_any (w := W1) (F := F) (heap_cl HF1.out.blk rfl) (row_up (row_low HS.out HB1.out) (HSZ.out W1 HB1.out)) HFS.out hll (op, a, b) HX.out hxa d (by omega) hd.2
    have HND : Hid (ds.getD i 0 ≠ 0) := by rw [← HDE.out]; exact hd0
    have HA1 : Hid ((behindP (l.map fun s => s.2) (op, a, b) d).2 = false ∨ 8000 < (behindP (l.map fun s => s.2) (op, a, b) d).1 → R = (ds, 173)) := fun h => by rw [HRR.out]; exact at_needs HND.out (by rw [← HDE.out]; exact h)
    have HA2 : Hid (¬ ((behindP (l.map fun s => s.2) (op, a, b) d).2 = false ∨ 8000 < (behindP (l.map fun s => s.2) (op, a, b) d).1) → goesP op = true → i + 1 = n → R = (ds, 174)) := fun h hg he => by rw [HRR.out]; exact at_end HND.out (by rw [← HDE.out]; exact h) hg he
    have HA3 : Hid (¬ ((behindP (l.map fun s => s.2) (op, a, b) d).2 = false ∨ 8000 < (behindP (l.map fun s => s.2) (op, a, b) d).1) → ¬ (goesP op = true ∧ i + 1 = n) → R = tailP (op, a, b) (if goesP op = true then reachP ds (i + 1) (behindP (l.map fun s => s.2) (op, a, b) d).1 else (ds, true)) (behindP (l.map fun s => s.2) (op, a, b) d).1) := fun h he => by
      have := at_tail (x := (op, a, b)) HND.out (by rw [← HDE.out]; exact h) he
      rw [← HDE.out] at this
      rw [HRR.out]
      exact this
    have HBP : Hid ((behindP (l.map fun s => s.2) (op, a, b) d).2 = true → 1 ≤ (behindP (l.map fun s => s.2) (op, a, b) d).1) := fun h => behind_pos (by omega) (fun k => by
      by_cases hk : k < l.length
      · rw [getD_map2 l k hk]; exact (HFS.out k hk).1
      · simp [List.getD, show l.length ≤ k by omega]) HX.out h
    generalize (behindP (l.map fun s => s.2) (op, a, b) d).1 = b1 at *
    generalize (behindP (l.map fun s => s.2) (op, a, b) d).2 = b2 at *
    go_upto_region 5 with (first | (go_at_call 122; (with_reducible refine Calls.mono CB ?_); rintro e2 w2 ⟨rfl, HH2⟩))
    have HB2 : Hid (Below B w w2) := HB1.out.trans (HH2.out.mono (HSZ.out W1 HB1.out))
    have HF2 : Hid (FlowW w2 B F D sv cv n dcap ds) := HF1.out.on HH2.out
    have HY2 : Hid (w2.heap[Y]? = some (.cells #[.int .i64 op, .int .i64 a, .int .i64 b] 53 (0, 0))) := (HH2.out.block Y (lt_heap HY1.out)).trans HY1.out
    clear CB HH2 y0 y1 y2 HF1 HY1 HB1
    cases b2 with
    | false =>
      have HE : Hid (R = (ds, 173)) := HA1.out (.inl rfl)
      clear HA1 HA2 HA3
      go_wp2
      go_ret
      exact ⟨by rw [HE.out]; rfl, HB2.out, by rw [HE.out]; exact HF2.out⟩
    | true =>
      by_cases h8 : 8000 < b1
      · have HE : Hid (R = (ds, 173)) := HA1.out (.inr h8)
        clear HA1 HA2 HA3
        go_wp2
        go_ret
        exact ⟨by rw [HE.out]; rfl, HB2.out, by rw [HE.out]; exact HF2.out⟩
      · have hnn : ¬ (true = false ∨ 8000 < b1) := by rintro (h | h); cases h; exact h8 h
        have hb1 : 1 ≤ b1 := HBP.out rfl
        replace HA2 : Hid (goesP op = true → i + 1 = n → R = (ds, 174)) := HA2.out hnn
        replace HA3 : Hid (¬ (goesP op = true ∧ i + 1 = n) → R = tailP (op, a, b) (if goesP op = true then reachP ds (i + 1) b1 else (ds, true)) b1) := HA3.out hnn
        have CG := goesOn_any op w2
        have y0 : w2.cell? ⟨Y, 0, none⟩ = some (.int .i64 op) := heap_cl HY2.out rfl
        have g1 : w2.cell? ⟨F, 1, none⟩ = some cv := heap_cl HF2.out.blk rfl
        rw [HCV.out] at g1
        clear HA1 HBP hnn
        cases hg : goesP op with
        | false =>
          rw [hg] at CG
          have HT : Hid (R = tailP (op, a, b) (ds, true) b1) := by
            have := HA3.out (by rw [hg]; rintro ⟨h, _⟩; cases h)
            rw [hg] at this
            exact this
          clear HA2 HA3 hg
          go_upto_region 12 with (first | (go_at_call 123; (with_reducible refine Calls.mono CG ?_); rintro e3 w3 ⟨rfl, hw3⟩; obtain rfl := hw3.symm; clear hw3))
          clear y0 g1 CG
          have T1 := target_any (HRW.out w2 HB2.out) (op, a, b) hop
          have y0 : w2.cell? ⟨Y, 0, none⟩ = some (.int .i64 op) := heap_cl HY2.out rfl
          have y1 : w2.cell? ⟨Y, 1, none⟩ = some (.int .i64 a) := heap_cl HY2.out rfl
          have y2 : w2.cell? ⟨Y, 2, none⟩ = some (.int .i64 b) := heap_cl HY2.out rfl
          cases ht : targetP (op, a, b) with
          | none =>
            have e : tgtV (op, a, b) = .tuple #[.int .i64 0, .bool false] := by unfold tgtV; rw [ht]
            have HE : Hid (R = (ds, 0)) := by show R = _; rw [HT.out]; unfold tailP; rw [ht]; simp
            rw [e] at T1
            clear e ht
            go_wp2_with (first | (go_at_call 69; (with_reducible refine Calls.mono T1 ?_); rintro e9 w9 ⟨rfl, HB9⟩))
            go_ret
            exact ⟨by rw [HE.out]; rfl, HB2.out.trans (HB9.out.mono (HSZ.out w2 HB2.out)), by rw [HE.out]; exact HF2.out.on HB9.out⟩
          | some to =>
            obtain ⟨t1, t2⟩ := HTO.out to ht
            obtain ⟨k, rfl⟩ : ∃ k : Nat, to = (k : Int) := ⟨to.toNat, by omega⟩
            have e : tgtV (op, a, b) = .tuple #[.int .i64 (k : Int), .bool true] := by unfold tgtV; rw [ht]
            have HE : Hid (R = ((reachP (ds) k b1).1, if (reachP (ds) k b1).2 then 0 else 173)) := by show R = _; rw [HT.out]; unfold tailP; rw [ht]; simp
            rw [e] at T1
            clear e ht
            have HQ : Hid (∀ w9, Below w2.heap.size w2 w9 → Calls Tryz.prog 124 #[.pointer (some ⟨F, 0, none⟩), .int .i64 (k : Int), .int .i64 b1] w9 fun r w' => r = .returned (.bool (reachP (ds) k b1).2) ∧ Hid (Below B w9 w' ∧ DepAt w' D (reachP (ds) k b1).1 ∧ ∀ y, y ≠ D → w'.heap[y]? = w9.heap[y]?)) := fun w9 hb => by
              have h9 := HF2.out.on hb
              exact reach_any (F := F) (n := n) (cap := dcap) (heap_cl h9.blk rfl) h9.len h9.cap h9.ne h9.dep h9.lowD (by omega) (by omega) b1
            go_upto_region 13 with (first | (go_at_call 69; (with_reducible refine Calls.mono T1 ?_); rintro e9 w9 ⟨rfl, HB9⟩))
            have Q9 := HQ.out w9 HB9.out
            have HBw9 : Hid (Below B w w9) := HB2.out.trans (HB9.out.mono (HSZ.out w2 HB2.out))
            have HF9 := HF2.out.on HB9.out
            replace HF9 : Hid (FlowW w9 B F D sv cv n dcap (ds)) := HF9
            have HLN : Hid (reachP (ds) k b1 = reachP (ds) k b1) := rfl
            have HRL := reach_len (ds) k b1
            replace HRL : Hid ((reachP (ds) k b1).1.length = (ds).length) := HRL
            clear y0 y1 y2 HQ T1 HLN
            cases hq : (reachP (ds) k b1).2 with
            | true =>
              rw [hq] at Q9 HE
              have HE2 : Hid (R = ((reachP (ds) k b1).1, 0)) := by show R = _; rw [HE.out]; rfl
              clear HE hq
              go_wp2_with (first | (go_at_call 124; (with_reducible refine Calls.mono Q9 ?_); rintro e8 w8 ⟨rfl, HH8⟩))
              go_ret
              exact ⟨by rw [HE2.out]; rfl, HBw9.out.trans HH8.out.1, by rw [HE2.out]; exact HF9.out.put HH8.out.2.1 HRL.out HH8.out.2.2⟩
            | false =>
              rw [hq] at Q9 HE
              have HE2 : Hid (R = ((reachP (ds) k b1).1, 173)) := by show R = _; rw [HE.out]; rfl
              clear HE hq
              go_wp2_with (first | (go_at_call 124; (with_reducible refine Calls.mono Q9 ?_); rintro e8 w8 ⟨rfl, HH8⟩))
              go_ret
              exact ⟨by rw [HE2.out]; rfl, HBw9.out.trans HH8.out.1, by rw [HE2.out]; exact HF9.out.put HH8.out.2.1 HRL.out HH8.out.2.2⟩
        | true =>
          rw [hg] at CG
          by_cases hin1 : i + 1 = n
          · have HE : Hid (R = (ds, 174)) := HA2.out hg hin1
            have e5 : (((i : Int) + 1) == (n : Int)) = true := by simp; omega
            clear HA2 HA3 hg
            go_wp2_with (first | (go_at_call 123; (with_reducible refine Calls.mono CG ?_); rintro e3 w3 ⟨rfl, hw3⟩; obtain rfl := hw3.symm; clear hw3))
            go_ret
            exact ⟨by rw [HE.out]; rfl, HB2.out, by rw [HE.out]; exact HF2.out⟩
          · have HT0 : Hid (R = tailP (op, a, b) (reachP ds (i + 1) b1) b1) := by
              have := HA3.out (fun h => hin1 h.2)
              rw [hg, if_pos rfl] at this
              exact this
            have e5 : (((i : Int) + 1) == (n : Int)) = false := by simp; omega
            have CR := reach_any (F := F) (n := n) (cap := dcap) (heap_cl HF2.out.blk rfl) HF2.out.len HF2.out.cap HF2.out.ne HF2.out.dep HF2.out.lowD (i := i + 1) (by omega) (by omega) b1
            have hcast : ((i + 1 : Nat) : Int) = (i : Int) + 1 := by omega
            rw [hcast] at CR
            have HRL1 := reach_len ds (i + 1) b1
            replace HRL1 : Hid ((reachP ds (i + 1) b1).1.length = ds.length) := HRL1
            clear HA2 HA3 hg hcast
            obtain ⟨es, hes⟩ : ∃ es, es = (reachP ds (i + 1) b1).1 := ⟨_, rfl⟩
            obtain ⟨ok, hok⟩ : ∃ ok, ok = (reachP ds (i + 1) b1).2 := ⟨_, rfl⟩
            have hpair : reachP ds (i + 1) b1 = (es, ok) := by rw [hes, hok]
            rw [hpair] at CR HT0 HRL1
            clear hpair hes hok
            cases ok with
            | false =>
              have HE : Hid (R = (es, 173)) := by show R = _; rw [HT0.out]; unfold tailP; simp
              go_wp2_with (first | (go_at_call 123; (with_reducible refine Calls.mono CG ?_); rintro e3 w3 ⟨rfl, hw3⟩; obtain rfl := hw3.symm; clear hw3) | (go_at_call 124; (with_reducible refine Calls.mono CR ?_); rintro e4 w4 ⟨rfl, HH4⟩))
              go_ret
              exact ⟨by rw [HE.out]; rfl, HB2.out.trans HH4.out.1, by rw [HE.out]; exact HF2.out.put HH4.out.2.1 HRL1.out HH4.out.2.2⟩
            | true =>
              go_upto_region 12 with (first | (go_at_call 123; (with_reducible refine Calls.mono CG ?_); rintro e3 w3 ⟨rfl, hw3⟩; obtain rfl := hw3.symm; clear hw3) | (go_at_call 124; (with_reducible refine Calls.mono CR ?_); rintro e4 w4 ⟨rfl, HH4⟩))
              have HB4 : Hid (Below B w w4) := HB2.out.trans HH4.out.1
              have HF4 : Hid (FlowW w4 B F D sv cv n dcap es) := HF2.out.put HH4.out.2.1 HRL1.out HH4.out.2.2
              have HY4 : Hid (w4.heap[Y]? = some (.cells #[.int .i64 op, .int .i64 a, .int .i64 b] 53 (0, 0))) := (HH4.out.2.2 Y HYD.out).trans HY2.out
              clear y0 g1 CG CR HH4 HF2 HY2 HB2
              have T1 := target_any (HRW.out w4 HB4.out) (op, a, b) hop
              have y0 : w4.cell? ⟨Y, 0, none⟩ = some (.int .i64 op) := heap_cl HY4.out rfl
              have y1 : w4.cell? ⟨Y, 1, none⟩ = some (.int .i64 a) := heap_cl HY4.out rfl
              have y2 : w4.cell? ⟨Y, 2, none⟩ = some (.int .i64 b) := heap_cl HY4.out rfl
              cases ht : targetP (op, a, b) with
              | none =>
                have e : tgtV (op, a, b) = .tuple #[.int .i64 0, .bool false] := by unfold tgtV; rw [ht]
                have HE : Hid (R = (es, 0)) := by show R = _; rw [HT0.out]; unfold tailP; rw [ht]; simp
                rw [e] at T1
                clear e ht
                go_wp2_with (first | (go_at_call 69; (with_reducible refine Calls.mono T1 ?_); rintro e9 w9 ⟨rfl, HB9⟩))
                go_ret
                exact ⟨by rw [HE.out]; rfl, HB4.out.trans (HB9.out.mono (HSZ.out w4 HB4.out)), by rw [HE.out]; exact HF4.out.on HB9.out⟩
              | some to =>
                obtain ⟨t1, t2⟩ := HTO.out to ht
                obtain ⟨k, rfl⟩ : ∃ k : Nat, to = (k : Int) := ⟨to.toNat, by omega⟩
                have e : tgtV (op, a, b) = .tuple #[.int .i64 (k : Int), .bool true] := by unfold tgtV; rw [ht]
                have HE : Hid (R = ((reachP (es) k b1).1, if (reachP (es) k b1).2 then 0 else 173)) := by show R = _; rw [HT0.out]; unfold tailP; rw [ht]; simp
                rw [e] at T1
                clear e ht
                have HQ : Hid (∀ w9, Below w4.heap.size w4 w9 → Calls Tryz.prog 124 #[.pointer (some ⟨F, 0, none⟩), .int .i64 (k : Int), .int .i64 b1] w9 fun r w' => r = .returned (.bool (reachP (es) k b1).2) ∧ Hid (Below B w9 w' ∧ DepAt w' D (reachP (es) k b1).1 ∧ ∀ y, y ≠ D → w'.heap[y]? = w9.heap[y]?)) := fun w9 hb => by
                  have h9 := HF4.out.on hb
                  exact reach_any (F := F) (n := n) (cap := dcap) (heap_cl h9.blk rfl) h9.len h9.cap h9.ne h9.dep h9.lowD (by omega) (by omega) b1
                go_upto_region 13 with (first | (go_at_call 69; (with_reducible refine Calls.mono T1 ?_); rintro e9 w9 ⟨rfl, HB9⟩))
                have Q9 := HQ.out w9 HB9.out
                have HBw9 : Hid (Below B w w9) := HB4.out.trans (HB9.out.mono (HSZ.out w4 HB4.out))
                have HF9 := HF4.out.on HB9.out
                replace HF9 : Hid (FlowW w9 B F D sv cv n dcap (es)) := HF9
                have HLN : Hid (reachP (es) k b1 = reachP (es) k b1) := rfl
                have HRL := reach_len (es) k b1
                replace HRL : Hid ((reachP (es) k b1).1.length = (es).length) := HRL
                clear y0 y1 y2 HQ T1 HLN
                cases hq : (reachP (es) k b1).2 with
                | true =>
                  rw [hq] at Q9 HE
                  have HE2 : Hid (R = ((reachP (es) k b1).1, 0)) := by show R = _; rw [HE.out]; rfl
                  clear HE hq
                  go_wp2_with (first | (go_at_call 124; (with_reducible refine Calls.mono Q9 ?_); rintro e8 w8 ⟨rfl, HH8⟩))
                  go_ret
                  exact ⟨by rw [HE2.out]; rfl, HBw9.out.trans HH8.out.1, by rw [HE2.out]; exact HF9.out.put HH8.out.2.1 HRL.out HH8.out.2.2⟩
                | false =>
                  rw [hq] at Q9 HE
                  have HE2 : Hid (R = ((reachP (es) k b1).1, 173)) := by show R = _; rw [HE.out]; rfl
                  clear HE hq
                  go_wp2_with (first | (go_at_call 124; (with_reducible refine Calls.mono Q9 ?_); rintro e8 w8 ⟨rfl, HH8⟩))
                  go_ret
                  exact ⟨by rw [HE2.out]; rfl, HBw9.out.trans HH8.out.1, by rw [HE2.out]; exact HF9.out.put HH8.out.2.1 HRL.out HH8.out.2.2⟩
end Go.Proofs.YtlpnegnpejpdkaaGreatDoor
