/- wrongFlow: the walk through a global's code. -/
import Derived.Test.YtlpnegnpejpdkaaGreatDoorKm
import Derived.Deep.OwnRows
namespace Go.Proofs.YtlpnegnpejpdkaaGreatDoor
open Go.RowKit

/-- Three stores into a block of three cells. -/
theorem store3 {U : World} {z : Nat} {x y u : Value} {t : TypeId} (h : U.heap[z]? = some (.cells #[x, y, u] t (0, 0))) (a b c : Value) : ∃ W, W = ((U.setCell ⟨z, 0, none⟩ a).setCell ⟨z, 1, none⟩ b).setCell ⟨z, 2, none⟩ c ∧ W.heap[z]? = some (.cells #[a, b, c] t (0, 0)) ∧ (∀ g, g ≠ z → W.heap[g]? = U.heap[g]?) ∧ W.heap.size = U.heap.size ∧ Below z U W := by
  refine ⟨_, rfl, ?_, fun g hg => ?_, by simp [World.setCell], (((Below.refl z U).setCell (Nat.le_refl _) a).setCell (Nat.le_refl _) b).setCell (Nat.le_refl _) c⟩
  · exact (setCell_block ((setCell_block ((setCell_block h).trans rfl)).trans rfl)).trans rfl
  · rw [Below.heap_setCell _ _ _ _ hg, Below.heap_setCell _ _ _ _ hg, Below.heap_setCell _ _ _ _ hg]
theorem reach_range {ds : List Int} (h : ∀ j, 0 ≤ ds.getD j 0 ∧ ds.getD j 0 ≤ 8000) (i : Nat) {b : Int} (h1 : 0 ≤ b) (h2 : b ≤ 8000) : ∀ j, 0 ≤ (reachP ds i b).1.getD j 0 ∧ (reachP ds i b).1.getD j 0 ≤ 8000 := by
  intro j
  unfold reachP
  split
  · by_cases hj : j = i
    · subst hj
      by_cases hl : j < ds.length
      · rw [getD_set_eq' hl]; exact ⟨h1, h2⟩
      · rw [show (ds.set j b) = ds from List.set_eq_of_length_le (by omega)]; exact h j
    · rw [getD_set_ne' hj]; exact h j
  · exact h j
theorem tail_range {x : Ins} {r : List Int × Bool} {b : Int} (h : ∀ j, 0 ≤ r.1.getD j 0 ∧ r.1.getD j 0 ≤ 8000) (h1 : 0 ≤ b) (h2 : b ≤ 8000) : ∀ j, 0 ≤ (tailP x r b).1.getD j 0 ∧ (tailP x r b).1.getD j 0 ≤ 8000 := by
  unfold tailP
  split
  · exact h
  · split
    · exact reach_range h _ h1 h2
    · exact h
theorem at_range {fs : List Int} {ns ng len i : Nat} {ds : List Int} {x : Ins} (h : ∀ j, 0 ≤ ds.getD j 0 ∧ ds.getD j 0 ≤ 8000) (hfs : ∀ k, 0 ≤ fs.getD k 0) (hx : numP ns ng len i x = 0) : ∀ j, 0 ≤ (atP fs len ds i x).1.getD j 0 ∧ (atP fs len ds i x).1.getD j 0 ≤ 8000 := by
  by_cases h0 : ds.getD i 0 = 0
  · rw [at_zero h0]; exact h
  · by_cases h1 : (behindP fs x (ds.getD i 0)).2 = false ∨ 8000 < (behindP fs x (ds.getD i 0)).1
    · rw [at_needs h0 h1]; exact h
    · by_cases h2 : goesP x.1 = true ∧ i + 1 = len
      · rw [at_end h0 h1 h2.1 h2.2]; exact h
      · rw [at_tail h0 h1 h2]
        have hb : (behindP fs x (ds.getD i 0)).2 = true := by
          cases hq : (behindP fs x (ds.getD i 0)).2 with
          | true => rfl
          | false => exact absurd (.inl hq) h1
        have hb1 := behind_pos (by have := (h i).1; omega) hfs hx hb
        have hb2 : (behindP fs x (ds.getD i 0)).1 ≤ 8000 := by
          apply Classical.byContradiction
          intro hc
          exact h1 (.inr (by omega))
        refine tail_range ?_ (by omega) hb2
        split
        · exact reach_range h _ (by omega) hb2
        · exact h
theorem tail_len (x : Ins) (r : List Int × Bool) (b : Int) : (tailP x r b).1.length = r.1.length := by
  unfold tailP
  split
  · rfl
  · split
    · exact reach_len _ _ _
    · rfl
theorem at_len (fs : List Int) (len : Nat) (ds : List Int) (i : Nat) (x : Ins) : (atP fs len ds i x).1.length = ds.length := by
  by_cases h0 : ds.getD i 0 = 0
  · rw [at_zero h0]
  · by_cases h1 : (behindP fs x (ds.getD i 0)).2 = false ∨ 8000 < (behindP fs x (ds.getD i 0)).1
    · rw [at_needs h0 h1]
    · by_cases h2 : goesP x.1 = true ∧ i + 1 = len
      · rw [at_end h0 h1 h2.1 h2.2]
      · rw [at_tail h0 h1 h2, tail_len]
        split
        · exact reach_len _ _ _
        · rfl
theorem made_ints (n : Nat) : madeCells #[.int .i64 0] n = ((List.replicate n (0 : Int)).map (Value.int .i64)).toArray := by
  apply Array.ext
  · rw [size_madeCells]; simp
  · intro i h1 h2
    simp [madeCells, Nat.mod_one]
theorem rep_ints (n : Nat) : ((List.replicate n (0 : Int)).map (Value.int .i64)).toArray = Array.replicate n (.int .i64 0) := by simp
theorem Tryz.info3 : (Tryz.prog.info? 3).map (fun i => (i.zero, i.size, i.bytes)) = some (some (.int .i64 0), 1, 8) := by kernel_rfl
theorem Tryz.und61 : Tryz.prog.underlying 61 = some (.slice 3) := by kernel_rfl
theorem make_ints (n : Nat) (hn : n ≤ 8000) (w : World) : (Instr.makeSlice 61 (.int .i64 (n : Int)) (.int .i64 (n : Int))).run Tryz.prog w = .ok (.slice (some ⟨w.heap.size, 0, none⟩) n n) (w.alloc (.cells (Array.replicate n (.int .i64 0)) 3)) := by
  rw [run_make_row' 61 3 (.int .i64 0) 8 Tryz.und61 Tryz.info3 rfl .i64 .i64 n (by omega) (by omega) w, made_ints, rep_ints]
def flowR (fs : List Int) (ar : Int) (code : List Ins) : Int := if code = [] then 174 else flowP fs code.length 0 code ((List.replicate code.length 0).set 0 (ar + 1))
set_option maxHeartbeats 16000000 in
set_option maxRecDepth 10000 in
theorem wrongFlow_any {w : World} {B gg go : Nat} {sv cv : Value} {l : List Shp} {code : List Ins} {ar : Int} {rd : Option Addr} {rcap ng : Nat} (hB : B ≤ w.heap.size) (hgg : gg < B) (hs : RowE EShp w (fun y => y < B) (fun y => y < B) sv l) (hc : RowE EIns w (fun y => y < B) (fun y => y < B) cv code) (ha : w.cell? ⟨gg, go + 1, none⟩ = some (.int .i64 ar)) (hcv : w.cell? ⟨gg, go + 2, none⟩ = some cv) (hR : ∀ w2, Below B w w2 → RowsAt w2 rd rcap)
    (hfs : ∀ k (h : k < l.length), 0 ≤ l[k].2 ∧ l[k].2 ≤ 8) (hll : l.length < 140737488355328) (hn8 : code.length ≤ 8000) (h0 : 0 ≤ ar) (h24 : ar ≤ 24) (hx : ∀ i (h : i < code.length), numP l.length ng code.length i code[i] = 0) (hxa : ∀ i (h : i < code.length), code[i].2.1 < 9223372036854775808) :
    Calls Tryz.prog 70 #[sv, .pointer (some ⟨gg, go, none⟩)] w fun r w' => r = .returned (.int .i64 (flowR (l.map fun s => s.2) ar code)) ∧ Hid (Below B w w') := by
  obtain ⟨ca, ccap, hcve, _⟩ := ins_at hc
  obtain ⟨n, hn⟩ : ∃ n, n = code.length := ⟨_, rfl⟩
  have HN : Hid (n = code.length) := hn
  rw [← hn] at hcve
  have HCV : Hid (cv = .slice ca n ccap) := hcve
  rw [hcve] at hcv
  have HC : Hid (RowE EIns w (fun y => y < B) (fun y => y < B) cv code) := hc
  have HS : Hid (RowE EShp w (fun y => y < B) (fun y => y < B) sv l) := hs
  have HX : Hid (∀ i (h : i < code.length), numP l.length ng code.length i code[i] = 0) := hx
  have HXA : Hid (∀ i (h : i < code.length), code[i].2.1 < 9223372036854775808) := hxa
  have HFS : Hid (∀ k (h : k < l.length), 0 ≤ l[k].2 ∧ l[k].2 ≤ 8) := hfs
  have HFG : Hid (∀ k, 0 ≤ (l.map fun s => s.2).getD k 0) := fun k => by
    by_cases hk : k < l.length
    · rw [getD_map2 l k hk]; exact (hfs k hk).1
    · simp [List.getD, show l.length ≤ k by omega]
  have HRW : Hid (∀ w2, Below B w w2 → RowsAt w2 rd rcap) := hR
  obtain ⟨sa, scap, rfl⟩ := RowK.len hs
  obtain ⟨R, hRe⟩ : ∃ R, R = flowR (l.map fun s => s.2) ar code := ⟨_, rfl⟩
  have HR : Hid (R = flowR (l.map fun s => s.2) ar code) := hRe
  rw [← hRe]
  have hn8' : n ≤ 8000 := by omega
  have HAR : Hid (w.cell? ⟨gg, go + 1, none⟩ = some (.int .i64 ar)) := ha
  clear hRe hn hcve hc hs hx hxa hfs hR hn8
  go_enter Tryz.func70, Tryz.ntmps70
  by_cases hn0 : n = 0
  · have HE : Hid (R = 174) := by
      show R = 174
      rw [HR.out]
      unfold flowR
      rw [if_pos (List.length_eq_zero_iff.1 (by rw [← HN.out]; exact hn0))]
    have e1 : ((n : Int) == 0) = true := by simp [hn0]
    go_wp2
    go_ret
    exact ⟨by rw [HE.out]; rfl, Below.refl _ _⟩
  · have e1 : ((n : Int) == 0) = false := by simpa using hn0
    have hS0 : (fun w' : World => w'.cell? ⟨gg, go + 1, none⟩ = some (.int .i64 ar) ∧ w'.cell? ⟨gg, go + 2, none⟩ = some (.slice ca n ccap)) w.drew := ⟨ha, hcv⟩
    have qmk := make_ints n hn8'
    have HR2 : Hid (R = flowP (l.map fun s => s.2) n 0 code ((List.replicate n 0).set 0 (ar + 1))) := by
      show R = _
      rw [HR.out]
      unfold flowR
      rw [if_neg (fun e => hn0 (by rw [HN.out, e]; rfl)), HN.out]
    have hSk : ∀ o : Obj, (fun w' : World => w'.cell? ⟨gg, go + 1, none⟩ = some (.int .i64 ar) ∧ w'.cell? ⟨gg, go + 2, none⟩ = some (.slice ca n ccap)) (w.drew.alloc o) := fun o => by
      obtain ⟨s1, s2⟩ := hS0
      have hb := (Below.refl w.drew.heap.size w.drew).alloc (Nat.le_refl _) o
      exact ⟨(hb.cell (World.block_lt_of_cell? _ _ s1)).trans s1, (hb.cell (World.block_lt_of_cell? _ _ s2)).trans s2⟩
    have hSk2 : ∀ o o2 : Obj, (fun w' : World => w'.cell? ⟨gg, go + 1, none⟩ = some (.int .i64 ar) ∧ w'.cell? ⟨gg, go + 2, none⟩ = some (.slice ca n ccap)) ((w.drew.alloc o).alloc o2) := fun o o2 => by
      obtain ⟨s1, s2⟩ := hSk o
      have hb := (Below.refl (w.drew.alloc o).heap.size (w.drew.alloc o)).alloc (Nat.le_refl _) o2
      exact ⟨(hb.cell (World.block_lt_of_cell? _ _ s1)).trans s1, (hb.cell (World.block_lt_of_cell? _ _ s2)).trans s2⟩
    clear HR ha
    go_upto_region 3 with fail
    refine wp_region_M (S := (fun w' : World => w'.cell? ⟨gg, go + 1, none⟩ = some (.int .i64 ar) ∧ w'.cell? ⟨gg, go + 2, none⟩ = some (.slice ca n ccap))) (L := 13) (n := 14) (by kernel_rfl) rfl (by kernel_rfl) ?_
    have HB0 : Hid (Below B w w.drew) := (Below.refl B w).drew
    have HZ0 : Hid (B ≤ w.drew.heap.size) := hB
    generalize w.drew = w0 at *
    refine wpAnyK_go (i := 0) (m' := 1) (some 14) (v := .slice sa l.length scap) rfl rfl (by kernel_rfl) (by kernel_rfl) (by kernel_rfl) (by kernel_rfl) (by kernel_rfl) (fun _ _ _ h => h) (Or.inl ⟨by rfl, ?_⟩) hS0 ?_
    · intro w' hSw
      go_simp
    simp only [Act.put, List.setIfInBounds_toArray, List.set_cons_zero, List.set_cons_succ]
    refine wpAnyK_go (i := 1) (m' := 3) (some 15) (v := .pointer (some ⟨gg, go, none⟩)) rfl rfl (by kernel_rfl) (by kernel_rfl) (by kernel_rfl) (by kernel_rfl) (by kernel_rfl) (fun _ _ _ h => h) (Or.inl ⟨by rfl, ?_⟩) hS0 ?_
    · intro w' hSw
      go_simp
    simp only [Act.put, List.setIfInBounds_toArray, List.set_cons_zero, List.set_cons_succ]
    refine wpAnyK_go (i := 2) (m' := 7) (some 16) (v := .pointer (some ⟨gg, go, none⟩)) rfl rfl (by kernel_rfl) (by kernel_rfl) (by kernel_rfl) (by kernel_rfl) (by kernel_rfl) (fun _ _ _ h => h) (Or.inl ⟨by rfl, ?_⟩) hS0 ?_
    · intro w' hSw
      go_simp
    simp only [Act.put, List.setIfInBounds_toArray, List.set_cons_zero, List.set_cons_succ]
    refine wpAnyK_go (i := 3) (m' := 15) (some 17) (v := .pointer (some ⟨gg, go + 2, none⟩)) rfl rfl (by kernel_rfl) (by kernel_rfl) (by kernel_rfl) (by kernel_rfl) (by kernel_rfl) (fun _ _ _ h => h) (Or.inl ⟨by rfl, ?_⟩) hS0 ?_
    · intro w' hSw
      go_simp
    simp only [Act.put, List.setIfInBounds_toArray, List.set_cons_zero, List.set_cons_succ]
    refine wpAnyK_go (i := 4) (m' := 31) (some 18) (v := .slice ca n ccap) rfl rfl (by kernel_rfl) (by kernel_rfl) (by kernel_rfl) (by kernel_rfl) (by kernel_rfl) (fun _ _ _ h => h) (Or.inl ⟨by rfl, ?_⟩) hS0 ?_
    · intro w' hSw
      obtain ⟨s1, s2⟩ := hSw
      go_simp
    simp only [Act.put, List.setIfInBounds_toArray, List.set_cons_zero, List.set_cons_succ]
    refine wpAnyK_go (i := 5) (m' := 63) (some 19) (v := .pointer (some ⟨gg, go, none⟩)) rfl rfl (by kernel_rfl) (by kernel_rfl) (by kernel_rfl) (by kernel_rfl) (by kernel_rfl) (fun _ _ _ h => h) (Or.inl ⟨by rfl, ?_⟩) hS0 ?_
    · intro w' hSw
      go_simp
    simp only [Act.put, List.setIfInBounds_toArray, List.set_cons_zero, List.set_cons_succ]
    refine wpAnyK_go (i := 6) (m' := 127) (some 20) (v := .pointer (some ⟨gg, go, none⟩)) rfl rfl (by kernel_rfl) (by kernel_rfl) (by kernel_rfl) (by kernel_rfl) (by kernel_rfl) (fun _ _ _ h => h) (Or.inl ⟨by rfl, ?_⟩) hS0 ?_
    · intro w' hSw
      go_simp
    simp only [Act.put, List.setIfInBounds_toArray, List.set_cons_zero, List.set_cons_succ]
    refine wpAnyK_go (i := 7) (m' := 255) (some 21) (v := .pointer (some ⟨gg, go + 2, none⟩)) rfl rfl (by kernel_rfl) (by kernel_rfl) (by kernel_rfl) (by kernel_rfl) (by kernel_rfl) (fun _ _ _ h => h) (Or.inl ⟨by rfl, ?_⟩) hS0 ?_
    · intro w' hSw
      go_simp
    simp only [Act.put, List.setIfInBounds_toArray, List.set_cons_zero, List.set_cons_succ]
    refine wpAnyK_go (i := 8) (m' := 511) (some 22) (v := .slice ca n ccap) rfl rfl (by kernel_rfl) (by kernel_rfl) (by kernel_rfl) (by kernel_rfl) (by kernel_rfl) (fun _ _ _ h => h) (Or.inl ⟨by rfl, ?_⟩) hS0 ?_
    · intro w' hSw
      obtain ⟨s1, s2⟩ := hSw
      go_simp
    simp only [Act.put, List.setIfInBounds_toArray, List.set_cons_zero, List.set_cons_succ]
    refine wpAnyK_go (i := 9) (m' := 1023) (some 23) (v := .int .i64 (n : Int)) rfl rfl (by kernel_rfl) (by kernel_rfl) (by kernel_rfl) (by kernel_rfl) (by kernel_rfl) (fun _ _ _ h => h) (Or.inl ⟨by rfl, ?_⟩) hS0 ?_
    · intro w' hSw
      go_simp
    simp only [Act.put, List.setIfInBounds_toArray, List.set_cons_zero, List.set_cons_succ]
    refine wpAnyK_two (i := 10) (j := 12) (mi := 2047) (mj := 5119) (by kernel_rfl) rfl rfl (by kernel_rfl) (by kernel_rfl) ?_ ?_
    · intro K hK
      obtain ⟨F, hF⟩ : ∃ F, F = w0.heap.size + 1 := ⟨_, rfl⟩
      obtain ⟨D, hD⟩ : ∃ D, D = w0.heap.size := ⟨_, rfl⟩
      obtain ⟨U, hU⟩ : ∃ U, U = ((w0.alloc (.cells (Array.replicate n (.int .i64 0)) 3)).alloc (.cells #[.slice none 0 0, .slice none 0 0, .slice none 0 0] 150)) := ⟨_, rfl⟩
      have hUF : U.heap[F]? = some (.cells #[.slice none 0 0, .slice none 0 0, .slice none 0 0] 150 (0, 0)) := by
        rw [hU, hF]
        have := new_blk (w0.alloc (.cells (Array.replicate n (.int .i64 0)) 3)) (.cells #[.slice none 0 0, .slice none 0 0, .slice none 0 0] 150)
        rw [World.size_alloc] at this
        exact this
      have hUD : DepAt U D (List.replicate n 0) := by
        unfold DepAt
        rw [hU, hD, rep_ints]
        exact (Below.heap_alloc _ _ _ (by rw [World.size_alloc]; omega)).trans (new_blk _ _)
      have hUB : Below B w U := by
        rw [hU]
        exact (HB0.out.alloc HZ0.out _).alloc (by rw [World.size_alloc]; have := HZ0.out; omega) _
      have HFD : Hid (F ≠ D ∧ B ≤ F ∧ B ≤ D) := by have := HZ0.out; exact ⟨by omega, by omega, by omega⟩
      have HFE : Hid (F = w0.heap.size + 1) := hF
      have HDE : Hid (D = w0.heap.size) := hD
      have HUE : Hid (U = ((w0.alloc (.cells (Array.replicate n (.int .i64 0)) 3)).alloc (.cells #[.slice none 0 0, .slice none 0 0, .slice none 0 0] 150))) := hU
      have HUD : Hid (DepAt U D (List.replicate n 0)) := hUD
      have HUB : Hid (Below B w U) := hUB
      obtain ⟨f0, f1, f2, x0, x1, x2⟩ : U.frozen? ⟨F, 0, none⟩ = false ∧ U.frozen? ⟨F, 1, none⟩ = false ∧ U.frozen? ⟨F, 2, none⟩ = false ∧ U.cell? ⟨F, 0, none⟩ = some (.slice none 0 0) ∧ U.cell? ⟨F, 1, none⟩ = some (.slice none 0 0) ∧ U.cell? ⟨F, 2, none⟩ = some (.slice none 0 0) := ⟨heap_frozen hUF, heap_frozen hUF, heap_frozen hUF, heap_cl hUF rfl, heap_cl hUF rfl, heap_cl hUF rfl⟩
      obtain ⟨W2, hW2, hWF, hWk, hWs, hWb⟩ := store3 hUF (.slice sa l.length scap) (.slice ca n ccap) (.slice (some ⟨D, 0, none⟩) n n)
      have HF2 : Hid (FlowW W2 B F D (.slice sa l.length scap) cv n n (List.replicate n 0)) := ⟨by rw [HCV.out]; exact hWF, hUD.on (hWk D (fun e => HFD.out.1 e.symm)), by simp, Nat.le_refl _, HFD.out.1, HFD.out.2.1, HFD.out.2.2⟩
      have HB2 : Hid (Below B w W2) := hUB.trans (hWb.mono HFD.out.2.1)
      clear hF hD hU hUD hUB hWF hWk hWs hWb hUF
      go_simp
      refine hK.out _ _ (fun _ => hSk _) ?_
      clear hK K
      refine wpAnyK_go (i := 11) (m' := 4095) (some 25) (v := .agg #[.slice sa l.length scap, .slice ca n ccap, .slice (some ⟨w0.heap.size, 0, none⟩) n n]) rfl rfl (by kernel_rfl) (by kernel_rfl) (by kernel_rfl) (by kernel_rfl) (by kernel_rfl) (fun _ _ _ h => h) (Or.inl ⟨by rfl, ?_⟩) (hSk _) ?_
      · intro w' hSw
        go_simp
      simp only [Act.put, List.setIfInBounds_toArray, List.set_cons_zero, List.set_cons_succ]
      refine wpAnyK_only (i := 12) (m' := 8191) (by kernel_rfl) rfl (by kernel_rfl) fun K hK => ?_
      go_simp
      refine hK.out _ _ (fun _ => hSk2 _ _) ?_
      clear hK K
      rw [← HUE.out, ← HFE.out, ← HDE.out]
      clear HUE
      refine wpAnyK_only (i := 13) (m' := 16383) (by kernel_rfl) rfl (by kernel_rfl) fun K hK => ?_
      go_simp
      rw [← hW2]
      refine hK.out _ _ (fun h => absurd rfl h) ?_
      clear hK K f0 f1 f2 x0 x1 x2 hW2 HFE HDE hSk hSk2 hS0 HUD HUB
      refine wpAnyK_done (by kernel_rfl) ?_ _
      have ha3 : W2.drew.cell? ⟨gg, go + 1, none⟩ = some (.int .i64 ar) := ((HB2.out.drew).cell (p := ⟨gg, go + 1, none⟩) hgg).trans HAR.out
      have hf2 : W2.drew.cell? ⟨F, 2, none⟩ = some (.slice (some ⟨D, 0, none⟩) n n) := heap_cl (w := W2.drew) HF2.out.blk rfl
      have hd0 : W2.drew.cell? ⟨D, 0, none⟩ = some (.int .i64 0) := by
        have := (HF2.out.on ((Below.refl _ _).drew)).dep.cell (i := 0) (by simp; omega)
        rw [this]
        simp [List.getD, show 0 < n by omega]
      have hfr : W2.drew.frozen? ⟨D, 0, none⟩ = false := (HF2.out.on ((Below.refl _ _).drew)).dep.frozen
      have hn1 : (0 : Int) < (n : Int) := by omega
      have HF3 : Hid (FlowW ((W2.setCell ⟨D, 0, none⟩ (.int .i64 (ar + 1))).drew) B F D (.slice sa l.length scap) cv n n ((List.replicate n 0).set 0 (ar + 1))) := (HF2.out.on ((Below.refl _ _).drew)).put ((HF2.out.on ((Below.refl _ _).drew)).dep.put 0 (ar + 1)) (by simp) (fun y hy => Below.heap_setCell _ _ _ _ hy)
      have HB3 : Hid (Below B w ((W2.setCell ⟨D, 0, none⟩ (.int .i64 (ar + 1))).drew)) := (HB2.out.drew).setCell (show B ≤ D from HFD.out.2.2) _
      have HRG : Hid (∀ j, 0 ≤ ((List.replicate n (0 : Int)).set 0 (ar + 1)).getD j 0 ∧ ((List.replicate n (0 : Int)).set 0 (ar + 1)).getD j 0 ≤ 8000) := fun j => by
        by_cases hj : j = 0
        · subst hj
          rw [getD_set_eq' (by simp; omega)]
          exact ⟨by omega, by omega⟩
        · rw [getD_set_ne' hj]
          by_cases hjn : j < n
          · simp [List.getD, hjn]
          · simp [List.getD, show n ≤ j by omega]
      clear HF2 HB2
      go_wp2
      go_region
      all_goals
        generalize (W2.setCell ⟨D, 0, none⟩ (.int .i64 (ar + 1))).drew = W3 at *
        have HG2 : Hid (R = flowP (l.map fun s => s.2) n 0 (code.drop 0) ((List.replicate n 0).set 0 (ar + 1))) := HR2.out
        have hf1 : W3.cell? ⟨F, 1, none⟩ = some (.slice ca n ccap) := by rw [← HCV.out]; exact heap_cl HF3.out.blk rfl
        clear ha3 hf2 hd0 hfr HR2
        generalize (List.replicate n (0 : Int)).set 0 (ar + 1) = ds0 at *
        go_upto_region 6 with fail
        go_loopw [37] (fun iv wr => ∃ (i : Nat) (ds : List Int), i ≤ n ∧ iv = .int .i64 i ∧ Hid (Below B w wr) ∧ Hid (FlowW wr B F D (.slice sa l.length scap) cv n n ds) ∧ Hid (R = flowP (l.map fun s => s.2) n i (code.drop i) ds) ∧ Hid (∀ j, 0 ≤ ds.getD j 0 ∧ ds.getD j 0 ≤ 8000)) (fun iv _ => n - (intOf iv).toNat)
        case atStart => exact ⟨0, ds0, by omega, by go_num, HB3.out, HF3.out, HG2.out, HRG.out⟩
        case round =>
          clear HB3 HF3 HG2 HRG hf1
          obtain ⟨i, ds, hi, rfl, HB, HF, HG, HRG⟩ := hrel
          by_cases hin : i < n
          · have hic : i < code.length := by have := HN.out; omega
            have CW := wrongAt_any HF.out (Nat.le_trans hB HB.out.size) (row_low HS.out HB.out) (row_low HC.out HB.out) HN.out (fun w2 hb => HRW.out w2 (HB.out.trans hb)) HFS.out hll hn8' hic (HX.out i hic) (HXA.out i hic) (HRG.out i)
            have HRG2 : Hid (∀ j, 0 ≤ (atP (l.map fun s => s.2) n ds i code[i]).1.getD j 0 ∧ (atP (l.map fun s => s.2) n ds i code[i]).1.getD j 0 ≤ 8000) := at_range (ns := l.length) (ng := ng) HRG.out HFG.out (by rw [HN.out]; exact HX.out i hic)
            have HG2 : Hid (R = if (atP (l.map fun s => s.2) n ds i code[i]).2 = 0 then flowP (l.map fun s => s.2) n (i + 1) (code.drop (i + 1)) (atP (l.map fun s => s.2) n ds i code[i]).1 else (atP (l.map fun s => s.2) n ds i code[i]).2) := by
              show R = _
              rw [HG.out, List.drop_eq_getElem_cons hic]
              rfl
            have i1 : (0 : Int) ≤ (i : Int) := by omega
            have i2 : (i : Int) < (n : Int) := by omega
            clear HRG HG
            generalize atP (l.map fun s => s.2) n ds i code[i] = av at *
            obtain ⟨es, av⟩ := av
            simp only at CW HG2 HRG2
            by_cases h0' : av = 0
            · have HG3 : Hid (R = flowP (l.map fun s => s.2) n (i + 1) (code.drop (i + 1)) es) := by show R = _; rw [HG2.out, if_pos h0']
              have e5 : (av != 0) = false := by simp [h0']
              clear HG2
              go_wp2_with (first | (go_at_call 105; (with_reducible refine Calls.mono CW ?_); rintro e6 w6 ⟨rfl, HH6⟩))
              have HB6 : Hid (Below B w w6) := HB.out.trans HH6.out.1
              have HF6 : Hid (FlowW w6 B F D (.slice sa l.length scap) cv n n es) := HH6.out.2
              go_roundw
              case rel => exact ⟨i + 1, es, hin, by go_num, HB6.out, HF6.out, HG3.out, HRG2.out⟩
              case measure => simp [intOf]; omega
            · have HE : Hid (R = av) := by show R = _; rw [HG2.out, if_neg h0']
              have e5 : (av != 0) = true := by simp [h0']
              clear HG2 HRG2
              go_wp2_with (first | (go_at_call 105; (with_reducible refine Calls.mono CW ?_); rintro e6 w6 ⟨rfl, HH6⟩))
              go_ret
              exact ⟨by rw [HE.out]; rfl, HB.out.trans HH6.out.1⟩
          · have HE : Hid (R = 0) := by
              show R = 0
              rw [HG.out, List.drop_eq_nil_of_le (by have := HN.out; omega)]
              rfl
            have e3 : ¬ ((i : Int) < (n : Int)) := by omega
            go_wp2
            go_ret
            exact ⟨by rw [HE.out]; rfl, HB.out⟩
    · intro K hK
      obtain ⟨F, hF⟩ : ∃ F, F = w0.heap.size := ⟨_, rfl⟩
      obtain ⟨D, hD⟩ : ∃ D, D = w0.heap.size + 1 := ⟨_, rfl⟩
      obtain ⟨U, hU⟩ : ∃ U, U = ((w0.alloc (.cells #[.slice none 0 0, .slice none 0 0, .slice none 0 0] 150)).alloc (.cells (Array.replicate n (.int .i64 0)) 3)) := ⟨_, rfl⟩
      have hUF : U.heap[F]? = some (.cells #[.slice none 0 0, .slice none 0 0, .slice none 0 0] 150 (0, 0)) := by
        rw [hU, hF]
        exact (Below.heap_alloc _ _ _ (by rw [World.size_alloc]; omega)).trans (new_blk _ _)
      have hUD : DepAt U D (List.replicate n 0) := by
        unfold DepAt
        rw [hU, hD, rep_ints]
        have := new_blk (w0.alloc (.cells #[.slice none 0 0, .slice none 0 0, .slice none 0 0] 150)) (.cells (Array.replicate n (.int .i64 0)) 3)
        rw [World.size_alloc] at this
        exact this
      have hUB : Below B w U := by
        rw [hU]
        exact (HB0.out.alloc HZ0.out _).alloc (by rw [World.size_alloc]; have := HZ0.out; omega) _
      have HFD : Hid (F ≠ D ∧ B ≤ F ∧ B ≤ D) := by have := HZ0.out; exact ⟨by omega, by omega, by omega⟩
      have HFE : Hid (F = w0.heap.size) := hF
      have HDE : Hid (D = w0.heap.size + 1) := hD
      have HUE : Hid (U = ((w0.alloc (.cells #[.slice none 0 0, .slice none 0 0, .slice none 0 0] 150)).alloc (.cells (Array.replicate n (.int .i64 0)) 3))) := hU
      have HUD : Hid (DepAt U D (List.replicate n 0)) := hUD
      have HUB : Hid (Below B w U) := hUB
      obtain ⟨f0, f1, f2, x0, x1, x2⟩ : U.frozen? ⟨F, 0, none⟩ = false ∧ U.frozen? ⟨F, 1, none⟩ = false ∧ U.frozen? ⟨F, 2, none⟩ = false ∧ U.cell? ⟨F, 0, none⟩ = some (.slice none 0 0) ∧ U.cell? ⟨F, 1, none⟩ = some (.slice none 0 0) ∧ U.cell? ⟨F, 2, none⟩ = some (.slice none 0 0) := ⟨heap_frozen hUF, heap_frozen hUF, heap_frozen hUF, heap_cl hUF rfl, heap_cl hUF rfl, heap_cl hUF rfl⟩
      obtain ⟨W2, hW2, hWF, hWk, hWs, hWb⟩ := store3 hUF (.slice sa l.length scap) (.slice ca n ccap) (.slice (some ⟨D, 0, none⟩) n n)
      have HF2 : Hid (FlowW W2 B F D (.slice sa l.length scap) cv n n (List.replicate n 0)) := ⟨by rw [HCV.out]; exact hWF, hUD.on (hWk D (fun e => HFD.out.1 e.symm)), by simp, Nat.le_refl _, HFD.out.1, HFD.out.2.1, HFD.out.2.2⟩
      have HB2 : Hid (Below B w W2) := hUB.trans (hWb.mono HFD.out.2.1)
      clear hF hD hU hUD hUB hWF hWk hWs hWb hUF
      go_simp
      refine hK.out _ _ (fun _ => hSk _) ?_
      clear hK K
      refine wpAnyK_only (i := 10) (m' := 6143) (by kernel_rfl) rfl (by kernel_rfl) fun K hK => ?_
      go_simp
      refine hK.out _ _ (fun _ => hSk2 _ _) ?_
      clear hK K
      refine wpAnyK_go (i := 11) (m' := 8191) (some 25) (v := .agg #[.slice sa l.length scap, .slice ca n ccap, .slice (some ⟨w0.heap.size + 1, 0, none⟩) n n]) rfl rfl (by kernel_rfl) (by kernel_rfl) (by kernel_rfl) (by kernel_rfl) (by kernel_rfl) (fun _ _ _ h => h) (Or.inl ⟨by rfl, ?_⟩) (hSk2 _ _) ?_
      · intro w' hSw
        go_simp
      simp only [Act.put, List.setIfInBounds_toArray, List.set_cons_zero, List.set_cons_succ]
      rw [← HUE.out, ← HDE.out, ← HFE.out]
      clear HUE
      refine wpAnyK_only (i := 13) (m' := 16383) (by kernel_rfl) rfl (by kernel_rfl) fun K hK => ?_
      go_simp
      rw [← hW2]
      refine hK.out _ _ (fun h => absurd rfl h) ?_
      clear hK K f0 f1 f2 x0 x1 x2 hW2 HFE HDE hSk hSk2 hS0 HUD HUB
      refine wpAnyK_done (by kernel_rfl) ?_ _
      have ha3 : W2.drew.cell? ⟨gg, go + 1, none⟩ = some (.int .i64 ar) := ((HB2.out.drew).cell (p := ⟨gg, go + 1, none⟩) hgg).trans HAR.out
      have hf2 : W2.drew.cell? ⟨F, 2, none⟩ = some (.slice (some ⟨D, 0, none⟩) n n) := heap_cl (w := W2.drew) HF2.out.blk rfl
      have hd0 : W2.drew.cell? ⟨D, 0, none⟩ = some (.int .i64 0) := by
        have := (HF2.out.on ((Below.refl _ _).drew)).dep.cell (i := 0) (by simp; omega)
        rw [this]
        simp [List.getD, show 0 < n by omega]
      have hfr : W2.drew.frozen? ⟨D, 0, none⟩ = false := (HF2.out.on ((Below.refl _ _).drew)).dep.frozen
      have hn1 : (0 : Int) < (n : Int) := by omega
      have HF3 : Hid (FlowW ((W2.setCell ⟨D, 0, none⟩ (.int .i64 (ar + 1))).drew) B F D (.slice sa l.length scap) cv n n ((List.replicate n 0).set 0 (ar + 1))) := (HF2.out.on ((Below.refl _ _).drew)).put ((HF2.out.on ((Below.refl _ _).drew)).dep.put 0 (ar + 1)) (by simp) (fun y hy => Below.heap_setCell _ _ _ _ hy)
      have HB3 : Hid (Below B w ((W2.setCell ⟨D, 0, none⟩ (.int .i64 (ar + 1))).drew)) := (HB2.out.drew).setCell (show B ≤ D from HFD.out.2.2) _
      have HRG : Hid (∀ j, 0 ≤ ((List.replicate n (0 : Int)).set 0 (ar + 1)).getD j 0 ∧ ((List.replicate n (0 : Int)).set 0 (ar + 1)).getD j 0 ≤ 8000) := fun j => by
        by_cases hj : j = 0
        · subst hj
          rw [getD_set_eq' (by simp; omega)]
          exact ⟨by omega, by omega⟩
        · rw [getD_set_ne' hj]
          by_cases hjn : j < n
          · simp [List.getD, hjn]
          · simp [List.getD, show n ≤ j by omega]
      clear HF2 HB2
      go_wp2
      go_region
      all_goals
        generalize (W2.setCell ⟨D, 0, none⟩ (.int .i64 (ar + 1))).drew = W3 at *
        have HG2 : Hid (R = flowP (l.map fun s => s.2) n 0 (code.drop 0) ((List.replicate n 0).set 0 (ar + 1))) := HR2.out
        have hf1 : W3.cell? ⟨F, 1, none⟩ = some (.slice ca n ccap) := by rw [← HCV.out]; exact heap_cl HF3.out.blk rfl
        clear ha3 hf2 hd0 hfr HR2
        generalize (List.replicate n (0 : Int)).set 0 (ar + 1) = ds0 at *
        go_upto_region 6 with fail
        go_loopw [37] (fun iv wr => ∃ (i : Nat) (ds : List Int), i ≤ n ∧ iv = .int .i64 i ∧ Hid (Below B w wr) ∧ Hid (FlowW wr B F D (.slice sa l.length scap) cv n n ds) ∧ Hid (R = flowP (l.map fun s => s.2) n i (code.drop i) ds) ∧ Hid (∀ j, 0 ≤ ds.getD j 0 ∧ ds.getD j 0 ≤ 8000)) (fun iv _ => n - (intOf iv).toNat)
        case atStart => exact ⟨0, ds0, by omega, by go_num, HB3.out, HF3.out, HG2.out, HRG.out⟩
        case round =>
          clear HB3 HF3 HG2 HRG hf1
          obtain ⟨i, ds, hi, rfl, HB, HF, HG, HRG⟩ := hrel
          by_cases hin : i < n
          · have hic : i < code.length := by have := HN.out; omega
            have CW := wrongAt_any HF.out (Nat.le_trans hB HB.out.size) (row_low HS.out HB.out) (row_low HC.out HB.out) HN.out (fun w2 hb => HRW.out w2 (HB.out.trans hb)) HFS.out hll hn8' hic (HX.out i hic) (HXA.out i hic) (HRG.out i)
            have HRG2 : Hid (∀ j, 0 ≤ (atP (l.map fun s => s.2) n ds i code[i]).1.getD j 0 ∧ (atP (l.map fun s => s.2) n ds i code[i]).1.getD j 0 ≤ 8000) := at_range (ns := l.length) (ng := ng) HRG.out HFG.out (by rw [HN.out]; exact HX.out i hic)
            have HG2 : Hid (R = if (atP (l.map fun s => s.2) n ds i code[i]).2 = 0 then flowP (l.map fun s => s.2) n (i + 1) (code.drop (i + 1)) (atP (l.map fun s => s.2) n ds i code[i]).1 else (atP (l.map fun s => s.2) n ds i code[i]).2) := by
              show R = _
              rw [HG.out, List.drop_eq_getElem_cons hic]
              rfl
            have i1 : (0 : Int) ≤ (i : Int) := by omega
            have i2 : (i : Int) < (n : Int) := by omega
            clear HRG HG
            generalize atP (l.map fun s => s.2) n ds i code[i] = av at *
            obtain ⟨es, av⟩ := av
            simp only at CW HG2 HRG2
            by_cases h0' : av = 0
            · have HG3 : Hid (R = flowP (l.map fun s => s.2) n (i + 1) (code.drop (i + 1)) es) := by show R = _; rw [HG2.out, if_pos h0']
              have e5 : (av != 0) = false := by simp [h0']
              clear HG2
              go_wp2_with (first | (go_at_call 105; (with_reducible refine Calls.mono CW ?_); rintro e6 w6 ⟨rfl, HH6⟩))
              have HB6 : Hid (Below B w w6) := HB.out.trans HH6.out.1
              have HF6 : Hid (FlowW w6 B F D (.slice sa l.length scap) cv n n es) := HH6.out.2
              go_roundw
              case rel => exact ⟨i + 1, es, hin, by go_num, HB6.out, HF6.out, HG3.out, HRG2.out⟩
              case measure => simp [intOf]; omega
            · have HE : Hid (R = av) := by show R = _; rw [HG2.out, if_neg h0']
              have e5 : (av != 0) = true := by simp [h0']
              clear HG2 HRG2
              go_wp2_with (first | (go_at_call 105; (with_reducible refine Calls.mono CW ?_); rintro e6 w6 ⟨rfl, HH6⟩))
              go_ret
              exact ⟨by rw [HE.out]; rfl, HB.out.trans HH6.out.1⟩
          · have HE : Hid (R = 0) := by
              show R = 0
              rw [HG.out, List.drop_eq_nil_of_le (by have := HN.out; omega)]
              rfl
            have e3 : ¬ ((i : Int) < (n : Int)) := by omega
            go_wp2
            go_ret
            exact ⟨by rw [HE.out]; rfl, HB.out⟩
end Go.Proofs.YtlpnegnpejpdkaaGreatDoor
