/- chain: an order in which each element is below the next. slices.Clone and slices.EqualFunc of rows of numbers. What find works on, in memory: the order that is made, the results so far, the ones that are begun. find, where the results are whole. find: one result more, each that may come. greater: a function and all that it is below of. functions: the order of the monotone functions from one order to another one. -/
import Derived.Test.YtgdflaapgfpdeaaGreatDoorMbx
import Derived.Test.YtgdflaapgfpdeaaGreatDoorMax
import Derived.Test.YtgdflaapgfpdeaaGreatDoorMhx
import Derived.OwnWalk
namespace Go.Proofs.YtgdflaapgfpdeaaGreatDoor
open Go.RowKit

theorem Tryz.ty60 : Ty 55 80 ESet.k 8 := by
  obtain ⟨i, hi, h0, h1, h2⟩ := info_parts (show (Tryz.prog.info? 80).map (fun i => (i.zero, i.size, i.bytes)) = some (some (.int .u64 0), 1, 8) by kernel_rfl)
  exact ⟨Tryz.underlying55, ⟨i, _, hi, h0, h1, h2, rfl⟩, by decide, by decide⟩
theorem andNot_chain (n i : Nat) (hn : n = 2 ∨ n = 4) (hi : i < n) : bits BinOp.andNot IntKind.u64 ((2 ^ n - 1 : Nat) : Int) ((2 ^ i - 1 : Nat) : Int) = ((2 ^ n - 2 ^ i : Nat) : Int) := by
  rcases hn with rfl | rfl
  · match i, hi with
    | 0, _ => decide
    | 1, _ => decide
  · match i, hi with
    | 0, _ => decide
    | 1, _ => decide
    | 2, _ => decide
    | 3, _ => decide
/-- One thing more is appended to the row that stands in the cell j of block P. -/
theorem put_cell {α : Type} {E : Elt α} {e B P j : Nat} {c : Array Value} {v v' : Value} {m : List α} {w2 w' : World} (hP : P < B) (hPw : w2.heap[P]? = some (.cells c 57 (0, 0))) (O : OwnN E e B (fun _ => False) w' v' m) (hk : ∀ y, y < w2.heap.size → v.ownBlock ≠ some y → w'.heap[y]? = w2.heap[y]?) (hv : v.ownBlock ≠ some P) :
    (w'.setCell ⟨P, j, none⟩ v').heap[P]? = some (.cells (c.setIfInBounds j v') 57 (0, 0)) ∧ OwnN E e B (fun _ => False) (w'.setCell ⟨P, j, none⟩ v') v' m := by
  have h1 : w'.heap[P]? = some (.cells c 57 (0, 0)) := (hk P (lt_heap hPw) hv).trans hPw
  refine ⟨setCell_block h1, ?_⟩
  have hs : (w'.setCell ⟨P, j, none⟩ v').heap.size = w'.heap.size := World.size_setCell _ _ _
  have hne : ∀ y, B ≤ y → (w'.setCell ⟨P, j, none⟩ v').heap[y]? = w'.heap[y]? := fun y hy => Below.heap_setCell _ _ _ _ (by show y ≠ P; omega)
  have O2 : Own E e B (w'.setCell ⟨P, j, none⟩ v') (Nwr (fun _ => False) B w' v') v' m := Own.on O (fun y hy => by
    rcases hy with hy | hy
    · exact hy.elim
    · exact hne y hy.1) fun g e => hne g (O.lt g e).1
  refine Own.up O2 (fun y hy => hy.imp id fun h => ⟨h.1, by rw [hs]; exact h.2.1, h.2.2⟩) fun y hy e => ?_
  rcases hy with hy | hy
  · exact hy.elim
  · exact hy.2.2 e
set_option maxHeartbeats 8000000 in
set_option maxRecDepth 10000 in
theorem chain_any {w : World} (n : Nat) (hn : n = 2 ∨ n = 4) :
    Calls Tryz.prog 67 #[.int .i64 n] w fun r w' => r = .returned (.pointer (some ⟨w.heap.size, 0, none⟩)) ∧ Below w.heap.size w w' ∧ ∃ v, w'.heap[w.heap.size]? = some (.cells #[v, .pointer none, .pointer none, .slice none 0 0] 57 (0, 0)) ∧ OwnN ESet 80 (w.heap.size + 1) (fun _ => False) w' v (chainP n) := by
  have hn4 : n ≤ 4 := by omega
  have HN : Hid (n = 2 ∨ n = 4) := hn
  have HLEN : Hid ((chainP n).length = n) := chain_len n
  clear hn
  obtain ⟨P, hP⟩ : ∃ P, P = w.heap.size := ⟨_, rfl⟩
  obtain ⟨W, hW⟩ : ∃ W, W = w.alloc (.cells #[.slice none 0 0, .pointer none, .pointer none, .slice none 0 0] 57) := ⟨_, rfl⟩
  have HBW : Hid (Below P w W) := by
    show Below _ _ _
    rw [hW, hP]
    exact (Below.refl _ _).alloc (Nat.le_refl _) _
  have HPW : Hid (W.heap[P]? = some (.cells #[.slice none 0 0, .pointer none, .pointer none, .slice none 0 0] 57 (0, 0))) := by
    show _ = _
    rw [hW, hP]
    exact new_blk _ _
  rw [← hP]
  replace hP : Hid (P = w.heap.size) := hP
  go_enter Tryz.func67, Tryz.ntmps67
  go_upto_region 2 with fail
  rw [← hW, ← hP.out]
  clear hW hP
  go_upto_region 3 with fail
  go_loopw [8] (fun iv wr => ∃ (i : Nat) (v : Value), i ≤ n ∧ iv = .int .i64 i ∧ Hid (Below P w wr) ∧ Hid (wr.heap[P]? = some (.cells #[v, .pointer none, .pointer none, .slice none 0 0] 57 (0, 0))) ∧ Hid (OwnN ESet 80 (P + 1) (fun _ => False) wr v ((chainP n).take i))) (fun iv _ => n - (intOf iv).toNat)
  case atStart => exact ⟨0, _, by omega, by go_num, HBW.out, HPW.out, by rw [List.take_zero]; exact OwnN.nil _ _ _ _ _⟩
  case round =>
    clear HBW HPW
    obtain ⟨i, v, hi, rfl, HB, HP, HO⟩ := hrel
    by_cases hil : i < n
    · have CF := first_any (w := wr.drew) n (by omega)
      have CG := first_any (w := wr.drew) i (by omega)
      have hand := andNot_chain n i HN.out hil
      have i1 : (0 : Int) ≤ (i : Int) := by omega
      have i2 : (i : Int) < (n : Int) := by omega
      go_upto_region 5 with fail
      replace HB : Hid (Below P w wr.drew) := HB.out.drew
      replace HP : Hid (wr.drew.heap[P]? = some (.cells #[v, .pointer none, .pointer none, .slice none 0 0] 57 (0, 0))) := HP.out
      replace HO : Hid (OwnN ESet 80 (P + 1) (fun _ => False) wr.drew v ((chainP n).take i)) := HO.out.on (fun _ h => h.elim) (lt_heap HP.out) ((Below.refl _ _).drew)
      have hvP : v.ownBlock ≠ some P := fun e => by have := (HO.out.lt P e).1; omega
      have hS0 : (fun w' : World => w'.cell? ⟨P, 0, none⟩ = some v) wr.drew := heap_cl HP.out rfl
      refine wp_region_M (S := (fun w' : World => w'.cell? ⟨P, 0, none⟩ = some v)) (L := 14) (n := 15) (by kernel_rfl) rfl (by kernel_rfl) ?_
      refine wpAnyK_go (i := 0) (m' := 1) (some 11) (v := .pointer (some ⟨P, 0, none⟩)) rfl rfl (by kernel_rfl) (by kernel_rfl) (by kernel_rfl) (by kernel_rfl) (by kernel_rfl) (fun _ _ _ h => h) (Or.inl ⟨by rfl, ?_⟩) hS0 ?_
      · intro w' hSw
        go_simp
      simp only [Act.put, List.setIfInBounds_toArray, List.set_cons_zero, List.set_cons_succ]
      refine wpAnyK_go (i := 1) (m' := 3) (some 12) (v := .pointer (some ⟨P, 0, none⟩)) rfl rfl (by kernel_rfl) (by kernel_rfl) (by kernel_rfl) (by kernel_rfl) (by kernel_rfl) (fun _ _ _ h => h) (Or.inl ⟨by rfl, ?_⟩) hS0 ?_
      · intro w' hSw
        go_simp
      simp only [Act.put, List.setIfInBounds_toArray, List.set_cons_zero, List.set_cons_succ]
      refine wpAnyK_go (i := 2) (m' := 7) (some 13) (v := .pointer (some ⟨P, 0, none⟩)) rfl rfl (by kernel_rfl) (by kernel_rfl) (by kernel_rfl) (by kernel_rfl) (by kernel_rfl) (fun _ _ _ h => h) (Or.inl ⟨by rfl, ?_⟩) hS0 ?_
      · intro w' hSw
        go_simp
      simp only [Act.put, List.setIfInBounds_toArray, List.set_cons_zero, List.set_cons_succ]
      refine wpAnyK_go (i := 3) (m' := 15) (some 14) (v := .pointer (some ⟨P, 0, none⟩)) rfl rfl (by kernel_rfl) (by kernel_rfl) (by kernel_rfl) (by kernel_rfl) (by kernel_rfl) (fun _ _ _ h => h) (Or.inl ⟨by rfl, ?_⟩) hS0 ?_
      · intro w' hSw
        go_simp
      simp only [Act.put, List.setIfInBounds_toArray, List.set_cons_zero, List.set_cons_succ]
      refine wpAnyK_go (i := 4) (m' := 31) (some 15) (v := v) rfl rfl (by kernel_rfl) (by kernel_rfl) (by kernel_rfl) (by kernel_rfl) (by kernel_rfl) (fun _ _ _ h => h) (Or.inl ⟨by rfl, ?_⟩) hS0 ?_
      · intro w' hSw
        replace hSw : w'.cell? ⟨P, 0, none⟩ = some v := hSw
        go_simp
      simp only [Act.put, List.setIfInBounds_toArray, List.set_cons_zero, List.set_cons_succ]
      refine wpAnyK_go (i := 5) (m' := 63) (some 16) (v := .int .i64 n) rfl rfl (by kernel_rfl) (by kernel_rfl) (by kernel_rfl) (by kernel_rfl) (by kernel_rfl) (fun _ _ _ h => h) (Or.inl ⟨by rfl, ?_⟩) hS0 ?_
      · intro w' hSw
        go_simp
      simp only [Act.put, List.setIfInBounds_toArray, List.set_cons_zero, List.set_cons_succ]
      refine wpAnyK_go (i := 7) (m' := 191) (some 18) (v := .int .i64 i) rfl rfl (by kernel_rfl) (by kernel_rfl) (by kernel_rfl) (by kernel_rfl) (by kernel_rfl) (fun _ _ _ h => h) (Or.inl ⟨by rfl, ?_⟩) hS0 ?_
      · intro w' hSw
        go_simp
      simp only [Act.put, List.setIfInBounds_toArray, List.set_cons_zero, List.set_cons_succ]
      refine wpAnyK_only (i := 6) (m' := 255) (by kernel_rfl) rfl (by kernel_rfl) fun K hK => ?_
      go_simp
      (with_reducible refine Calls.mono CF ?_)
      rintro e' w2 ⟨rfl, hw2⟩
      subst hw2
      go_simp
      refine hK.out _ _ (fun _ => hS0) ?_
      clear hK K
      refine wpAnyK_only (i := 8) (m' := 511) (by kernel_rfl) rfl (by kernel_rfl) fun K hK => ?_
      go_simp
      (with_reducible refine Calls.mono CG ?_)
      rintro e' w2 ⟨rfl, hw2⟩
      subst hw2
      go_simp
      refine hK.out _ _ (fun _ => hS0) ?_
      clear hK K CF CG
      refine wpAnyK_only (i := 9) (m' := 1023) (by kernel_rfl) rfl (by kernel_rfl) fun K hK => ?_
      go_simp
      refine hK.out _ _ (fun _ => hS0) ?_
      clear hK K
      refine wpAnyK_only (i := 10) (m' := 2047) (by kernel_rfl) rfl (by kernel_rfl) fun K hK => ?_
      go_simp
      refine hK.out _ _ (fun _ => ((Below.refl _ _).alloc (Nat.le_refl _) _ |>.cell (p := ⟨P, 0, none⟩) (lt_heap HP.out)).trans hS0) ?_
      clear hK K
      refine wpAnyK_only (i := 11) (m' := 4095) (by kernel_rfl) rfl (by kernel_rfl) fun K hK => ?_
      refine step_append_N1 (E := ESet) (w1 := wr.drew) (w2 := wr.drew) (cs := [.int .u64 ((2 ^ n - 2 ^ i : Nat) : Int)]) (p := 2 ^ n - 2 ^ i) (cap := 1) Tryz.ty60 rfl _ _ rfl rfl HO.out (fun _ h => h.elim) (lt_heap HP.out) (Below.refl _ _) wr.heap.size rfl rfl rfl (by rw [List.length_take]; omega) ?_
      intro g1 cap1 w1 O1 HK1
      have hl1 : (List.take i (chainP n)).length + 1 = i + 1 := by rw [List.length_take, HLEN.out]; omega
      rw [hl1] at O1 ⊢
      clear hl1
      have hblk1 : w1.heap[P]? = some (.cells #[v, .pointer none, .pointer none, .slice none 0 0] 57 (0, 0)) := (HK1.out.2 P (lt_heap HP.out) hvP).trans HP.out
      obtain ⟨q1, q2⟩ := put_cell (j := 0) (Nat.lt_succ_self P) HP.out O1 HK1.out.2 hvP
      have hS1 : (fun w' : World => w'.cell? ⟨P, 0, none⟩ = some v) w1 := heap_cl hblk1 rfl
      have z1 := heap_frozen (o := 0) hblk1
      refine hK.out _ _ (fun _ => hS1) ?_
      clear hK K
      simp only [Act.put, List.setIfInBounds_toArray]
      refine wpAnyK_only (i := 12) (m' := 8191) (by kernel_rfl) rfl (by kernel_rfl) fun K hK => ?_
      go_simp
      refine hK.out _ _ (fun _ => hS1) ?_
      clear hK K
      refine wpAnyK_only (i := 13) (m' := 16383) (by kernel_rfl) rfl (by kernel_rfl) fun K hK => ?_
      go_simp
      refine hK.out _ _ (fun _ => hS1) ?_
      clear hK K
      refine wpAnyK_only (i := 14) (m' := 32767) (by kernel_rfl) rfl (by kernel_rfl) fun K hK => ?_
      have y1 : w1.cell? ⟨P, 0, none⟩ = some v := hS1
      go_simp
      refine hK.out _ _ (fun h => absurd rfl h) ?_
      clear hK K
      refine wpAnyK_done (by kernel_rfl) ?_ _
      have HB1 : Hid (Below (P + 1) wr.drew w1) := HK1.out.1
      replace HB : Hid (Below P w (w1.setCell ⟨P, 0, none⟩ (.slice (some ⟨g1, 0, none⟩) (i + 1) cap1))) := (HB.out.trans (HB1.out.mono (Nat.le_succ P))).setCell (show P ≤ (⟨P, 0, none⟩ : Addr).block from Nat.le_refl _) _
      replace q1 : Hid _ := q1
      have HT : Hid (List.take i (chainP n) ++ [2 ^ n - 2 ^ i] = List.take (i + 1) (chainP n)) := by
        show _ = _
        have h := HLEN.out
        rw [List.take_succ_eq_append_getElem (by omega)]
        congr 2
        simp [chainP]
      replace q2 : Hid _ := q2
      clear HP HO hS0 hS1 HK1 O1 z1 y1 hblk1 HB1 hand
      generalize w1.setCell ⟨P, 0, none⟩ (.slice (some ⟨g1, 0, none⟩) (i + 1) cap1) = w3 at *
      go_wp2
      go_roundw
      case rel => exact ⟨i + 1, _, hil, by go_num, HB.out, q1.out, by have h := q2.out; rw [HT.out] at h; exact h⟩
      case measure => simp [intOf]; omega
    · obtain rfl : i = n := by omega
      go_wp2
      go_ret
      refine ⟨rfl, HB.out, v, HP.out, ?_⟩
      have h := HO.out
      rwa [List.take_of_length_le (by rw [HLEN.out]; exact Nat.le_refl _)] at h
end Go.Proofs.YtgdflaapgfpdeaaGreatDoor

namespace Go.Proofs.YtgdflaapgfpdeaaGreatDoor
open Go.RowKit

theorem Tryz.ty28 : Ty 25 3 ENat.k 8 := by
  obtain ⟨i, hi, h0, h1, h2⟩ := info_parts (show (Tryz.prog.info? 3).map (fun i => (i.zero, i.size, i.bytes)) = some (some (.int .i64 0), 1, 8) by kernel_rfl)
  exact ⟨Tryz.underlying25, ⟨i, _, hi, h0, h1, h2, rfl⟩, by decide, by decide⟩
theorem Nts.toE {w : World} {S S' : Nat → Prop} {v : Value} {l : List Nat} (h : Nts w S v l) : RowE ENat w S S' v l := by
  rcases h with h | ⟨g, o, cap, h1, h2, h3, h4, h5⟩
  · exact .inl h
  · refine .inr ⟨g, o, cap, h1, h2, h3, fun j hj => ⟨h4, [.int .i64 l[j]], rfl, fun c hc => ?_⟩⟩
    obtain rfl : c = 0 := by have : c < 1 := hc; omega
    have := h5 j hj
    simpa [ENat] using this
theorem RowE.toNts {w : World} {Z S : Nat → Prop} {v : Value} {l : List Nat} (h : RowE ENat w Z S v l) : Nts w Z v l := by
  rcases h with h | ⟨g, o, cap, h1, h2, h3, h4⟩
  · exact .inl h
  · refine .inr ⟨g, o, cap, h1, h2, h3, ?_, fun j hj => ?_⟩
    · cases l with
      | nil => exact absurd rfl h2
      | cons a r => exact (h4 0 (by simp)).1
    · obtain ⟨_, cs, h6, h7⟩ := h4 j hj
      have := h7 0 (by decide)
      rw [show cs = [Value.int .i64 l[j]] from h6] at this
      simpa [ENat] using this
set_option maxHeartbeats 4000000 in
set_option maxRecDepth 10000 in
theorem clone_any {w : World} {S : Nat → Prop} {Q cap : Nat} {bg : List Nat} (hb : Nts w S (.slice (some ⟨Q, 0, none⟩) bg.length cap) bg) (hS : ∀ y, S y → y < w.heap.size) (hl : bg.length ≤ 1000) :
    Calls Tryz.prog 85 #[.slice (some ⟨Q, 0, none⟩) bg.length cap] w fun r w' => ∃ v, r = .returned v ∧ Below w.heap.size w w' ∧ OwnN ENat 3 w.heap.size (fun _ => False) w' v bg := by
  have HB : Hid (Nts w S (.slice (some ⟨Q, 0, none⟩) bg.length cap) bg) := hb
  have HL : Hid (bg.length ≤ 1000) := hl
  have HS : Hid (∀ y, S y → y < w.heap.size) := hS
  clear hb hS hl
  have q22 : (binOp .eql 25 (.slice (some ⟨Q, 0, none⟩) bg.length cap) (.slice none 0 0)).run Tryz.prog w = .ok (.bool false) w := Lib.run_eql_slice_nil w _ _ (some ⟨Q, 0, none⟩) bg.length cap 0 0 Tryz.underlying25
  go_enter Tryz.func85, Tryz.ntmps85
  go_upto_region 3 with fail
  clear q22
  have HO : Hid (Own ENat 3 w.heap.size (w.alloc (.cells #[] 3)) (fun _ => False) (.slice (some ⟨w.heap.size, 0, none⟩) 0 0) []) := ⟨⟨[], Css.nil _ _ _, made_own w _ (Nat.le_refl _) #[] 0 rfl (by decide)⟩, fun _ h => h.elim⟩
  have HR : Hid (RowE ENat (w.alloc (.cells #[] 3)) S (fun _ => False) (.slice (some ⟨Q, 0, none⟩) bg.length cap) bg) := (Nts.toE HB.out).on (Keeps.of ((Below.refl _ _).alloc (Nat.le_refl _) _) HS.out) (fun _ h => h.elim) (fun _ h => h) (fun _ h => h)
  have HW : Hid (Below w.heap.size w (w.alloc (.cells #[] 3))) := (Below.refl _ _).alloc (Nat.le_refl _) _
  go_wp2_with (at_builtin; refine wpList_append_E (E := ENat) Tryz.ty28 rfl _ _ rfl rfl HO.out rfl HR.out (by have := HL.out; simp; omega) HW.out.size (fun _ h => h.elim) ?_; intro v1 w1 O1 B1 _ _)
  have HB1 : Hid (Below w.heap.size w w1) := HW.out.trans B1
  have HO1 : Hid (OwnN ENat 3 w.heap.size (fun _ => False) w1 v1 bg) := Own.up O1 (fun _ h => h.elim) fun y hy e => by
    rcases hy with hy | hy
    · exact hy
    · exact hy.2.2 e
  clear O1 B1
  go_ret
  exact ⟨v1, rfl, HB1.out, HO1.out⟩
set_option maxHeartbeats 4000000 in
set_option maxRecDepth 10000 in
theorem equal_any {w : World} {S : Nat → Prop} {pt : Nat} {ta f g : List Nat} {af ag : Option Addr} {cf cg : Nat} (ht : AbAt w S pt ta) (hf : Nts w S (.slice af f.length cf) f) (hg : Nts w S (.slice ag g.length cg) g) (hl : f.length = g.length) (hl2 : f.length ≤ 1000) (hv : ∀ x ∈ f, x < ta.length) (hu : ∀ x ∈ g, x < 64) (hs : ∀ x ∈ ta, x < 18446744073709551616) :
    Calls Tryz.prog 87 #[.slice af f.length cf, .slice ag g.length cg, .func (.func 37) #[.pointer (some ⟨pt, 0, none⟩)] #[]] w fun r w' => r = .returned (.bool (underP ta f g)) ∧ w' = w := by
  have HC : Hid (∀ i (h : i < f.length) (h' : i < g.length), Calls Tryz.prog 37 #[.pointer (some ⟨pt, 0, none⟩), .int .i64 f[i], .int .i64 g[i]] w fun r w' => r = .returned (.bool ((ta.getD (f.getD i 0) 0).testBit (g.getD i 0))) ∧ w' = w) := fun i h h' => by
    have h1 := hv _ (List.getElem_mem h)
    have := belowO_any ht f[i] g[i] h1 (hs _ (List.getElem_mem h1)) (hu _ (List.getElem_mem h'))
    rwa [show ta.getD (f.getD i 0) 0 = ta[f[i]] by simp [h, h1], show g.getD i 0 = g[i] by simp [h']]
  have HF : Hid (∀ i (h : i < f.length), ∃ b o, af = some ⟨b, o, none⟩ ∧ f.length ≤ cf ∧ w.cell? ⟨b, o + i, none⟩ = some (.int .i64 (f[i] : Int))) := fun i h => by
    obtain ⟨b, o, h1, h2, _, h3⟩ := hf.at h
    exact ⟨b, o, h1, h2, h3⟩
  have HG : Hid (∀ i (h : i < g.length), ∃ b o, ag = some ⟨b, o, none⟩ ∧ g.length ≤ cg ∧ w.cell? ⟨b, o + i, none⟩ = some (.int .i64 (g[i] : Int))) := fun i h => by
    obtain ⟨b, o, h1, h2, _, h3⟩ := hg.at h
    exact ⟨b, o, h1, h2, h3⟩
  have HL : Hid (f.length = g.length) := hl
  have hne : ((f.length : Int) != (g.length : Int)) = false := by rw [hl]; simp
  clear ht hf hg hv hu hs hl
  go_enter Tryz.func87, Tryz.ntmps87
  go_upto_region 4 with fail
  clear hne
  go_loopw [17] (fun iv wr => ∃ i : Nat, i ≤ f.length ∧ iv = .int .i64 i ∧ wr = w ∧ Hid (∀ x, x < i → Le ta (f.getD x 0) (g.getD x 0))) (fun iv _ => f.length - (intOf iv).toNat)
  case atStart => exact ⟨0, by omega, by go_num, rfl, fun x h => by omega⟩
  case round =>
    obtain ⟨i, hi, rfl, hwr, HI⟩ := hrel
    subst hwr
    by_cases hil : i < f.length
    · have hig : i < g.length := by rw [← HL.out]; exact hil
      obtain ⟨b, o, rfl, hfc, q1⟩ := HF.out i hil
      obtain ⟨b', o', rfl, hgc, q2⟩ := HG.out i hig
      have CB := HC.out i hil hig
      have HLE : Hid ((ta.getD (f.getD i 0) 0).testBit (g.getD i 0) = true ↔ Le ta (f.getD i 0) (g.getD i 0)) := Iff.rfl
      have i1 : (0 : Int) ≤ (i : Int) := by omega
      have i2 : (i : Int) < (f.length : Int) := by omega
      have i3 : (i : Int) < (g.length : Int) := by omega
      generalize f[i] = fv at *
      generalize g[i] = gv at *
      cases hb : (ta.getD (f.getD i 0) 0).testBit (g.getD i 0) with
      | true =>
        rw [hb] at CB
        have HI2 : Hid (∀ x, x < i + 1 → Le ta (f.getD x 0) (g.getD x 0)) := fun x hx => by
          by_cases e : x = i
          · subst e; exact HLE.out.1 hb
          · exact HI.out x (by omega)
        clear hb HLE
        go_wp2_with (first | (go_at_call 37; (with_reducible refine Calls.mono CB ?_); rintro e' w3 ⟨rfl, rfl⟩))
        go_roundw
        case rel => exact ⟨i + 1, hil, by go_num, trivial, HI2.out⟩
        case measure => simp [intOf]; omega
      | false =>
        rw [hb] at CB
        have HE : Hid (underP ta f g = false) := by
          show _ = _
          cases hq : underP ta f g with
          | false => rfl
          | true =>
            have := ((under_iff ta f g).1 hq).2 i hil
            have h2 := HLE.out.2 this
            rw [hb] at h2
            cases h2
        clear hb HLE
        go_wp2_with (first | (go_at_call 37; (with_reducible refine Calls.mono CB ?_); rintro e' w3 ⟨rfl, rfl⟩))
        go_ret
        exact ⟨by rw [HE.out]; rfl, rfl⟩
    · obtain rfl : i = f.length := by omega
      have HE : Hid (underP ta f g = true) := (under_iff ta f g).2 ⟨HL.out, HI.out⟩
      go_wp2
      go_ret
      exact ⟨by rw [HE.out]; rfl, rfl⟩
end Go.Proofs.YtgdflaapgfpdeaaGreatDoor

namespace Go.Proofs.YtgdflaapgfpdeaaGreatDoor
open Go.RowKit

theorem Nts.on {w w' : World} {S S' : Nat → Prop} {v : Value} {l : List Nat} (h : Nts w S v l) (hk : Keeps S w w') (hS : ∀ b, S b → S' b) : Nts w' S' v l := by
  rcases h with h | ⟨g, o, cap, h1, h2, h3, h4, h5⟩
  · exact .inl h
  · exact .inr ⟨g, o, cap, h1, h2, h3, hS _ h4, fun j hj => (hk.cell (p := ⟨g, o + j, none⟩) h4).trans (h5 j hj)⟩
theorem Sets.on {w w' : World} {S S' : Nat → Prop} {v : Value} {l : List Nat} (h : Sets w S v l) (hk : Keeps S w w') (hS : ∀ b, S b → S' b) : Sets w' S' v l := by
  rcases h with h | ⟨g, o, cap, h1, h2, h3, h4, h5⟩
  · exact .inl h
  · exact .inr ⟨g, o, cap, h1, h2, h3, hS _ h4, fun j hj => (hk.cell (p := ⟨g, o + j, none⟩) h4).trans (h5 j hj)⟩
theorem AbAt.on {w w' : World} {S S' : Nat → Prop} {p : Nat} {ab : List Nat} (h : AbAt w S p ab) (hk : Keeps S w w') (hS : ∀ b, S b → S' b) : AbAt w' S' p ab := by
  obtain ⟨h0, ad, cap, h1, h2⟩ := h
  exact ⟨hS _ h0, ad, cap, (hk.cell (p := ⟨p, 0, none⟩) h0).trans h1, h2.on hk hS⟩
def ERs : Elt (List Nat) where
  k := 1
  C w S cs l := ∃ ad cap, cs = [.slice ad l.length cap] ∧ Nts w S (.slice ad l.length cap) l
  len := by rintro _ _ _ _ ⟨_, _, rfl, _⟩; rfl
  one := by rintro _ _ _ _ ⟨_, _, rfl, _⟩ u hu; rw [List.mem_singleton.1 hu]; rfl
  on := by rintro _ _ _ _ _ _ hk hS ⟨ad, cap, h1, h2⟩; exact ⟨ad, cap, h1, h2.on hk hS⟩
theorem Tryz.ty45 : Ty 45 25 ERs.k 24 := by
  obtain ⟨i, hi, h0, h1, h2⟩ := info_parts (show (Tryz.prog.info? 25).map (fun i => (i.zero, i.size, i.bytes)) = some (some (.slice none 0 0), 1, 24) by kernel_rfl)
  exact ⟨Tryz.underlying45, ⟨i, _, hi, h0, h1, h2, rfl⟩, by decide, by decide⟩
def bgC (bg : List Nat) : List Value := bg.map fun (x : Nat) => .int .i64 (x : Int)
theorem bgC_len (bg : List Nat) : (bgC bg).length = bg.length := by simp [bgC]
/-- Results that are begun, as a row that can be read. -/
theorem beg_nts {w : World} {Q n : Nat} {bg : List Nat} (h : w.ownsRow Q 3 1 (.slice (some ⟨Q, 0, none⟩) bg.length n) bg.length (bgC bg)) : Nts w (fun y => y = Q) (.slice (some ⟨Q, 0, none⟩) bg.length n) bg := by
  by_cases h0 : bg = []
  · subst h0
    exact .inl ⟨rfl, _, _, rfl⟩
  · refine .inr ⟨Q, 0, n, rfl, h0, ?_, rfl, fun j hj => ?_⟩
    · rcases h.2 with ⟨h', _⟩ | ⟨g', cap', cur, h', _, _, hnc, _⟩
      · simp at h'
      · simp only [Value.slice.injEq, Option.some.injEq, Addr.mk.injEq, and_true, true_and] at h'
        rw [h'.2]
        exact hnc
    · rw [Nat.zero_add, h.cellAt j (by omega)]
      simp [bgC, hj]
/-- The first ones of a row are a row. -/
theorem beg_less {w : World} {Q n : Nat} {bg : List Nat} {v : Nat} (h : w.ownsRow Q 3 1 (.slice (some ⟨Q, 0, none⟩) (bg ++ [v]).length n) (bg ++ [v]).length (bgC (bg ++ [v]))) : w.ownsRow Q 3 1 (.slice (some ⟨Q, 0, none⟩) bg.length n) bg.length (bgC bg) := by
  refine ⟨by rw [bgC_len]; omega, ?_⟩
  rcases h.2 with ⟨h', _⟩ | ⟨g', cap', cur, h', h1, h2, h3, h4, h5, h6⟩
  · simp at h'
  · simp only [Value.slice.injEq, Option.some.injEq, Addr.mk.injEq, and_true, true_and] at h'
    obtain ⟨rfl, rfl⟩ := h'
    rw [List.length_append, List.length_singleton] at h3 h6
    refine .inr ⟨Q, n, cur, rfl, h1, h2, by omega, h4, h5, ?_⟩
    have := congrArg (List.take bg.length) h6
    rw [List.take_take, Nat.min_eq_left (by omega)] at this
    rw [Nat.mul_one, this]
    simp [bgC]
structure FdW (P Q B pf pt : Nat) (fa ta bg : List Nat) (b : Value) (rs : List (List Nat)) (w : World) : Prop where
  pq : P < Q
  qb : Q < B
  bw : B ≤ w.heap.size
  blk : w.heap[P]? = some (.cells #[.slice none 0 0, .pointer (some ⟨pf, 0, none⟩), .pointer (some ⟨pt, 0, none⟩), b] 57 (0, 0))
  beg : w.ownsRow Q 3 1 (.slice (some ⟨Q, 0, none⟩) bg.length fa.length) bg.length (bgC bg)
  own : OwnN ERs 25 B (fun _ => False) w b rs
  fr : AbAt w (fun y => y < P) pf fa
  tt : AbAt w (fun y => y < P) pt ta
theorem FdW.bP {P Q B pf pt : Nat} {fa ta bg : List Nat} {b : Value} {rs : List (List Nat)} {w : World} (h : FdW P Q B pf pt fa ta bg b rs w) : b.ownBlock ≠ some P ∧ b.ownBlock ≠ some Q := by
  have h1 := h.pq
  have h2 := h.qb
  exact ⟨fun e => by have := (h.own.lt _ e).1; omega, fun e => by have := (h.own.lt _ e).1; omega⟩
theorem FdW.on {P Q B pf pt : Nat} {fa ta bg : List Nat} {b : Value} {rs : List (List Nat)} {w w' : World} (h : FdW P Q B pf pt fa ta bg b rs w) (hb : Below w.heap.size w w') : FdW P Q B pf pt fa ta bg b rs w' := by
  have h1 := h.pq
  have h2 := h.qb
  have h3 := h.bw
  have hP : Keeps (fun y => y < P) w w' := Keeps.of hb fun y hy => by have : y < P := hy; omega
  exact ⟨h1, h2, Nat.le_trans h3 hb.size, (hb.block P (lt_heap h.blk)).trans h.blk, owns_on h.beg fun y e => hb.block y (h.beg.lt y e).2, h.own.on (fun _ h => h.elim) h3 hb, h.fr.on hP fun _ h => h, h.tt.on hP fun _ h => h⟩
theorem lat_lt {ab : List Nat} (h : Lat ab) : ∀ x ∈ ab, x < 18446744073709551616 := by
  intro x hx
  obtain ⟨i, hi, rfl⟩ := List.getElem_of_mem hx
  have h1 : ab[i] < 2 ^ 40 := Nat.lt_pow_two_of_testBit _ fun j hj => by
    cases hb : ab[i].testBit j with
    | false => rfl
    | true =>
      have h2 := h.small i j (by unfold Le; rw [show ab.getD i 0 = ab[i] by simp [hi]]; exact hb)
      have := h.few
      omega
  exact Nat.lt_of_lt_of_le h1 (by decide)
theorem FdW.fn {P Q B pf pt : Nat} {fa ta bg : List Nat} {b : Value} {rs : List (List Nat)} {w : World} (h : FdW P Q B pf pt fa ta bg b rs w) (hf : Lat fa) (ht : Lat ta) : FnAt w (fun _ => True) P pf pt fa ta :=
  ⟨trivial, heap_cl h.blk rfl, heap_cl h.blk rfl, h.fr.on (Keeps.refl _ _) fun _ _ => trivial, h.tt.on (Keeps.refl _ _) fun _ _ => trivial, Nat.lt_of_le_of_lt hf.few (by decide), Nat.lt_of_le_of_lt ht.few (by decide), lat_lt hf, lat_lt ht⟩
/-- What find does. -/
def FindC (P Q B pf pt : Nat) (fa ta : List Nat) (k : Nat) : Prop := ∀ (bg : List Nat) (b : Value) (rs : List (List Nat)) (w : World), FdW P Q B pf pt fa ta bg b rs w → bg.length + k = fa.length → (∀ v ∈ bg, v < ta.length) → rs.length ≤ 40 →
  Calls Tryz.prog 78 #[.pointer (some ⟨P, 0, none⟩), .slice (some ⟨Q, 0, none⟩) bg.length fa.length] w fun r w' => r = .returned (.bool (decide (rs.length + (allP fa ta k bg).length ≤ 40))) ∧ Hid (Below P w w') ∧ Hid (rs.length + (allP fa ta k bg).length ≤ 40 → ∃ b', FdW P Q B pf pt fa ta bg b' (rs ++ allP fa ta k bg) w')
end Go.Proofs.YtgdflaapgfpdeaaGreatDoor

namespace Go.Proofs.YtgdflaapgfpdeaaGreatDoor
open Go.RowKit

set_option maxHeartbeats 8000000 in
set_option maxRecDepth 10000 in
theorem find_leaf {P Q B pf pt : Nat} {fa ta bg : List Nat} {b : Value} {rs : List (List Nat)} {w : World} (h : FdW P Q B pf pt fa ta bg b rs w) (hl : bg.length = fa.length) (hn : fa.length ≤ 40) (hr : rs.length ≤ 40) :
    Calls Tryz.prog 78 #[.pointer (some ⟨P, 0, none⟩), .slice (some ⟨Q, 0, none⟩) bg.length bg.length] w fun r w' => r = .returned (.bool (decide (rs.length + 1 ≤ 40))) ∧ Hid (Below P w w') ∧ Hid (rs.length + 1 ≤ 40 → ∃ b', FdW P Q B pf pt fa ta bg b' (rs ++ [bg]) w') := by
  have CS := size_any (w := w) (h.fr.on (S' := fun _ => True) (Keeps.refl _ _) fun _ _ => trivial)
  rw [← hl] at CS
  have c1 : w.cell? ⟨P, 1, none⟩ = some (.pointer (some ⟨pf, 0, none⟩)) := heap_cl h.blk rfl
  have H : Hid (FdW P Q B pf pt fa ta bg b rs w.drew) := h.on ((Below.refl _ _).drew)
  have hPlt : P < w.drew.heap.size := lt_heap H.out.blk
  have hQlt : Q < w.drew.heap.size := (H.out.beg.lt Q rfl).2
  have CC : Calls Tryz.prog 85 #[.slice (some ⟨Q, 0, none⟩) bg.length bg.length] w.drew fun r w' => ∃ v, r = .returned v ∧ Below w.drew.heap.size w.drew w' ∧ OwnN ENat 3 w.drew.heap.size (fun _ => False) w' v bg := by
    have h1 := H.out.beg
    rw [← hl] at h1
    exact clone_any (beg_nts h1) (fun y e => by rw [show y = Q from e]; exact hQlt) (by omega)
  have hbP := H.out.bP.1
  have HL : Hid (bg.length = fa.length) := hl
  clear h hl
  go_enter Tryz.func78, Tryz.ntmps78
  go_upto_region 2 with (first | (go_at_call 33; (with_reducible refine Calls.mono CS ?_); rintro e' w2 ⟨rfl, hw2⟩; subst hw2))
  clear CS c1
  have hS0 : (fun w' : World => w'.cell? ⟨P, 3, none⟩ = some b) w2.drew := heap_cl H.out.blk rfl
  refine wp_region_M (S := (fun w' : World => w'.cell? ⟨P, 3, none⟩ = some b)) (L := 11) (n := 12) (by kernel_rfl) rfl (by kernel_rfl) ?_
  refine wpAnyK_go (i := 0) (m' := 1) (some 15) (v := .pointer (some ⟨P, 0, none⟩)) rfl rfl (by kernel_rfl) (by kernel_rfl) (by kernel_rfl) (by kernel_rfl) (by kernel_rfl) (fun _ _ _ h => h) (Or.inl ⟨by rfl, ?_⟩) hS0 ?_
  · intro w' hSw
    go_simp
  simp only [Act.put, List.setIfInBounds_toArray, List.set_cons_zero, List.set_cons_succ]
  refine wpAnyK_go (i := 1) (m' := 3) (some 16) (v := .pointer (some ⟨P, 0, none⟩)) rfl rfl (by kernel_rfl) (by kernel_rfl) (by kernel_rfl) (by kernel_rfl) (by kernel_rfl) (fun _ _ _ h => h) (Or.inl ⟨by rfl, ?_⟩) hS0 ?_
  · intro w' hSw
    go_simp
  simp only [Act.put, List.setIfInBounds_toArray, List.set_cons_zero, List.set_cons_succ]
  refine wpAnyK_go (i := 2) (m' := 7) (some 17) (v := .pointer (some ⟨P, 0, none⟩)) rfl rfl (by kernel_rfl) (by kernel_rfl) (by kernel_rfl) (by kernel_rfl) (by kernel_rfl) (fun _ _ _ h => h) (Or.inl ⟨by rfl, ?_⟩) hS0 ?_
  · intro w' hSw
    go_simp
  simp only [Act.put, List.setIfInBounds_toArray, List.set_cons_zero, List.set_cons_succ]
  refine wpAnyK_go (i := 3) (m' := 15) (some 18) (v := .pointer (some ⟨P, 3, none⟩)) rfl rfl (by kernel_rfl) (by kernel_rfl) (by kernel_rfl) (by kernel_rfl) (by kernel_rfl) (fun _ _ _ h => h) (Or.inl ⟨by rfl, ?_⟩) hS0 ?_
  · intro w' hSw
    go_simp
  simp only [Act.put, List.setIfInBounds_toArray, List.set_cons_zero, List.set_cons_succ]
  refine wpAnyK_go (i := 4) (m' := 31) (some 19) (v := b) rfl rfl (by kernel_rfl) (by kernel_rfl) (by kernel_rfl) (by kernel_rfl) (by kernel_rfl) (fun _ _ _ h => h) (Or.inl ⟨by rfl, ?_⟩) hS0 ?_
  · intro w' hSw
    replace hSw : w'.cell? ⟨P, 3, none⟩ = some b := hSw
    go_simp
  simp only [Act.put, List.setIfInBounds_toArray, List.set_cons_zero, List.set_cons_succ]
  refine wpAnyK_go (i := 5) (m' := 63) (some 20) (v := .slice (some ⟨Q, 0, none⟩) bg.length bg.length) rfl rfl (by kernel_rfl) (by kernel_rfl) (by kernel_rfl) (by kernel_rfl) (by kernel_rfl) (fun _ _ _ h => h) (Or.inl ⟨by rfl, ?_⟩) hS0 ?_
  · intro w' hSw
    go_simp
  simp only [Act.put, List.setIfInBounds_toArray, List.set_cons_zero, List.set_cons_succ]
  refine wpAnyK_only (i := 6) (m' := 127) (by kernel_rfl) rfl (by kernel_rfl) fun K hK => ?_
  go_simp
  (with_reducible refine Calls.mono CC ?_)
  rintro e' w3 ⟨v, rfl, hb3, ho3⟩
  obtain ⟨ad, cap, rfl⟩ := ho3.len
  have hnt : Nts w3 (Nwr (fun _ => False) B w3 b) (.slice ad bg.length cap) bg := (RowE.toNts ho3.rowE).on (Keeps.refl _ _) fun y hy => .inr ⟨Nat.le_trans H.out.bw hy.1, hy.2, fun e => by have := (H.out.own.lt y e).2; have := hy.1; omega⟩
  have hS3 : (fun w' : World => w'.cell? ⟨P, 3, none⟩ = some b) w3 := (hb3.cell (p := ⟨P, 3, none⟩) hPlt).trans hS0
  have hP3 : w3.heap[P]? = some (.cells #[.slice none 0 0, .pointer (some ⟨pf, 0, none⟩), .pointer (some ⟨pt, 0, none⟩), b] 57 (0, 0)) := (hb3.block P hPlt).trans H.out.blk
  go_simp
  refine hK.out _ _ (fun _ => hS3) ?_
  clear hK K CC
  refine wpAnyK_only (i := 7) (m' := 255) (by kernel_rfl) rfl (by kernel_rfl) fun K hK => ?_
  go_simp
  refine hK.out _ _ (fun _ => ((Below.refl _ _).alloc (Nat.le_refl _) _ |>.cell (p := ⟨P, 3, none⟩) (lt_heap hP3)).trans hS3) ?_
  clear hK K
  refine wpAnyK_only (i := 8) (m' := 511) (by kernel_rfl) rfl (by kernel_rfl) fun K hK => ?_
  refine step_append_N1 (E := ERs) (w1 := w2.drew) (w2 := w3) (cs := [.slice ad bg.length cap]) (p := bg) (cap := 1) Tryz.ty45 rfl _ _ rfl rfl H.out.own (fun _ h => h.elim) H.out.bw hb3 w3.heap.size rfl rfl ⟨ad, cap, rfl, hnt⟩ (by omega) ?_
  intro g1 cap1 w4 O4 HK4
  have hblk4 : w4.heap[P]? = some (.cells #[.slice none 0 0, .pointer (some ⟨pf, 0, none⟩), .pointer (some ⟨pt, 0, none⟩), b] 57 (0, 0)) := (HK4.out.2 P (lt_heap hP3) hbP).trans hP3
  obtain ⟨q1, q2⟩ := put_cell (j := 3) (Nat.lt_trans H.out.pq H.out.qb) hP3 O4 HK4.out.2 hbP
  have hS4 : (fun w' : World => w'.cell? ⟨P, 3, none⟩ = some b) w4 := heap_cl hblk4 rfl
  have z1 := heap_frozen (o := 3) hblk4
  refine hK.out _ _ (fun _ => hS4) ?_
  clear hK K
  simp only [Act.put, List.setIfInBounds_toArray]
  refine wpAnyK_only (i := 9) (m' := 1023) (by kernel_rfl) rfl (by kernel_rfl) fun K hK => ?_
  go_simp
  refine hK.out _ _ (fun _ => hS4) ?_
  clear hK K
  refine wpAnyK_only (i := 10) (m' := 2047) (by kernel_rfl) rfl (by kernel_rfl) fun K hK => ?_
  go_simp
  refine hK.out _ _ (fun _ => hS4) ?_
  clear hK K
  refine wpAnyK_only (i := 11) (m' := 4095) (by kernel_rfl) rfl (by kernel_rfl) fun K hK => ?_
  have y1 : w4.cell? ⟨P, 3, none⟩ = some b := hS4
  go_simp
  refine hK.out _ _ (fun h => absurd rfl h) ?_
  clear hK K
  refine wpAnyK_done (by kernel_rfl) ?_ _
  have hpq := H.out.pq
  have hqb := H.out.qb
  have hB4 : Below B w2.drew w4 := HK4.out.1
  have HB : Hid (Below P w2 (w4.setCell ⟨P, 3, none⟩ (.slice (some ⟨g1, 0, none⟩) (rs.length + 1) cap1))) := (Below.trans ((Below.refl _ _).drew) (hB4.mono (by omega))).setCell (show P ≤ (⟨P, 3, none⟩ : Addr).block from Nat.le_refl _) _
  have hk5 : ∀ y, y < w2.drew.heap.size → y ≠ P → b.ownBlock ≠ some y → (w4.setCell ⟨P, 3, none⟩ (.slice (some ⟨g1, 0, none⟩) (rs.length + 1) cap1)).heap[y]? = w2.drew.heap[y]? := fun y h1 h2 h3 => by
    rw [Below.heap_setCell _ _ _ _ (by show y ≠ P; exact h2), HK4.out.2 y (Nat.lt_of_lt_of_le h1 hb3.size) h3, hb3.block y h1]
  have hbQ := H.out.bP.2
  have HF : Hid (FdW P Q B pf pt fa ta bg (.slice (some ⟨g1, 0, none⟩) (rs.length + 1) cap1) (rs ++ [bg]) (w4.setCell ⟨P, 3, none⟩ (.slice (some ⟨g1, 0, none⟩) (rs.length + 1) cap1))) := by
    have hkP : Keeps (fun y => y < P) w2.drew (w4.setCell ⟨P, 3, none⟩ (.slice (some ⟨g1, 0, none⟩) (rs.length + 1) cap1)) := fun y hy => HB.out.block y hy
    exact ⟨hpq, hqb, by rw [World.size_setCell]; exact Nat.le_trans H.out.bw hB4.size, q1, owns_on H.out.beg (fun y e => by
      obtain rfl : Q = y := by injection e
      exact hk5 Q hQlt (by omega) hbQ), q2, H.out.fr.on hkP fun _ h => h, H.out.tt.on hkP fun _ h => h⟩
  have hcell : (w4.setCell ⟨P, 3, none⟩ (.slice (some ⟨g1, 0, none⟩) (rs.length + 1) cap1)).cell? ⟨P, 3, none⟩ = some (.slice (some ⟨g1, 0, none⟩) (rs.length + 1) cap1) := heap_cl q1 rfl
  clear q1 q2 y1 z1 hS4 hblk4 O4 HK4 hS3 hP3 hnt hS0 hb3 ho3 hB4 hk5
  generalize w4.setCell ⟨P, 3, none⟩ (.slice (some ⟨g1, 0, none⟩) (rs.length + 1) cap1) = w5 at *
  by_cases h40 : rs.length + 1 ≤ 40
  · have i1 : ((rs.length + 1 : Nat) : Int) ≤ 40 := by omega
    replace h40 : Hid (rs.length < 40) := h40
    generalize (rs.length + 1 : Nat) = l1 at *
    go_wp2
    go_ret
    exact ⟨by rw [decide_eq_true (show rs.length + 1 ≤ 40 from h40.out)]; rfl, HB.out, fun _ => ⟨_, HF.out⟩⟩
  · have i1 : ¬ ((rs.length + 1 : Nat) : Int) ≤ 40 := by omega
    replace h40 : Hid (¬ rs.length < 40) := h40
    generalize (rs.length + 1 : Nat) = l1 at *
    go_wp2
    go_ret
    exact ⟨by rw [decide_eq_false (show ¬ rs.length ≤ 39 by have := h40.out; omega)]; rfl, HB.out, fun h => absurd h (by have := h40.out; omega)⟩
end Go.Proofs.YtgdflaapgfpdeaaGreatDoor

namespace Go.Proofs.YtgdflaapgfpdeaaGreatDoor
open Go.RowKit

/-- The results whose next one is below i. -/
def partP (fa ta : List Nat) (k : Nat) (bg : List Nat) (i : Nat) : List (List Nat) := (List.range i).flatMap fun v => if (nextP fa ta bg).testBit v then allP fa ta k (bg ++ [v]) else []
theorem part_all (fa ta : List Nat) (k : Nat) (bg : List Nat) : allP fa ta (k + 1) bg = partP fa ta k bg ta.length := rfl
theorem part_succ (fa ta : List Nat) (k : Nat) (bg : List Nat) (i : Nat) : partP fa ta k bg (i + 1) = partP fa ta k bg i ++ if (nextP fa ta bg).testBit i then allP fa ta k (bg ++ [i]) else [] := by
  unfold partP
  rw [List.range_succ, List.flatMap_append]
  simp
theorem part_le (fa ta : List Nat) (k : Nat) (bg : List Nat) (i : Nat) : ∀ d, (partP fa ta k bg i).length ≤ (partP fa ta k bg (i + d)).length
  | 0 => Nat.le_refl _
  | d + 1 => by
    rw [← Nat.add_assoc, part_succ, List.length_append]
    exact Nat.le_trans (part_le fa ta k bg i d) (Nat.le_add_right _ _)
theorem FdW.push {P Q B pf pt : Nat} {fa ta bg : List Nat} {b : Value} {rs : List (List Nat)} {w : World} (h : FdW P Q B pf pt fa ta bg b rs w) (i : Nat) (hr : bg.length < fa.length) :
    ∃ w', (Builtin.append_ #[25, 25] 25 #[.slice (some ⟨Q, 0, none⟩) bg.length fa.length, .slice (some ⟨w.heap.size, 0, none⟩) 1 1]).run Tryz.prog (w.alloc (.cells #[.int .i64 (i : Int)] 3)) = .ok (.slice (some ⟨Q, 0, none⟩) (bg.length + 1) fa.length) w' ∧ FdW P Q B pf pt fa ta (bg ++ [i]) b rs w' ∧ Below P w w' := by
  obtain ⟨ti, z, hi, hz, hk, hby, hzs⟩ := Tryz.ty28.info
  have hpq := h.pq
  have hqb := h.qb
  have hbw := h.bw
  have hBa : Below w.heap.size w (w.alloc (.cells #[.int .i64 (i : Int)] 3)) := (Below.refl _ _).alloc (Nat.le_refl _) _
  have ha := h.on hBa
  obtain ⟨w', h1, h2, h3⟩ := run_append_fits (P := Tryz.prog) (w.alloc (.cells #[.int .i64 (i : Int)] 3)) Q 25 25 3 ti 1 Tryz.underlying25 hi hk Q bg.length fa.length (bgC bg) ha.beg ⟨w.heap.size, 0, none⟩ 1 1 [.int .i64 (i : Int)] rfl (World.news_of_block (new_blk _ _)) (fun u hu => by rw [List.mem_singleton.1 hu]; rfl) hr
  refine ⟨w', h1, ?_, ?_⟩
  · have hs : (w.alloc (.cells #[.int .i64 (i : Int)] 3)).heap.size ≤ w'.heap.size := h3.size
    have hne : ∀ y, y < (w.alloc (.cells #[.int .i64 (i : Int)] 3)).heap.size → y ≠ Q → w'.heap[y]? = (w.alloc (.cells #[.int .i64 (i : Int)] 3)).heap[y]? := fun y hy hn => h3.block y hy fun e => hn (by injection e)
    have hkP : Keeps (fun y => y < P) (w.alloc (.cells #[.int .i64 (i : Int)] 3)) w' := fun y hy => hne y (by have : y < P := hy; have := ha.bw; omega) (by have : y < P := hy; omega)
    have hla := lt_heap ha.blk
    have hO := ha.own
    have hO1 : Own ERs 25 B w' (Nwr (fun _ => False) B (w.alloc (.cells #[.int .i64 (i : Int)] 3)) b) b rs := Own.on hO (fun y hy => by
      rcases hy with hy | hy
      · exact hy.elim
      · exact hne y hy.2.1 (by have := hy.1; omega)) fun g e => hne g (hO.lt g e).2 (by have := (hO.lt g e).1; omega)
    refine ⟨hpq, hqb, Nat.le_trans ha.bw hs, (hne P hla (by omega)).trans ha.blk, ?_, Own.up hO1 (fun y hy => hy.imp id fun q => ⟨q.1, Nat.lt_of_lt_of_le q.2.1 hs, q.2.2⟩) (fun y hy e => ?_), ha.fr.on hkP fun _ h => h, ha.tt.on hkP fun _ h => h⟩
    · rw [List.length_append, List.length_singleton, show bgC (bg ++ [i]) = bgC bg ++ [.int .i64 (i : Int)] by simp [bgC]]
      exact h2
    · rcases hy with hy | hy
      · exact hy
      · exact hy.2.2 e
  · exact (hBa.mono (by omega)).grown h3 (by have := ha.bw; omega) fun k e => by
      have : Q = k := by injection e
      omega
theorem FdW.less {P Q B pf pt : Nat} {fa ta bg : List Nat} {v : Nat} {b : Value} {rs : List (List Nat)} {w : World} (h : FdW P Q B pf pt fa ta (bg ++ [v]) b rs w) : FdW P Q B pf pt fa ta bg b rs w := ⟨h.pq, h.qb, h.bw, h.blk, beg_less h.beg, h.own, h.fr, h.tt⟩
theorem wpList_append_wanted {P : Program} {w : World} {ops : Array Oper} {rest : List Oper} {o : Oper} {a : Act} {Q : Exit → Act → World → Prop} (hw : Region.wanted o (yielded ops a.tmps) = true) (s x : Operand) (t tn : TypeId)
    (ho : o.op = .call { callee := .builtin .append, args := #[s, x], argTypes := #[t, tn] }) (vs vx : Value) (hs : a.eval s = vs) (hx : a.eval x = vx)
    (v' : Value) (w' : World) (hr : (Builtin.append_ #[t, tn] o.type #[vs, vx]).run P w = .ok v' w') (h : wpList P ops Q rest (a.put o.dst v') w') : wpList P ops Q (o :: rest) a w :=
  wpList_step fun K hK => by
    rw [if_pos hw]
    exact Lib.wp_append_run w s x t tn ho vs vx hs hx v' w' hr (hK _ _ h)
set_option maxHeartbeats 8000000 in
set_option maxRecDepth 10000 in
theorem find_step {P Q B pf pt : Nat} {fa ta : List Nat} (hf : Lat fa) (ht : Lat ta) (k : Nat) (ih : FindC P Q B pf pt fa ta k) : FindC P Q B pf pt fa ta (k + 1) := by
  intro bg b rs w h hk hv hr
  have hlt : bg.length < fa.length := by omega
  have hfl : fa.length ≤ 40 := hf.few
  have htl : ta.length ≤ 40 := ht.few
  have CS := size_any (w := w) (h.fr.on (S' := fun _ => True) (Keeps.refl _ _) fun _ _ => trivial)
  have CT := size_any (w := w) (h.tt.on (S' := fun _ => True) (Keeps.refl _ _) fun _ _ => trivial)
  have CN := next_any (h.fn hf ht) ((beg_nts h.beg).on (S' := fun _ => True) (Keeps.refl _ _) fun _ _ => trivial) hlt hv
  have c1 : w.cell? ⟨P, 1, none⟩ = some (.pointer (some ⟨pf, 0, none⟩)) := heap_cl h.blk rfl
  have c2 : w.cell? ⟨P, 2, none⟩ = some (.pointer (some ⟨pt, 0, none⟩)) := heap_cl h.blk rfl
  have hne : ((bg.length : Int) == (fa.length : Int)) = false := by simp; omega
  have H : Hid (FdW P Q B pf pt fa ta bg b rs w) := h
  have HNL : Hid (nextP fa ta bg < 18446744073709551616) := nextQ_lt fa ta bg (by omega) _
  have HALL : Hid (∀ i, allP fa ta (k + 1) bg = partP fa ta k bg ta.length ∧ (i ≤ ta.length → (partP fa ta k bg i).length ≤ (allP fa ta (k + 1) bg).length)) := fun i => ⟨rfl, fun hi => by
    have := part_le fa ta k bg i (ta.length - i)
    rwa [Nat.add_sub_cancel' hi] at this⟩
  have HSUC : Hid (∀ i, partP fa ta k bg (i + 1) = partP fa ta k bg i ++ if (nextP fa ta bg).testBit i then allP fa ta k (bg ++ [i]) else []) := part_succ fa ta k bg
  have HP0 : Hid (partP fa ta k bg 0 = []) := rfl
  have HIH : Hid (∀ (i : Nat) (b : Value) (rs2 : List (List Nat)) (w : World), i < ta.length → FdW P Q B pf pt fa ta (bg ++ [i]) b rs2 w → rs2.length ≤ 40 → Calls Tryz.prog 78 #[.pointer (some ⟨P, 0, none⟩), .slice (some ⟨Q, 0, none⟩) (bg.length + 1) fa.length] w fun r w' => r = .returned (.bool (decide (rs2.length + (allP fa ta k (bg ++ [i])).length ≤ 40))) ∧ Hid (Below P w w') ∧ Hid (rs2.length + (allP fa ta k (bg ++ [i])).length ≤ 40 → ∃ b', FdW P Q B pf pt fa ta bg b' (rs2 ++ allP fa ta k (bg ++ [i])) w')) := fun i b2 rs2 w2 hi h2 hr2 => by
    have := ih (bg ++ [i]) b2 rs2 w2 h2 (by simp; omega) (fun v hm => by
      rcases List.mem_append.1 hm with hm | hm
      · exact hv v hm
      · rw [List.mem_singleton.1 hm]; exact hi) hr2
    rw [show (bg ++ [i]).length = bg.length + 1 by simp] at this
    exact this.mono fun r w' ⟨q1, q2, q3⟩ => ⟨q1, q2, fun hq => by
      obtain ⟨b', hb'⟩ := q3.out hq
      exact ⟨b', hb'.less⟩⟩
  have HR : Hid (rs.length ≤ 40) := hr
  have HLT : Hid (bg.length < fa.length) := hlt
  clear h hk hv hf ht ih hr hlt
  generalize partP fa ta k bg = part at *
  generalize allP fa ta (k + 1) bg = all at *
  generalize nextP fa ta bg = mx at *
  go_enter Tryz.func78, Tryz.ntmps78
  go_upto_region 6 with (first
    | (go_at_call 86; (with_reducible refine Calls.mono CN ?_); rintro e' w2 ⟨rfl, hw2⟩; subst hw2)
    | (go_at_call 33; (with_reducible refine Calls.mono CS ?_); rintro e' w3 ⟨rfl, hw3⟩; subst hw3)
    | (go_at_call 33; (with_reducible refine Calls.mono CT ?_); rintro e' w4 ⟨rfl, hw4⟩; subst hw4))
  clear CS CT CN c1 c2 hne
  go_loopw [40] (fun iv wr => ∃ (i : Nat) (b2 : Value), i ≤ ta.length ∧ iv = .int .i64 i ∧ Hid (Below P w4 wr) ∧ Hid (FdW P Q B pf pt fa ta bg b2 (rs ++ part i) wr) ∧ Hid (rs.length + (part i).length ≤ 40)) (fun iv _ => ta.length - (intOf iv).toNat)
  case atStart => exact ⟨0, b, by omega, by go_num, Below.refl _ _, by rw [HP0.out, List.append_nil]; exact H.out, by rw [HP0.out]; exact HR.out⟩
  case round =>
    clear H
    obtain ⟨i, b2, hi, rfl, HB, HF, HL⟩ := hrel
    by_cases hil : i < ta.length
    · have CB := has_any (w := wr) mx i HNL.out (by omega)
      have i1 : (0 : Int) ≤ (i : Int) := by omega
      have i2 : (i : Int) < (ta.length : Int) := by omega
      cases hb : mx.testBit i with
      | true =>
        rw [hb] at CB
        have HS2 : Hid (part (i + 1) = part i ++ allP fa ta k (bg ++ [i])) := by
          have := HSUC.out i
          rw [hb, if_pos rfl] at this
          exact this
        clear hb
        obtain ⟨w5, hap, hF5, hB5⟩ := HF.out.push i HLT.out
        have CI := HIH.out i b2 _ w5 hil hF5 (by rw [List.length_append]; exact HL.out)
        rw [List.length_append] at CI
        have HB5 : Hid (Below P w4 w5) := HB.out.trans hB5
        clear hF5 hB5
        by_cases h40 : rs.length + (part i).length + (allP fa ta k (bg ++ [i])).length ≤ 40
        · rw [decide_eq_true h40] at CI
          replace h40 : Hid (rs.length + (part i).length + (allP fa ta k (bg ++ [i])).length ≤ 40) := h40
          go_wp2_with (first | (go_at_call 47; (with_reducible refine Calls.mono CB ?_); rintro e' w3 ⟨rfl, hw3⟩; subst hw3) | (go_at_call 78; (with_reducible refine Calls.mono CI ?_); rintro e' w6 ⟨rfl, hB6, hF6⟩) | (at_builtin; refine wpList_append_wanted (by rfl) _ _ _ _ rfl _ _ rfl rfl _ _ hap ?_))
          have HF6 : Hid (∃ b', FdW P Q B pf pt fa ta bg b' (rs ++ part (i + 1)) w6) := by
            obtain ⟨b', h⟩ := hF6.out h40.out
            rw [List.append_assoc, ← HS2.out] at h
            exact ⟨b', h⟩
          have HL6 : Hid (rs.length + (part (i + 1)).length ≤ 40) := by
            show _ ≤ _
            rw [HS2.out, List.length_append]
            have := h40.out
            omega
          obtain ⟨b3, HF7⟩ := HF6.out
          replace HF7 : Hid _ := HF7
          go_roundw
          case rel => exact ⟨i + 1, b3, hil, by go_num, HB5.out.trans hB6.out, HF7.out, HL6.out⟩
          case measure => simp [intOf]; omega
        · rw [decide_eq_false h40] at CI
          have HNO : Hid (¬ rs.length + all.length ≤ 40) := fun hq => h40 (by
            have h1 := (HALL.out (i + 1)).2 hil
            rw [HS2.out, List.length_append] at h1
            omega)
          clear h40
          go_wp2_with (first | (go_at_call 47; (with_reducible refine Calls.mono CB ?_); rintro e' w3 ⟨rfl, hw3⟩; subst hw3) | (go_at_call 78; (with_reducible refine Calls.mono CI ?_); rintro e' w6 ⟨rfl, hB6, hF6⟩) | (at_builtin; refine wpList_append_wanted (by rfl) _ _ _ _ rfl _ _ rfl rfl _ _ hap ?_))
          go_ret
          exact ⟨by rw [decide_eq_false HNO.out]; rfl, HB5.out.trans hB6.out, fun hq => absurd hq HNO.out⟩
      | false =>
        rw [hb] at CB
        have HS2 : Hid (part (i + 1) = part i) := by
          have := HSUC.out i
          rw [hb, if_neg (by decide), List.append_nil] at this
          exact this
        clear hb
        go_wp2_with (first | (go_at_call 47; (with_reducible refine Calls.mono CB ?_); rintro e' w3 ⟨rfl, hw3⟩; subst hw3))
        go_roundw
        case rel => exact ⟨i + 1, b2, hil, by go_num, HB.out, by rw [HS2.out]; exact HF.out, by rw [HS2.out]; exact HL.out⟩
        case measure => simp [intOf]; omega
    · obtain rfl : i = ta.length := by omega
      have HA : Hid (all = part ta.length) := (HALL.out 0).1
      go_wp2
      go_ret
      exact ⟨by rw [decide_eq_true (show rs.length + all.length ≤ 40 by rw [HA.out]; exact HL.out)]; rfl, HB.out, fun _ => ⟨b2, by rw [HA.out]; exact HF.out⟩⟩
theorem find_any {P Q B pf pt : Nat} {fa ta : List Nat} (hf : Lat fa) (ht : Lat ta) : ∀ k, FindC P Q B pf pt fa ta k
  | 0 => fun bg b rs w h hk _ hr => by
    have := find_leaf h (by omega) hf.few hr
    rw [show allP fa ta 0 bg = [bg] from rfl, ← show bg.length = fa.length by omega]
    exact this
  | k + 1 => find_step hf ht k (find_any hf ht k)
end Go.Proofs.YtgdflaapgfpdeaaGreatDoor

namespace Go.Proofs.YtgdflaapgfpdeaaGreatDoor
open Go.RowKit

/-- A row of results, one of them. -/
theorem ers_at {w : World} {Z S : Nat → Prop} {v : Value} {rs : List (List Nat)} (h : RowE ERs w Z S v rs) (h0 : rs ≠ []) : ∃ g o cap, v = .slice (some ⟨g, o, none⟩) rs.length cap ∧ rs.length ≤ cap ∧ ∀ j (hj : j < rs.length), Z g ∧ ∃ ad c, w.cell? ⟨g, o + j, none⟩ = some (.slice ad rs[j].length c) ∧ Nts w S (.slice ad rs[j].length c) rs[j] := by
  rcases h with ⟨h, _⟩ | ⟨g, o, cap, rfl, _, hc, h⟩
  · exact absurd h h0
  · refine ⟨g, o, cap, rfl, hc, fun j hj => ?_⟩
    obtain ⟨hz, cs, ⟨ad, c, rfl, h2⟩, h3⟩ := h j hj
    have := h3 0 (by decide)
    refine ⟨hz, ad, c, ?_, h2⟩
    simpa [ERs] using this
theorem shl_bit (i : Nat) (hi : i < 64) : IntKind.u64.wrap (2 ^ min i 64) = ((2 ^ i : Nat) : Int) := by
  have h1 := two_pow_lt hi
  have e : ((2 : Int) ^ min i 64) = ((2 ^ i : Nat) : Int) := by
    rw [Nat.min_eq_left (by omega)]
    simp
  rw [e, IntKind.wrap_u64]
  generalize 2 ^ i = q at *
  omega
set_option maxHeartbeats 8000000 in
set_option maxRecDepth 10000 in
theorem greater_any {w : World} {P pf pt : Nat} {a v : Value} {ta : List Nat} {rs : List (List Nat)} {n f : Nat} (hblk : w.heap[P]? = some (.cells #[a, .pointer (some ⟨pf, 0, none⟩), .pointer (some ⟨pt, 0, none⟩), v] 57 (0, 0))) (hrow : RowE ERs w (fun y => y < w.heap.size) (fun y => y < w.heap.size) v rs) (ht : AbAt w (fun y => y < w.heap.size) pt ta) (hl : Lat ta) (hn : n ≤ 1000) (hrs : ∀ r ∈ rs, r.length = n ∧ ∀ x ∈ r, x < ta.length) (h40 : rs.length ≤ 40) (hf : f < rs.length) :
    Calls Tryz.prog 79 #[.pointer (some ⟨P, 0, none⟩), .int .i64 f] w fun r w' => r = .returned (.int .u64 ((greatQ ta rs f rs.length : Nat) : Int)) ∧ Hid (Below w.heap.size w w') := by
  obtain ⟨g, o, cap, rfl, hcap, hel⟩ := ers_at hrow (fun e => by rw [e] at hf; simp at hf)
  have hPl := lt_heap hblk
  have HSA : Hid (∀ wr : World, Below w.heap.size w wr → wr.cell? ⟨P, 3, none⟩ = some (.slice (some ⟨g, o, none⟩) rs.length cap) ∧ wr.cell? ⟨P, 2, none⟩ = some (.pointer (some ⟨pt, 0, none⟩)) ∧ ∀ i (hi : i < rs.length), ∃ af lf cf ag lg cg, wr.cell? ⟨g, o + f, none⟩ = some (.slice af lf cf) ∧ wr.cell? ⟨g, o + i, none⟩ = some (.slice ag lg cg) ∧ Calls Tryz.prog 87 #[.slice af lf cf, .slice ag lg cg, .func (.func 37) #[.pointer (some ⟨pt, 0, none⟩)] #[]] wr fun r w' => r = .returned (.bool (underP ta (rs.getD f []) (rs.getD i []))) ∧ w' = wr) := fun wr hb => by
    have hk : Keeps (fun y => y < w.heap.size) w wr := Keeps.of hb fun _ h => h
    refine ⟨(hb.cell (p := ⟨P, 3, none⟩) hPl).trans (heap_cl hblk rfl), (hb.cell (p := ⟨P, 2, none⟩) hPl).trans (heap_cl hblk rfl), fun i hi => ?_⟩
    obtain ⟨z1, af, cf, a1, a2⟩ := hel f hf
    obtain ⟨_, ag, cg, b1, b2⟩ := hel i hi
    refine ⟨af, _, cf, ag, _, cg, (hb.cell (p := ⟨g, o + f, none⟩) z1).trans a1, (hb.cell (p := ⟨g, o + i, none⟩) z1).trans b1, ?_⟩
    have r1 := hrs _ (List.getElem_mem hf)
    have r2 := hrs _ (List.getElem_mem hi)
    have hfew := hl.few
    have := equal_any (ht.on hk fun _ h => h) (a2.on hk fun _ h => h) (b2.on hk fun _ h => h) (by rw [r1.1, r2.1]) (by rw [r1.1]; exact hn) r1.2 (fun x hx => by have := r2.2 x hx; omega) (lat_lt hl)
    rwa [show rs.getD f [] = rs[f] by simp [hf], show rs.getD i [] = rs[i] by simp [hi]]
  have HQ : Hid (∀ k, greatQ ta rs f (k + 1) = if f ≤ k && underP ta (rs.getD f []) (rs.getD k []) then greatQ ta rs f k ||| 2 ^ k else greatQ ta rs f k) := fun k => rfl
  have HQL : Hid (∀ k, k ≤ 40 → greatQ ta rs f k < 18446744073709551616) := fun k hk => Nat.lt_of_lt_of_le (great_lt ta rs f k) (Nat.le_trans (Nat.pow_le_pow_right (by decide) hk) (by decide))
  have HQ0 : Hid (greatQ ta rs f 0 = 0) := rfl
  have c3 := (HSA.out w (Below.refl _ _)).1
  have j0 : (0 : Int) ≤ (f : Int) := by omega
  have j1 : (f : Int) < (rs.length : Int) := by omega
  clear hblk hrow ht hl hrs hel hn
  generalize greatQ ta rs f = G at *
  go_enter Tryz.func79, Tryz.ntmps79
  go_upto_region 3 with fail
  clear c3
  go_loopw [5, 12] (fun mv iv wr => ∃ i : Nat, i ≤ rs.length ∧ iv = .int .i64 i ∧ mv = .int .u64 ((G i : Nat) : Int) ∧ Hid (Below w.heap.size w wr)) (fun _ iv _ => rs.length - (intOf iv).toNat)
  case atStart => exact ⟨0, by omega, by go_num, by rw [HQ0.out]; rfl, Below.refl _ _⟩
  case round =>
    obtain ⟨i, hi, rfl, rfl, HB⟩ := hrel
    by_cases hil : i < rs.length
    · have i1 : (0 : Int) ≤ (i : Int) := by omega
      have i2 : (i : Int) < (rs.length : Int) := by omega
      replace HB : Hid (Below w.heap.size w wr.drew) := HB.out.drew
      obtain ⟨t1, t2, t3⟩ := HSA.out wr.drew HB.out
      obtain ⟨af, lf, cf, ag, lg, cg, t4, t5, CE⟩ := t3 i hil
      have hS0 : (fun w' : World => w'.cell? ⟨P, 3, none⟩ = some (.slice (some ⟨g, o, none⟩) rs.length cap) ∧ w'.cell? ⟨g, o + f, none⟩ = some (.slice af lf cf) ∧ w'.cell? ⟨g, o + i, none⟩ = some (.slice ag lg cg) ∧ w'.cell? ⟨P, 2, none⟩ = some (.pointer (some ⟨pt, 0, none⟩))) wr.drew := ⟨t1, t4, t5, t2⟩
      have HQi := HQ.out i
      have HGi : Hid (G i < 18446744073709551616) := HQL.out i (by omega)
      have hi64 : i < 64 := by omega
      clear t1 t2 t3 t4 t5
      go_upto_region 5 with fail
      by_cases hfi : f ≤ i
      · have k1 : (f : Int) ≤ (i : Int) := by omega
        rw [decide_eq_true hfi, Bool.true_and] at HQi
        generalize underP ta (rs.getD f []) (rs.getD i []) = ub at *
        refine wp_region_M (S := (fun w' : World => w'.cell? ⟨P, 3, none⟩ = some (.slice (some ⟨g, o, none⟩) rs.length cap) ∧ w'.cell? ⟨g, o + f, none⟩ = some (.slice af lf cf) ∧ w'.cell? ⟨g, o + i, none⟩ = some (.slice ag lg cg) ∧ w'.cell? ⟨P, 2, none⟩ = some (.pointer (some ⟨pt, 0, none⟩)))) (L := 25) (n := 25) (by kernel_rfl) rfl (by kernel_rfl) ?_
        refine wpAnyK_go (i := 0) (m' := 1) (some 15) (v := .int .i64 f) rfl rfl (by kernel_rfl) (by kernel_rfl) (by kernel_rfl) (by kernel_rfl) (by kernel_rfl) (fun _ _ _ h => h) (Or.inl ⟨by rfl, ?_⟩) hS0 ?_
        · intro w' hSw
          go_simp
        simp only [Act.put, List.setIfInBounds_toArray, List.set_cons_zero, List.set_cons_succ]
        refine wpAnyK_go (i := 1) (m' := 3) (some 16) (v := .int .i64 i) rfl rfl (by kernel_rfl) (by kernel_rfl) (by kernel_rfl) (by kernel_rfl) (by kernel_rfl) (fun _ _ _ h => h) (Or.inl ⟨by rfl, ?_⟩) hS0 ?_
        · intro w' hSw
          go_simp
        simp only [Act.put, List.setIfInBounds_toArray, List.set_cons_zero, List.set_cons_succ]
        refine wpAnyK_go (i := 2) (m' := 7) (some 17) (v := .bool true) rfl rfl (by kernel_rfl) (by kernel_rfl) (by kernel_rfl) (by kernel_rfl) (by kernel_rfl) (fun _ _ _ h => h) (Or.inl ⟨by rfl, ?_⟩) hS0 ?_
        · intro w' hSw
          go_simp
        simp only [Act.put, List.setIfInBounds_toArray, List.set_cons_zero, List.set_cons_succ]
        refine wpAnyK_go (i := 3) (m' := 15) (some 18) (v := .bool true) rfl rfl (by kernel_rfl) (by kernel_rfl) (by kernel_rfl) (by kernel_rfl) (by kernel_rfl) (fun _ _ _ h => h) (Or.inl ⟨by rfl, ?_⟩) hS0 ?_
        · intro w' hSw
          go_simp
        simp only [Act.put, List.setIfInBounds_toArray, List.set_cons_zero, List.set_cons_succ]
        refine wpAnyK_go (i := 4) (m' := 31) (some 19) (v := .pointer (some ⟨P, 0, none⟩)) rfl rfl (by kernel_rfl) (by kernel_rfl) (by kernel_rfl) (by kernel_rfl) (by kernel_rfl) (fun _ _ _ h => h) (Or.inl ⟨by rfl, ?_⟩) hS0 ?_
        · intro w' hSw
          go_simp
        simp only [Act.put, List.setIfInBounds_toArray, List.set_cons_zero, List.set_cons_succ]
        refine wpAnyK_go (i := 5) (m' := 63) (some 20) (v := .pointer (some ⟨P, 0, none⟩)) rfl rfl (by kernel_rfl) (by kernel_rfl) (by kernel_rfl) (by kernel_rfl) (by kernel_rfl) (fun _ _ _ h => h) (Or.inl ⟨by rfl, ?_⟩) hS0 ?_
        · intro w' hSw
          go_simp
        simp only [Act.put, List.setIfInBounds_toArray, List.set_cons_zero, List.set_cons_succ]
        refine wpAnyK_go (i := 6) (m' := 127) (some 21) (v := .pointer (some ⟨P, 3, none⟩)) rfl rfl (by kernel_rfl) (by kernel_rfl) (by kernel_rfl) (by kernel_rfl) (by kernel_rfl) (fun _ _ _ h => h) (Or.inl ⟨by rfl, ?_⟩) hS0 ?_
        · intro w' hSw
          go_simp
        simp only [Act.put, List.setIfInBounds_toArray, List.set_cons_zero, List.set_cons_succ]
        refine wpAnyK_go (i := 7) (m' := 255) (some 22) (v := .slice (some ⟨g, o, none⟩) rs.length cap) rfl rfl (by kernel_rfl) (by kernel_rfl) (by kernel_rfl) (by kernel_rfl) (by kernel_rfl) (fun _ _ _ h => h) (Or.inl ⟨by rfl, ?_⟩) hS0 ?_
        · intro w' hSw
          obtain ⟨s1, s2, s3, s4⟩ := hSw
          go_simp
        simp only [Act.put, List.setIfInBounds_toArray, List.set_cons_zero, List.set_cons_succ]
        refine wpAnyK_go (i := 8) (m' := 511) (some 23) (v := .int .i64 f) rfl rfl (by kernel_rfl) (by kernel_rfl) (by kernel_rfl) (by kernel_rfl) (by kernel_rfl) (fun _ _ _ h => h) (Or.inl ⟨by rfl, ?_⟩) hS0 ?_
        · intro w' hSw
          go_simp
        simp only [Act.put, List.setIfInBounds_toArray, List.set_cons_zero, List.set_cons_succ]
        refine wpAnyK_go (i := 9) (m' := 1023) (some 24) (v := .pointer (some ⟨g, o + f, none⟩)) rfl rfl (by kernel_rfl) (by kernel_rfl) (by kernel_rfl) (by kernel_rfl) (by kernel_rfl) (fun _ _ _ h => h) (Or.inl ⟨by rfl, ?_⟩) hS0 ?_
        · intro w' hSw
          go_simp
        simp only [Act.put, List.setIfInBounds_toArray, List.set_cons_zero, List.set_cons_succ]
        refine wpAnyK_go (i := 10) (m' := 2047) (some 25) (v := .slice af lf cf) rfl rfl (by kernel_rfl) (by kernel_rfl) (by kernel_rfl) (by kernel_rfl) (by kernel_rfl) (fun _ _ _ h => h) (Or.inl ⟨by rfl, ?_⟩) hS0 ?_
        · intro w' hSw
          obtain ⟨s1, s2, s3, s4⟩ := hSw
          go_simp
        simp only [Act.put, List.setIfInBounds_toArray, List.set_cons_zero, List.set_cons_succ]
        refine wpAnyK_go (i := 11) (m' := 4095) (some 26) (v := .pointer (some ⟨P, 0, none⟩)) rfl rfl (by kernel_rfl) (by kernel_rfl) (by kernel_rfl) (by kernel_rfl) (by kernel_rfl) (fun _ _ _ h => h) (Or.inl ⟨by rfl, ?_⟩) hS0 ?_
        · intro w' hSw
          go_simp
        simp only [Act.put, List.setIfInBounds_toArray, List.set_cons_zero, List.set_cons_succ]
        refine wpAnyK_go (i := 12) (m' := 8191) (some 27) (v := .pointer (some ⟨P, 0, none⟩)) rfl rfl (by kernel_rfl) (by kernel_rfl) (by kernel_rfl) (by kernel_rfl) (by kernel_rfl) (fun _ _ _ h => h) (Or.inl ⟨by rfl, ?_⟩) hS0 ?_
        · intro w' hSw
          go_simp
        simp only [Act.put, List.setIfInBounds_toArray, List.set_cons_zero, List.set_cons_succ]
        refine wpAnyK_go (i := 13) (m' := 16383) (some 28) (v := .pointer (some ⟨P, 3, none⟩)) rfl rfl (by kernel_rfl) (by kernel_rfl) (by kernel_rfl) (by kernel_rfl) (by kernel_rfl) (fun _ _ _ h => h) (Or.inl ⟨by rfl, ?_⟩) hS0 ?_
        · intro w' hSw
          go_simp
        simp only [Act.put, List.setIfInBounds_toArray, List.set_cons_zero, List.set_cons_succ]
        refine wpAnyK_go (i := 14) (m' := 32767) (some 29) (v := .slice (some ⟨g, o, none⟩) rs.length cap) rfl rfl (by kernel_rfl) (by kernel_rfl) (by kernel_rfl) (by kernel_rfl) (by kernel_rfl) (fun _ _ _ h => h) (Or.inl ⟨by rfl, ?_⟩) hS0 ?_
        · intro w' hSw
          obtain ⟨s1, s2, s3, s4⟩ := hSw
          go_simp
        simp only [Act.put, List.setIfInBounds_toArray, List.set_cons_zero, List.set_cons_succ]
        refine wpAnyK_go (i := 15) (m' := 65535) (some 30) (v := .int .i64 i) rfl rfl (by kernel_rfl) (by kernel_rfl) (by kernel_rfl) (by kernel_rfl) (by kernel_rfl) (fun _ _ _ h => h) (Or.inl ⟨by rfl, ?_⟩) hS0 ?_
        · intro w' hSw
          go_simp
        simp only [Act.put, List.setIfInBounds_toArray, List.set_cons_zero, List.set_cons_succ]
        refine wpAnyK_go (i := 16) (m' := 131071) (some 31) (v := .pointer (some ⟨g, o + i, none⟩)) rfl rfl (by kernel_rfl) (by kernel_rfl) (by kernel_rfl) (by kernel_rfl) (by kernel_rfl) (fun _ _ _ h => h) (Or.inl ⟨by rfl, ?_⟩) hS0 ?_
        · intro w' hSw
          go_simp
        simp only [Act.put, List.setIfInBounds_toArray, List.set_cons_zero, List.set_cons_succ]
        refine wpAnyK_go (i := 17) (m' := 262143) (some 32) (v := .slice ag lg cg) rfl rfl (by kernel_rfl) (by kernel_rfl) (by kernel_rfl) (by kernel_rfl) (by kernel_rfl) (fun _ _ _ h => h) (Or.inl ⟨by rfl, ?_⟩) hS0 ?_
        · intro w' hSw
          obtain ⟨s1, s2, s3, s4⟩ := hSw
          go_simp
        simp only [Act.put, List.setIfInBounds_toArray, List.set_cons_zero, List.set_cons_succ]
        refine wpAnyK_go (i := 18) (m' := 524287) (some 33) (v := .pointer (some ⟨P, 0, none⟩)) rfl rfl (by kernel_rfl) (by kernel_rfl) (by kernel_rfl) (by kernel_rfl) (by kernel_rfl) (fun _ _ _ h => h) (Or.inl ⟨by rfl, ?_⟩) hS0 ?_
        · intro w' hSw
          go_simp
        simp only [Act.put, List.setIfInBounds_toArray, List.set_cons_zero, List.set_cons_succ]
        refine wpAnyK_go (i := 19) (m' := 1048575) (some 34) (v := .pointer (some ⟨P, 0, none⟩)) rfl rfl (by kernel_rfl) (by kernel_rfl) (by kernel_rfl) (by kernel_rfl) (by kernel_rfl) (fun _ _ _ h => h) (Or.inl ⟨by rfl, ?_⟩) hS0 ?_
        · intro w' hSw
          go_simp
        simp only [Act.put, List.setIfInBounds_toArray, List.set_cons_zero, List.set_cons_succ]
        refine wpAnyK_go (i := 20) (m' := 2097151) (some 35) (v := .pointer (some ⟨P, 2, none⟩)) rfl rfl (by kernel_rfl) (by kernel_rfl) (by kernel_rfl) (by kernel_rfl) (by kernel_rfl) (fun _ _ _ h => h) (Or.inl ⟨by rfl, ?_⟩) hS0 ?_
        · intro w' hSw
          go_simp
        simp only [Act.put, List.setIfInBounds_toArray, List.set_cons_zero, List.set_cons_succ]
        refine wpAnyK_go (i := 21) (m' := 4194303) (some 36) (v := .pointer (some ⟨pt, 0, none⟩)) rfl rfl (by kernel_rfl) (by kernel_rfl) (by kernel_rfl) (by kernel_rfl) (by kernel_rfl) (fun _ _ _ h => h) (Or.inl ⟨by rfl, ?_⟩) hS0 ?_
        · intro w' hSw
          obtain ⟨s1, s2, s3, s4⟩ := hSw
          go_simp
        simp only [Act.put, List.setIfInBounds_toArray, List.set_cons_zero, List.set_cons_succ]
        refine wpAnyK_go (i := 22) (m' := 8388607) (some 37) (v := .func (.func 37) #[.pointer (some ⟨pt, 0, none⟩)] #[]) rfl rfl (by kernel_rfl) (by kernel_rfl) (by kernel_rfl) (by kernel_rfl) (by kernel_rfl) (fun _ _ _ h => h) (Or.inl ⟨by rfl, ?_⟩) hS0 ?_
        · intro w' hSw
          go_simp
        simp only [Act.put, List.setIfInBounds_toArray, List.set_cons_zero, List.set_cons_succ]
        refine wpAnyK_only (i := 23) (m' := 16777215) (by kernel_rfl) rfl (by kernel_rfl) fun K hK => ?_
        go_simp
        (with_reducible refine Calls.mono CE ?_)
        rintro e' w2 ⟨rfl, hw2⟩
        subst hw2
        go_simp
        refine hK.out _ _ (fun _ => hS0) ?_
        clear hK K CE
        refine wpAnyK_only (i := 24) (m' := 33554431) (by kernel_rfl) rfl (by kernel_rfl) fun K hK => ?_
        go_simp
        refine hK.out _ _ (fun _ => hS0) ?_
        clear hK K
        refine wpAnyK_done (by kernel_rfl) ?_ _
        clear hS0
        cases ub with
        | true =>
          rw [if_pos rfl] at HQi
          replace HQi : Hid _ := HQi
          have hsh : Hid (IntKind.u64.wrap ((2 : Int) ^ i) = ((2 ^ i : Nat) : Int)) := by
            have h := shl_bit i hi64
            rw [Nat.min_eq_left (by omega)] at h
            exact h
          have hor : Hid _ := bits_or_u64_nat (G i) (2 ^ i) HGi.out (by have := two_pow_lt hi64; omega)
          clear hfi
          go_wp2
          go_roundw
          case rel => exact ⟨i + 1, hil, by go_num, by rw [HQi.out, hsh.out, hor.out], HB.out⟩
          case measure => simp [intOf]; omega
        | false =>
          rw [if_neg (by decide)] at HQi
          replace HQi : Hid _ := HQi
          clear hfi
          go_wp2
          go_roundw
          case rel => exact ⟨i + 1, hil, by go_num, by rw [HQi.out], HB.out⟩
          case measure => simp [intOf]; omega
      · have k1 : ¬ (f : Int) ≤ (i : Int) := by omega
        rw [decide_eq_false hfi, Bool.false_and, if_neg (by decide)] at HQi
        replace HQi : Hid _ := HQi
        clear CE hfi
        refine wp_region_M (S := (fun w' : World => w'.cell? ⟨P, 3, none⟩ = some (.slice (some ⟨g, o, none⟩) rs.length cap) ∧ w'.cell? ⟨g, o + f, none⟩ = some (.slice af lf cf) ∧ w'.cell? ⟨g, o + i, none⟩ = some (.slice ag lg cg) ∧ w'.cell? ⟨P, 2, none⟩ = some (.pointer (some ⟨pt, 0, none⟩)))) (L := 25) (n := 25) (by kernel_rfl) rfl (by kernel_rfl) ?_
        refine wpAnyK_go (i := 0) (m' := 1) (some 15) (v := .int .i64 f) rfl rfl (by kernel_rfl) (by kernel_rfl) (by kernel_rfl) (by kernel_rfl) (by kernel_rfl) (fun _ _ _ h => h) (Or.inl ⟨by rfl, ?_⟩) hS0 ?_
        · intro w' hSw
          go_simp
        simp only [Act.put, List.setIfInBounds_toArray, List.set_cons_zero, List.set_cons_succ]
        refine wpAnyK_go (i := 1) (m' := 3) (some 16) (v := .int .i64 i) rfl rfl (by kernel_rfl) (by kernel_rfl) (by kernel_rfl) (by kernel_rfl) (by kernel_rfl) (fun _ _ _ h => h) (Or.inl ⟨by rfl, ?_⟩) hS0 ?_
        · intro w' hSw
          go_simp
        simp only [Act.put, List.setIfInBounds_toArray, List.set_cons_zero, List.set_cons_succ]
        refine wpAnyK_go (i := 2) (m' := 7) (some 17) (v := .bool false) rfl rfl (by kernel_rfl) (by kernel_rfl) (by kernel_rfl) (by kernel_rfl) (by kernel_rfl) (fun _ _ _ h => h) (Or.inl ⟨by rfl, ?_⟩) hS0 ?_
        · intro w' hSw
          go_simp
        simp only [Act.put, List.setIfInBounds_toArray, List.set_cons_zero, List.set_cons_succ]
        refine wpAnyK_go (i := 3) (m' := 15) (some 18) (v := .bool false) rfl rfl (by kernel_rfl) (by kernel_rfl) (by kernel_rfl) (by kernel_rfl) (by kernel_rfl) (fun _ _ _ h => h) (Or.inl ⟨by rfl, ?_⟩) hS0 ?_
        · intro w' hSw
          go_simp
        simp only [Act.put, List.setIfInBounds_toArray, List.set_cons_zero, List.set_cons_succ]
        refine wpAnyK_go (i := 4) (m' := 31) (some 19) (v := undef) rfl rfl (by kernel_rfl) (by kernel_rfl) (by kernel_rfl) (by kernel_rfl) (by kernel_rfl) (fun _ _ _ h => h) (Or.inr ⟨by rfl, rfl⟩) hS0 ?_
        simp only [Act.put, List.setIfInBounds_toArray, List.set_cons_zero, List.set_cons_succ]
        refine wpAnyK_go (i := 5) (m' := 63) (some 20) (v := undef) rfl rfl (by kernel_rfl) (by kernel_rfl) (by kernel_rfl) (by kernel_rfl) (by kernel_rfl) (fun _ _ _ h => h) (Or.inr ⟨by rfl, rfl⟩) hS0 ?_
        simp only [Act.put, List.setIfInBounds_toArray, List.set_cons_zero, List.set_cons_succ]
        refine wpAnyK_go (i := 6) (m' := 127) (some 21) (v := undef) rfl rfl (by kernel_rfl) (by kernel_rfl) (by kernel_rfl) (by kernel_rfl) (by kernel_rfl) (fun _ _ _ h => h) (Or.inr ⟨by rfl, rfl⟩) hS0 ?_
        simp only [Act.put, List.setIfInBounds_toArray, List.set_cons_zero, List.set_cons_succ]
        refine wpAnyK_go (i := 7) (m' := 255) (some 22) (v := undef) rfl rfl (by kernel_rfl) (by kernel_rfl) (by kernel_rfl) (by kernel_rfl) (by kernel_rfl) (fun _ _ _ h => h) (Or.inr ⟨by rfl, rfl⟩) hS0 ?_
        simp only [Act.put, List.setIfInBounds_toArray, List.set_cons_zero, List.set_cons_succ]
        refine wpAnyK_go (i := 8) (m' := 511) (some 23) (v := undef) rfl rfl (by kernel_rfl) (by kernel_rfl) (by kernel_rfl) (by kernel_rfl) (by kernel_rfl) (fun _ _ _ h => h) (Or.inr ⟨by rfl, rfl⟩) hS0 ?_
        simp only [Act.put, List.setIfInBounds_toArray, List.set_cons_zero, List.set_cons_succ]
        refine wpAnyK_go (i := 9) (m' := 1023) (some 24) (v := undef) rfl rfl (by kernel_rfl) (by kernel_rfl) (by kernel_rfl) (by kernel_rfl) (by kernel_rfl) (fun _ _ _ h => h) (Or.inr ⟨by rfl, rfl⟩) hS0 ?_
        simp only [Act.put, List.setIfInBounds_toArray, List.set_cons_zero, List.set_cons_succ]
        refine wpAnyK_go (i := 10) (m' := 2047) (some 25) (v := undef) rfl rfl (by kernel_rfl) (by kernel_rfl) (by kernel_rfl) (by kernel_rfl) (by kernel_rfl) (fun _ _ _ h => h) (Or.inr ⟨by rfl, rfl⟩) hS0 ?_
        simp only [Act.put, List.setIfInBounds_toArray, List.set_cons_zero, List.set_cons_succ]
        refine wpAnyK_go (i := 11) (m' := 4095) (some 26) (v := undef) rfl rfl (by kernel_rfl) (by kernel_rfl) (by kernel_rfl) (by kernel_rfl) (by kernel_rfl) (fun _ _ _ h => h) (Or.inr ⟨by rfl, rfl⟩) hS0 ?_
        simp only [Act.put, List.setIfInBounds_toArray, List.set_cons_zero, List.set_cons_succ]
        refine wpAnyK_go (i := 12) (m' := 8191) (some 27) (v := undef) rfl rfl (by kernel_rfl) (by kernel_rfl) (by kernel_rfl) (by kernel_rfl) (by kernel_rfl) (fun _ _ _ h => h) (Or.inr ⟨by rfl, rfl⟩) hS0 ?_
        simp only [Act.put, List.setIfInBounds_toArray, List.set_cons_zero, List.set_cons_succ]
        refine wpAnyK_go (i := 13) (m' := 16383) (some 28) (v := undef) rfl rfl (by kernel_rfl) (by kernel_rfl) (by kernel_rfl) (by kernel_rfl) (by kernel_rfl) (fun _ _ _ h => h) (Or.inr ⟨by rfl, rfl⟩) hS0 ?_
        simp only [Act.put, List.setIfInBounds_toArray, List.set_cons_zero, List.set_cons_succ]
        refine wpAnyK_go (i := 14) (m' := 32767) (some 29) (v := undef) rfl rfl (by kernel_rfl) (by kernel_rfl) (by kernel_rfl) (by kernel_rfl) (by kernel_rfl) (fun _ _ _ h => h) (Or.inr ⟨by rfl, rfl⟩) hS0 ?_
        simp only [Act.put, List.setIfInBounds_toArray, List.set_cons_zero, List.set_cons_succ]
        refine wpAnyK_go (i := 15) (m' := 65535) (some 30) (v := undef) rfl rfl (by kernel_rfl) (by kernel_rfl) (by kernel_rfl) (by kernel_rfl) (by kernel_rfl) (fun _ _ _ h => h) (Or.inr ⟨by rfl, rfl⟩) hS0 ?_
        simp only [Act.put, List.setIfInBounds_toArray, List.set_cons_zero, List.set_cons_succ]
        refine wpAnyK_go (i := 16) (m' := 131071) (some 31) (v := undef) rfl rfl (by kernel_rfl) (by kernel_rfl) (by kernel_rfl) (by kernel_rfl) (by kernel_rfl) (fun _ _ _ h => h) (Or.inr ⟨by rfl, rfl⟩) hS0 ?_
        simp only [Act.put, List.setIfInBounds_toArray, List.set_cons_zero, List.set_cons_succ]
        refine wpAnyK_go (i := 17) (m' := 262143) (some 32) (v := undef) rfl rfl (by kernel_rfl) (by kernel_rfl) (by kernel_rfl) (by kernel_rfl) (by kernel_rfl) (fun _ _ _ h => h) (Or.inr ⟨by rfl, rfl⟩) hS0 ?_
        simp only [Act.put, List.setIfInBounds_toArray, List.set_cons_zero, List.set_cons_succ]
        refine wpAnyK_go (i := 18) (m' := 524287) (some 33) (v := undef) rfl rfl (by kernel_rfl) (by kernel_rfl) (by kernel_rfl) (by kernel_rfl) (by kernel_rfl) (fun _ _ _ h => h) (Or.inr ⟨by rfl, rfl⟩) hS0 ?_
        simp only [Act.put, List.setIfInBounds_toArray, List.set_cons_zero, List.set_cons_succ]
        refine wpAnyK_go (i := 19) (m' := 1048575) (some 34) (v := undef) rfl rfl (by kernel_rfl) (by kernel_rfl) (by kernel_rfl) (by kernel_rfl) (by kernel_rfl) (fun _ _ _ h => h) (Or.inr ⟨by rfl, rfl⟩) hS0 ?_
        simp only [Act.put, List.setIfInBounds_toArray, List.set_cons_zero, List.set_cons_succ]
        refine wpAnyK_go (i := 20) (m' := 2097151) (some 35) (v := undef) rfl rfl (by kernel_rfl) (by kernel_rfl) (by kernel_rfl) (by kernel_rfl) (by kernel_rfl) (fun _ _ _ h => h) (Or.inr ⟨by rfl, rfl⟩) hS0 ?_
        simp only [Act.put, List.setIfInBounds_toArray, List.set_cons_zero, List.set_cons_succ]
        refine wpAnyK_go (i := 21) (m' := 4194303) (some 36) (v := undef) rfl rfl (by kernel_rfl) (by kernel_rfl) (by kernel_rfl) (by kernel_rfl) (by kernel_rfl) (fun _ _ _ h => h) (Or.inr ⟨by rfl, rfl⟩) hS0 ?_
        simp only [Act.put, List.setIfInBounds_toArray, List.set_cons_zero, List.set_cons_succ]
        refine wpAnyK_go (i := 22) (m' := 8388607) (some 37) (v := undef) rfl rfl (by kernel_rfl) (by kernel_rfl) (by kernel_rfl) (by kernel_rfl) (by kernel_rfl) (fun _ _ _ h => h) (Or.inr ⟨by rfl, rfl⟩) hS0 ?_
        simp only [Act.put, List.setIfInBounds_toArray, List.set_cons_zero, List.set_cons_succ]
        refine wpAnyK_go (i := 23) (m' := 16777215) (some 38) (v := undef) rfl rfl (by kernel_rfl) (by kernel_rfl) (by kernel_rfl) (by kernel_rfl) (by kernel_rfl) (fun _ _ _ h => h) (Or.inr ⟨by rfl, rfl⟩) hS0 ?_
        simp only [Act.put, List.setIfInBounds_toArray, List.set_cons_zero, List.set_cons_succ]
        refine wpAnyK_only (i := 24) (m' := 33554431) (by kernel_rfl) rfl (by kernel_rfl) fun K hK => ?_
        go_simp
        refine hK.out _ _ (fun _ => hS0) ?_
        clear hK K
        refine wpAnyK_done (by kernel_rfl) ?_ _
        clear hS0
        go_wp2
        go_roundw
        case rel => exact ⟨i + 1, hil, by go_num, by rw [HQi.out], HB.out⟩
        case measure => simp [intOf]; omega
    · obtain rfl : i = rs.length := by omega
      go_wp2
      go_ret
      exact ⟨rfl, HB.out⟩
end Go.Proofs.YtgdflaapgfpdeaaGreatDoor

namespace Go.Proofs.YtgdflaapgfpdeaaGreatDoor
open Go.RowKit

/-- What functions answers. -/
def FnRes (w : World) (pf pt : Nat) (fa ta : List Nat) (r : Ending) (w' : World) : Prop :=
  ((resP fa ta).length ≤ 40 ∧ r = .returned (.pointer (some ⟨w.heap.size, 0, none⟩)) ∧ ∃ a b, w'.heap[w.heap.size]? = some (.cells #[a, .pointer (some ⟨pf, 0, none⟩), .pointer (some ⟨pt, 0, none⟩), b] 57 (0, 0)) ∧ RowE ESet w' (fun y => w.heap.size ≤ y ∧ y < w'.heap.size) (fun y => w.heap.size ≤ y ∧ y < w'.heap.size) a (fnsP ta (resP fa ta)) ∧ RowE ERs w' (fun y => w.heap.size ≤ y ∧ y < w'.heap.size) (fun y => w.heap.size ≤ y ∧ y < w'.heap.size) b (resP fa ta)) ∨
  (40 < (resP fa ta).length ∧ r = .returned (.pointer none))
theorem find_start {P pf pt : Nat} {fa ta : List Nat} {W w2 : World} (hPW : W.heap[P]? = some (.cells #[.slice none 0 0, .pointer (some ⟨pf, 0, none⟩), .pointer (some ⟨pt, 0, none⟩), .slice none 0 0] 57 (0, 0))) (hPl : P < W.heap.size) (hfr : AbAt W (fun y => y < P) pf fa) (hto : AbAt W (fun y => y < P) pt ta) (ho : w2.ownsRow W.heap.size 3 1 (.slice (some ⟨W.heap.size, 0, none⟩) 0 fa.length) 0 []) (hg : W.grownBy w2 none) : FdW P W.heap.size (W.heap.size + 1) pf pt fa ta [] (.slice none 0 0) [] w2 := by
  have hk : Keeps (fun y => y < P) W w2 := fun y hy => hg.block y (by have : y < P := hy; omega) (by simp)
  exact ⟨hPl, Nat.lt_succ_self _, (ho.lt _ rfl).2, (hg.block P hPl (by simp)).trans hPW, ho, OwnN.nil _ _ _ _ _, hfr.on hk fun _ h => h, hto.on hk fun _ h => h⟩
set_option maxHeartbeats 8000000 in
set_option maxRecDepth 10000 in
theorem functions_any {w : World} {pf pt : Nat} {fa ta : List Nat} (hfr : AbAt w (fun y => y < w.heap.size) pf fa) (hto : AbAt w (fun y => y < w.heap.size) pt ta) (hf : Lat fa) (ht : Lat ta) :
    Calls Tryz.prog 68 #[.pointer (some ⟨pf, 0, none⟩), .pointer (some ⟨pt, 0, none⟩)] w fun r w' => Hid (Below w.heap.size w w') ∧ Hid (FnRes w pf pt fa ta r w') := by
  obtain ⟨ti, z, hi, hz, hk, hby, hzs⟩ := Tryz.ty28.info
  have hfl : fa.length ≤ 40 := hf.few
  obtain ⟨P, hP⟩ : ∃ P, P = w.heap.size := ⟨_, rfl⟩
  have HRES : Hid (∀ r w', FnRes w pf pt fa ta r w' ↔ FnRes w pf pt fa ta r w') := fun _ _ => Iff.rfl
  obtain ⟨W, hW⟩ : ∃ W, W = w.alloc (.cells #[.slice none 0 0, .pointer (some ⟨pf, 0, none⟩), .pointer (some ⟨pt, 0, none⟩), .slice none 0 0] 57) := ⟨_, rfl⟩
  have hBW : Below P w W := by
    rw [hW, hP]
    exact (Below.refl _ _).alloc (Nat.le_refl _) _
  have hPW : W.heap[P]? = some (.cells #[.slice none 0 0, .pointer (some ⟨pf, 0, none⟩), .pointer (some ⟨pt, 0, none⟩), .slice none 0 0] 57 (0, 0)) := by
    rw [hW, hP]
    exact new_blk _ _
  have hkW : Keeps (fun y => y < w.heap.size) w W := fun y hy => hBW.block y (by rw [hP]; exact hy)
  have hfr' : AbAt W (fun y => y < P) pf fa := by rw [hP]; exact hfr.on hkW fun _ h => h
  have hto' : AbAt W (fun y => y < P) pt ta := by rw [hP]; exact hto.on hkW fun _ h => h
  have CS := size_any (w := W) hfr'
  have HST : Hid (∀ w2 : World, w2.ownsRow W.heap.size 3 1 (.slice (some ⟨W.heap.size, 0, none⟩) 0 fa.length) 0 [] → W.grownBy w2 none → FdW P W.heap.size (W.heap.size + 1) pf pt fa ta [] (.slice none 0 0) [] w2 ∧ Below P w w2) := fun w2 ho hg => ⟨find_start hPW (lt_heap hPW) hfr' hto' ho hg, hBW.grown hg (Nat.le_of_lt (lt_heap hPW)) fun _ e => by cases e⟩
  have HIW : Hid (P < W.heap.size) := lt_heap hPW
  have HF : Hid (Lat fa) := hf
  have HT : Hid (Lat ta) := ht
  have HPE : Hid (P = w.heap.size) := hP
  have HFI : Hid (∀ w2 : World, FdW P W.heap.size (W.heap.size + 1) pf pt fa ta [] (.slice none 0 0) [] w2 → Calls Tryz.prog 78 #[.pointer (some ⟨P, 0, none⟩), .slice (some ⟨W.heap.size, 0, none⟩) 0 fa.length] w2 fun r w' => r = .returned (.bool (decide ((resP fa ta).length ≤ 40))) ∧ Hid (Below P w2 w') ∧ Hid ((resP fa ta).length ≤ 40 → ∃ b', FdW P W.heap.size (W.heap.size + 1) pf pt fa ta [] b' (resP fa ta) w')) := fun w2 h2 => by
    have := find_any hf ht fa.length [] _ [] w2 h2 (by simp) (fun v h => by simp at h) (by simp)
    rw [show ([] : List (List Nat)).length + (allP fa ta fa.length []).length = (resP fa ta).length by simp [resP]] at this
    exact this.mono fun r w' ⟨q1, q2, q3⟩ => ⟨q1, q2, fun hq => by
      obtain ⟨b', hb'⟩ := q3.out hq
      exact ⟨b', hb'⟩⟩
  have HLEN : Hid ((fnsP ta (resP fa ta)).length = (resP fa ta).length) := fns_len _ _
  have HGET : Hid (∀ i (h : i < (resP fa ta).length), (fnsP ta (resP fa ta)).take i ++ [greatQ ta (resP fa ta) i (resP fa ta).length] = (fnsP ta (resP fa ta)).take (i + 1)) := fun i h => by
    rw [List.take_succ_eq_append_getElem (by rw [fns_len]; exact h)]
    congr 2
    have := fns_get ta (resP fa ta) h
    rw [List.getD_eq_getElem?_getD, List.getElem?_eq_getElem (by rw [fns_len]; exact h)] at this
    exact this.symm
  have HRS : Hid (∀ r ∈ resP fa ta, r.length = fa.length ∧ ∀ x ∈ r, x < ta.length) := fun r hr => by
    obtain ⟨h1, h2, _⟩ := (res_mem fa ta r).1 hr
    refine ⟨h1, fun x hx => ?_⟩
    obtain ⟨j, hj, rfl⟩ := List.getElem_of_mem hx
    have := h2 j (by omega)
    rwa [List.getD_eq_getElem?_getD, List.getElem?_eq_getElem hj] at this
  rw [← hP]
  clear hfr hto hfr' hto' hf ht hBW hPW hkW hP HRES
  go_enter Tryz.func68, Tryz.ntmps68
  go_upto_region 2 with fail
  rw [← hW, ← HPE.out]
  clear hW
  by_cases h40 : (resP fa ta).length ≤ 40
  · replace HFI : Hid (∀ w2 : World, FdW P W.heap.size (W.heap.size + 1) pf pt fa ta [] (.slice none 0 0) [] w2 → Calls Tryz.prog 78 #[.pointer (some ⟨P, 0, none⟩), .slice (some ⟨W.heap.size, 0, none⟩) 0 fa.length] w2 fun r w' => r = .returned (.bool true) ∧ Hid (Below P w2 w') ∧ Hid (∃ b', FdW P W.heap.size (W.heap.size + 1) pf pt fa ta [] b' (resP fa ta) w')) := fun w2 h2 => (HFI.out w2 h2).mono fun r w' ⟨q1, q2, q3⟩ => ⟨by rw [q1, decide_eq_true h40], q2, q3.out h40⟩
    have H40 : Hid ((resP fa ta).length ≤ 40) := h40
    clear h40
    have HFN : Hid (∀ (a b : Value) (w' : World), w'.heap[P]? = some (.cells #[a, .pointer (some ⟨pf, 0, none⟩), .pointer (some ⟨pt, 0, none⟩), b] 57 (0, 0)) → RowE ESet w' (fun y => P ≤ y ∧ y < w'.heap.size) (fun y => P ≤ y ∧ y < w'.heap.size) a (fnsP ta (resP fa ta)) → RowE ERs w' (fun y => P ≤ y ∧ y < w'.heap.size) (fun y => P ≤ y ∧ y < w'.heap.size) b (resP fa ta) → FnRes w pf pt fa ta (.returned (.pointer (some ⟨P, 0, none⟩))) w') := fun a b w' h1 h2 h3 => .inl ⟨H40.out, by rw [HPE.out], a, b, by rw [← HPE.out]; exact h1, by rw [← HPE.out]; exact h2, by rw [← HPE.out]; exact h3⟩
    generalize resP fa ta = rs at *
    go_upto_region 4 with (first
      | (go_at_call 33; (with_reducible refine Calls.mono CS ?_); rintro e' w1 ⟨rfl, hw1⟩; subst hw1)
      | (at_make; refine wpList_make_own _ rfl _ _ 25 rfl w1.heap.size 3 ti z 1 Tryz.underlying25 hi hz hk .i64 .i64 _ fa.length rfl rfl rfl (by rw [hby]; omega) (by unfold maxLen; omega) (Nat.le_refl _) ?_; intro w2 ho2 hg2)
      | (go_at_call 78; (with_reducible refine Calls.mono (HFI.out w2 (HST.out w2 ho2 hg2).1) ?_); rintro e' w3 ⟨rfl, hB3, hF3⟩))
    obtain ⟨b, hF⟩ := hF3.out
    have HBB : Hid (Below P w w3) := (HST.out w2 ho2 hg2).2.trans hB3.out
    obtain ⟨ab, cb, rfl⟩ := hF.own.len
    have HRW : Hid (RowE ERs w3 (fun y => w1.heap.size < y ∧ y < w3.heap.size) (fun y => w1.heap.size < y ∧ y < w3.heap.size) (.slice ab rs.length cb) rs) := (OwnN.rowE hF.own).on (Keeps.refl _ _) (Keeps.refl _ _) (fun y h => h) fun y h => by
      rcases h with h | h
      · exact h.elim
      · exact h
    have HTT : Hid (AbAt w3 (fun y => y < P) pt ta) := hF.tt
    have HP3 : Hid (w3.heap[P]? = some (.cells #[.slice none 0 0, .pointer (some ⟨pf, 0, none⟩), .pointer (some ⟨pt, 0, none⟩), .slice ab rs.length cb] 57 (0, 0))) := hF.blk
    have c3 : w3.cell? ⟨P, 3, none⟩ = some (.slice ab rs.length cb) := heap_cl hF.blk rfl
    have h40 : rs.length ≤ 40 := H40.out
    clear hF hF3 hB3 HFI HST ho2 hg2 CS hi hz hk hby hzs
    go_upto_region 5 with fail
    clear c3
    go_loopw [22] (fun iv wr => ∃ (i : Nat) (v : Value), i ≤ rs.length ∧ iv = .int .i64 i ∧ Hid (Below P w wr) ∧ Hid (wr.heap[P]? = some (.cells #[v, .pointer (some ⟨pf, 0, none⟩), .pointer (some ⟨pt, 0, none⟩), .slice ab rs.length cb] 57 (0, 0))) ∧ Hid (OwnN ESet 80 w3.heap.size (fun _ => False) wr v ((fnsP ta rs).take i)) ∧ Hid (Keeps (fun y => y < w3.heap.size ∧ y ≠ P) w3 wr) ∧ Hid (w3.heap.size ≤ wr.heap.size)) (fun iv _ => rs.length - (intOf iv).toNat)
    case atStart => exact ⟨0, _, by omega, by go_num, HBB.out, HP3.out, by rw [List.take_zero]; exact OwnN.nil _ _ _ _ _, Keeps.refl _ _, Nat.le_refl _⟩
    case round =>
      have HP3l : Hid (P < w3.heap.size) := lt_heap HP3.out
      clear HBB HP3
      obtain ⟨i, v, hi, rfl, HB, HP, HO, HK, HS⟩ := hrel
      by_cases hil : i < rs.length
      · replace HB : Hid (Below P w wr.drew) := HB.out.drew
        replace HP : Hid (wr.drew.heap[P]? = some (.cells #[v, .pointer (some ⟨pf, 0, none⟩), .pointer (some ⟨pt, 0, none⟩), .slice ab rs.length cb] 57 (0, 0))) := HP.out
        replace HK : Hid (Keeps (fun y => y < w3.heap.size ∧ y ≠ P) w3 wr.drew) := HK.out
        replace HS : Hid (w3.heap.size ≤ wr.drew.heap.size) := HS.out
        replace HO : Hid (OwnN ESet 80 w3.heap.size (fun _ => False) wr.drew v ((fnsP ta rs).take i)) := OwnN.on HO.out (fun _ h => h.elim) HS.out ((Below.refl _ _).drew)
        have CG : Calls Tryz.prog 79 #[.pointer (some ⟨P, 0, none⟩), .int .i64 i] wr.drew fun r w' => r = .returned (.int .u64 ((greatQ ta rs i rs.length : Nat) : Int)) ∧ Hid (Below wr.drew.heap.size wr.drew w') := by
          have h1 := HS.out
          have h2 := HP3l.out
          have h3 := HIW.out
          refine greater_any (n := fa.length) HP.out (HRW.out.on (HK.out.less fun y h => ⟨h.2, by have := h.1; omega⟩) (HK.out.less fun y h => ⟨h.2, by have := h.1; omega⟩) (fun y h => Nat.lt_of_lt_of_le h.2 h1) (fun y h => Nat.lt_of_lt_of_le h.2 h1)) (HTT.out.on (HK.out.less fun y h => ?_) fun y h => ?_) HT.out (by omega) HRS.out h40 hil
          · have h : y < P := h
            exact ⟨by omega, by omega⟩
          · have h : y < P := h
            omega
        have HQL : Hid (greatQ ta rs i rs.length < 2 ^ rs.length) := great_lt ta rs i rs.length
        have HGi : Hid _ := HGET.out i hil
        have i1 : (0 : Int) ≤ (i : Int) := by omega
        have i2 : (i : Int) < (rs.length : Int) := by omega
        generalize greatQ ta rs i rs.length = gv at *
        go_upto_region 7 with fail
        have hvP : v.ownBlock ≠ some P := fun e => by have := (HO.out.lt P e).1; have := HP3l.out; omega
        have hS0 : (fun w' : World => w'.cell? ⟨P, 0, none⟩ = some v) wr.drew := heap_cl HP.out rfl
        refine wp_region_M (S := (fun w' : World => w'.cell? ⟨P, 0, none⟩ = some v)) (L := 12) (n := 13) (by kernel_rfl) rfl (by kernel_rfl) ?_
        refine wpAnyK_go (i := 0) (m' := 1) (some 25) (v := .pointer (some ⟨P, 0, none⟩)) rfl rfl (by kernel_rfl) (by kernel_rfl) (by kernel_rfl) (by kernel_rfl) (by kernel_rfl) (fun _ _ _ h => h) (Or.inl ⟨by rfl, ?_⟩) hS0 ?_
        · intro w' hSw
          go_simp
        simp only [Act.put, List.setIfInBounds_toArray, List.set_cons_zero, List.set_cons_succ]
        refine wpAnyK_go (i := 1) (m' := 3) (some 26) (v := .pointer (some ⟨P, 0, none⟩)) rfl rfl (by kernel_rfl) (by kernel_rfl) (by kernel_rfl) (by kernel_rfl) (by kernel_rfl) (fun _ _ _ h => h) (Or.inl ⟨by rfl, ?_⟩) hS0 ?_
        · intro w' hSw
          go_simp
        simp only [Act.put, List.setIfInBounds_toArray, List.set_cons_zero, List.set_cons_succ]
        refine wpAnyK_go (i := 2) (m' := 7) (some 27) (v := .pointer (some ⟨P, 0, none⟩)) rfl rfl (by kernel_rfl) (by kernel_rfl) (by kernel_rfl) (by kernel_rfl) (by kernel_rfl) (fun _ _ _ h => h) (Or.inl ⟨by rfl, ?_⟩) hS0 ?_
        · intro w' hSw
          go_simp
        simp only [Act.put, List.setIfInBounds_toArray, List.set_cons_zero, List.set_cons_succ]
        refine wpAnyK_go (i := 3) (m' := 15) (some 28) (v := .pointer (some ⟨P, 0, none⟩)) rfl rfl (by kernel_rfl) (by kernel_rfl) (by kernel_rfl) (by kernel_rfl) (by kernel_rfl) (fun _ _ _ h => h) (Or.inl ⟨by rfl, ?_⟩) hS0 ?_
        · intro w' hSw
          go_simp
        simp only [Act.put, List.setIfInBounds_toArray, List.set_cons_zero, List.set_cons_succ]
        refine wpAnyK_go (i := 4) (m' := 31) (some 29) (v := v) rfl rfl (by kernel_rfl) (by kernel_rfl) (by kernel_rfl) (by kernel_rfl) (by kernel_rfl) (fun _ _ _ h => h) (Or.inl ⟨by rfl, ?_⟩) hS0 ?_
        · intro w' hSw
          replace hSw : w'.cell? ⟨P, 0, none⟩ = some v := hSw
          go_simp
        simp only [Act.put, List.setIfInBounds_toArray, List.set_cons_zero, List.set_cons_succ]
        refine wpAnyK_go (i := 5) (m' := 63) (some 30) (v := .pointer (some ⟨P, 0, none⟩)) rfl rfl (by kernel_rfl) (by kernel_rfl) (by kernel_rfl) (by kernel_rfl) (by kernel_rfl) (fun _ _ _ h => h) (Or.inl ⟨by rfl, ?_⟩) hS0 ?_
        · intro w' hSw
          go_simp
        simp only [Act.put, List.setIfInBounds_toArray, List.set_cons_zero, List.set_cons_succ]
        refine wpAnyK_go (i := 6) (m' := 127) (some 31) (v := .int .i64 i) rfl rfl (by kernel_rfl) (by kernel_rfl) (by kernel_rfl) (by kernel_rfl) (by kernel_rfl) (fun _ _ _ h => h) (Or.inl ⟨by rfl, ?_⟩) hS0 ?_
        · intro w' hSw
          go_simp
        simp only [Act.put, List.setIfInBounds_toArray, List.set_cons_zero, List.set_cons_succ]
        refine wpAnyK_only (i := 7) (m' := 255) (by kernel_rfl) rfl (by kernel_rfl) fun K hK => ?_
        go_simp
        (with_reducible refine Calls.mono CG ?_)
        rintro e' w4 ⟨rfl, HB4⟩
        have hP4 : w4.heap[P]? = some (.cells #[v, .pointer (some ⟨pf, 0, none⟩), .pointer (some ⟨pt, 0, none⟩), .slice ab rs.length cb] 57 (0, 0)) := (HB4.out.block P (lt_heap HP.out)).trans HP.out
        have hS4 : (fun w' : World => w'.cell? ⟨P, 0, none⟩ = some v) w4 := heap_cl hP4 rfl
        go_simp
        refine hK.out _ _ (fun _ => hS4) ?_
        clear hK K CG
        refine wpAnyK_only (i := 8) (m' := 511) (by kernel_rfl) rfl (by kernel_rfl) fun K hK => ?_
        go_simp
        refine hK.out _ _ (fun _ => ((Below.refl _ _).alloc (Nat.le_refl _) _ |>.cell (p := ⟨P, 0, none⟩) (lt_heap hP4)).trans hS4) ?_
        clear hK K
        refine wpAnyK_only (i := 9) (m' := 1023) (by kernel_rfl) rfl (by kernel_rfl) fun K hK => ?_
        refine step_append_N1 (E := ESet) (w1 := wr.drew) (w2 := w4) (cs := [.int .u64 ((gv : Nat) : Int)]) (p := gv) (cap := 1) Tryz.ty60 rfl _ _ rfl rfl HO.out (fun _ h => h.elim) HS.out HB4.out w4.heap.size rfl rfl rfl (by rw [List.length_take]; omega) ?_
        intro g1 cap1 w5 O5 HK5
        have hl1 : (List.take i (fnsP ta rs)).length + 1 = i + 1 := by rw [List.length_take, HLEN.out]; omega
        rw [hl1] at O5 ⊢
        clear hl1
        have hblk5 : w5.heap[P]? = some (.cells #[v, .pointer (some ⟨pf, 0, none⟩), .pointer (some ⟨pt, 0, none⟩), .slice ab rs.length cb] 57 (0, 0)) := (HK5.out.2 P (lt_heap hP4) hvP).trans hP4
        obtain ⟨q1, q2⟩ := put_cell (j := 0) HP3l.out hP4 O5 HK5.out.2 hvP
        have hS5 : (fun w' : World => w'.cell? ⟨P, 0, none⟩ = some v) w5 := heap_cl hblk5 rfl
        have z1 := heap_frozen (o := 0) hblk5
        refine hK.out _ _ (fun _ => hS5) ?_
        clear hK K
        simp only [Act.put, List.setIfInBounds_toArray]
        refine wpAnyK_only (i := 10) (m' := 2047) (by kernel_rfl) rfl (by kernel_rfl) fun K hK => ?_
        go_simp
        refine hK.out _ _ (fun _ => hS5) ?_
        clear hK K
        refine wpAnyK_only (i := 11) (m' := 4095) (by kernel_rfl) rfl (by kernel_rfl) fun K hK => ?_
        go_simp
        refine hK.out _ _ (fun _ => hS5) ?_
        clear hK K
        refine wpAnyK_only (i := 12) (m' := 8191) (by kernel_rfl) rfl (by kernel_rfl) fun K hK => ?_
        have y1 : w5.cell? ⟨P, 0, none⟩ = some v := hS5
        go_simp
        refine hK.out _ _ (fun h => absurd rfl h) ?_
        clear hK K
        refine wpAnyK_done (by kernel_rfl) ?_ _
        have hB5 : Below w3.heap.size wr.drew w5 := HK5.out.1
        have hPl := HP3l.out
        replace HB : Hid (Below P w (w5.setCell ⟨P, 0, none⟩ (.slice (some ⟨g1, 0, none⟩) (i + 1) cap1))) := (HB.out.trans (hB5.mono (Nat.le_of_lt hPl))).setCell (show P ≤ (⟨P, 0, none⟩ : Addr).block from Nat.le_refl _) _
        replace HK : Hid (Keeps (fun y => y < w3.heap.size ∧ y ≠ P) w3 (w5.setCell ⟨P, 0, none⟩ (.slice (some ⟨g1, 0, none⟩) (i + 1) cap1))) := fun y hy => by
          rw [Below.heap_setCell _ _ _ _ (by show y ≠ P; exact hy.2), hB5.block y hy.1]
          exact HK.out y hy
        replace HS : Hid (w3.heap.size ≤ (w5.setCell ⟨P, 0, none⟩ (.slice (some ⟨g1, 0, none⟩) (i + 1) cap1)).heap.size) := by
          show _ ≤ _
          rw [World.size_setCell]
          exact Nat.le_trans HS.out hB5.size
        replace q1 : Hid _ := q1
        replace q2 : Hid _ := q2
        clear HP HO hS0 hS4 hS5 HK5 O5 z1 y1 hblk5 hB5 HB4 hP4 HQL hPl
        generalize w5.setCell ⟨P, 0, none⟩ (.slice (some ⟨g1, 0, none⟩) (i + 1) cap1) = w6 at *
        go_wp2
        go_roundw
        case rel => exact ⟨i + 1, _, hil, by go_num, HB.out, q1.out, by have h := q2.out; rw [HGi.out] at h; exact h, HK.out, HS.out⟩
        case measure => simp [intOf]; omega
      · obtain rfl : i = rs.length := by omega
        go_wp2
        go_ret
        have hPl := HP3l.out
        have hs := HS.out
        have hiw := HIW.out
        refine ⟨HB.out, HFN.out v _ wr HP.out ?_ (HRW.out.on (HK.out.less fun y h => ⟨h.2, by have := h.1; omega⟩) (HK.out.less fun y h => ⟨h.2, by have := h.1; omega⟩) (fun y h => ⟨by have := h.1; omega, by have := h.2; omega⟩) (fun y h => ⟨by have := h.1; omega, by have := h.2; omega⟩))⟩
        have h := HO.out
        rw [List.take_of_length_le (by rw [HLEN.out]; exact Nat.le_refl _)] at h
        exact (OwnN.rowE h).on (Keeps.refl _ _) (Keeps.refl _ _) (fun y h => ⟨by have := h.1; omega, h.2⟩) fun y h => by
          rcases h with h | h
          · exact h.elim
          · exact ⟨by have := h.1; omega, h.2⟩
  · replace HFI : Hid (∀ w2 : World, FdW P W.heap.size (W.heap.size + 1) pf pt fa ta [] (.slice none 0 0) [] w2 → Calls Tryz.prog 78 #[.pointer (some ⟨P, 0, none⟩), .slice (some ⟨W.heap.size, 0, none⟩) 0 fa.length] w2 fun r w' => r = .returned (.bool false) ∧ Hid (Below P w2 w')) := fun w2 h2 => (HFI.out w2 h2).mono fun r w' ⟨q1, q2, q3⟩ => ⟨by rw [q1, decide_eq_false h40], q2⟩
    have HFN : Hid (∀ w' : World, FnRes w pf pt fa ta (.returned (.pointer none)) w') := fun w' => .inr ⟨by omega, rfl⟩
    clear h40 HGET HLEN HRS HF HT
    go_wp2_with (first
      | (go_at_call 33; (with_reducible refine Calls.mono CS ?_); rintro e' w1 ⟨rfl, hw1⟩; subst hw1)
      | (at_make; refine wpList_make_own _ rfl _ _ 25 rfl w1.heap.size 3 ti z 1 Tryz.underlying25 hi hz hk .i64 .i64 _ fa.length rfl rfl rfl (by rw [hby]; omega) (by unfold maxLen; omega) (Nat.le_refl _) ?_; intro w2 ho2 hg2)
      | (go_at_call 78; (with_reducible refine Calls.mono (HFI.out w2 (HST.out w2 ho2 hg2).1) ?_); rintro e' w3 ⟨rfl, hB3⟩))
    go_ret
    exact ⟨(HST.out w2 ho2 hg2).2.trans hB3.out, HFN.out w3⟩
end Go.Proofs.YtgdflaapgfpdeaaGreatDoor
