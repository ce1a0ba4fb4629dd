/- owned answers true of rows that are their owner's. owned of a list of rows. -/
import Derived.Test.YtikpipenhamdbaaGreatMazx
import Derived.Deep.RegionHeldLaw
import Derived.Deep.Cut
import Derived.Lib.SlBuf
import Derived.Deep.QuietTactic
import Derived.BigQuiet
import Derived.Test.YtikpipenhamdbaaGreatMajx
namespace Go.Proofs.YtikpipenhamdbaaGreat
open Go.RowKit

theorem Tryz.info27 : (Tryz.prog.info? 27).map (fun i => (i.zero, i.size, i.bytes)) = some (some (.slice none 0 0), 1, 24) := by kernel_rfl
set_option maxHeartbeats 8000000 in
set_option maxRecDepth 10000 in
theorem owned_any (w : World) (R lo N capR : Nat) (V : Nat → Value) (n : Nat → Nat) (hlw : lo ≤ w.heap.size) (hRl : R < w.heap.size) (hN0 : 0 < N) (hN : N ≤ 500000000000) (_hcR : N ≤ capR) (hR : ∀ i, i < N → w.cell? ⟨R, i, none⟩ = some (V i)) (hown : ∀ i, i < N → ∃ xs, w.ownsRow lo 29 3 (V i) (n i) xs) (hn : ∀ i, i < N → n i ≤ 20000)
  (hdis : ∀ i j g, i < N → j < N → (V i).ownBlock = some g → (V j).ownBlock = some g → i = j) (hRn : ∀ i, i < N → (V i).ownBlock ≠ some R) :
  Calls Tryz.prog 36 #[.slice (some ⟨R, 0, none⟩) N capR] w fun e w' => e = .returned (.bool true) ∧ Below lo w w' := by
 obtain ⟨i0, hi, hz0, hz1, hz2⟩ := info_parts Tryz.info27
 obtain ⟨j0, ji, jz0, jz1, jz2⟩ := info_parts Tryz.info3
 have A0 : PhA w w lo R N V n 0 { D := fun _ _ => False, M := fun _ => 0, C := fun _ => 0 } :=
  ⟨Below.refl _ _, ⟨fun _ _ _ h => h.elim, fun _ _ h => h.elim, fun _ _ h => h.elim, fun _ _ h => h.elim, fun _ _ h => h.elim, fun _ _ h => h.elim, fun _ _ h => h.elim, fun _ _ h => h.elim⟩, hR, fun _ h => h, fun a ha => by omega, fun a _ h4 => ⟨hown a h4, fun _ _ _ h => h⟩⟩
 clear hR hown
 go_enter Tryz.func36, Tryz.ntmps36
 go_wp2_with fail
 go_loopw [3] (fun iv wr => ∃ (i : Nat) (f : Fm), i ≤ N ∧ iv = .int .i64 i ∧ PhA w wr lo R N V n i f) (fun iv _ => N - (intOf iv).toNat)
 case atStart => exact ⟨0, _, by omega, by go_num, A0⟩
 case round =>
  obtain ⟨i, f, hi4, rfl, A⟩ := hrel
  clear A0
  obtain ⟨W0, rfl⟩ : ∃ W0, W0 = wr := ⟨_, rfl⟩
  by_cases hlt : i < N
  ·have hrow := A.row i hlt
   obtain ⟨⟨xs, hx⟩, hd⟩ := A.raw i (Nat.le_refl _) hlt
   have hni := hn i hlt
   have hi0 : (0 : Int) ≤ (i : Int) := by omega
   have hi1 : (i : Int) < (N : Int) := by omega
   rcases hx.2 with ⟨hv, h0⟩ | ⟨g, cap, cur, hv, hg, hgg, hnc, hcm, hcs, _⟩
   ·have A' := A.skip hv h0
    rw [hv] at hrow
    clear A hx hd
    go_wp2_with fail
    refine wp_loop_rounds 1 ?_
    rw [rounds_succ]
    go_wp2_with fail
    go_roundw
    case rel => exact ⟨i + 1, f, by omega, by go_num, A'⟩
    case measure => simp [intOf]; omega
   ·have hgR : g ≠ R := fun e => hRn i hlt (by rw [hv, e]; rfl)
    have hds : ∀ a, i < a → a < N → (V a).ownBlock ≠ some g := fun a h1 h2 e => by
     have := hdis a i g h2 hlt e (by rw [hv]; rfl)
     omega
    rw [hv] at hrow
    have B0 : PhB W0 W0 g i cap 0 := ⟨rfl, rfl, rfl, rfl, fun _ _ => rfl, cur, hgg, hcs, fun j hj => by omega⟩
    have HR : Hid (R ≠ g) := Ne.symm hgR
    have hnm : n i ≤ 20000 := hni
    clear hx hd hgg hcs
    obtain ⟨M, hM⟩ : ∃ M, M = n i := ⟨_, rfl⟩
    rw [← hM] at hrow hnm hnc
    have HM : Hid (M = n i) := hM
    clear hM
    go_wp2_with fail
    go_loopw [4] (fun kv wq => ∃ k : Nat, k ≤ M ∧ kv = .int .i64 k ∧ PhB W0 wq g i cap k) (fun kv _ => M - (intOf kv).toNat)
    case atStart => exact ⟨0, by omega, by go_num, B0⟩
    case round =>
     obtain ⟨k, hk, rfl, B⟩ := hrel
     obtain ⟨wq, rfl⟩ : ∃ wq, wq = wr := ⟨_, rfl⟩
     obtain ⟨cur', c1, c2, c3⟩ := B.this
     have hrow' : wq.cell? ⟨R, i, none⟩ = some (.slice (some ⟨g, 0, none⟩) M cap) := by
      rw [World.cell?_of_block (a := ⟨R, i, none⟩) (B.other R HR.out)]
      exact hrow
     clear B0
     by_cases hkl : k < M
     ·have hk4 : k * 3 + 2 < cur'.size := by omega
      have q0 : wq.cell? ⟨g, k * 3, none⟩ = some cur'[k * 3] := (cell_block c1).trans (Array.getElem?_eq_getElem (by omega))
      have q1 : wq.cell? ⟨g, k * 3 + 1, none⟩ = some cur'[k * 3 + 1] := (cell_block c1).trans (Array.getElem?_eq_getElem (by omega))
      have q2 : wq.cell? ⟨g, k * 3 + 2, none⟩ = some cur'[k * 3 + 2] := (cell_block c1).trans (Array.getElem?_eq_getElem (by omega))
      have z0 : wq.frozen? ⟨g, k * 3, none⟩ = false := frozen_block c1
      have z1 : wq.frozen? ⟨g, k * 3 + 1, none⟩ = false := frozen_block c1
      have z2 : wq.frozen? ⟨g, k * 3 + 2, none⟩ = false := frozen_block c1
      generalize cur'[k * 3] = x0 at q0
      generalize cur'[k * 3 + 1] = x1 at q1
      generalize cur'[k * 3 + 2] = x2 at q2
      have B' := B.step (by omega : k < cap)
      clear B c1 c2 c3 hk4
      go_wp2_with fail
      go_roundw
      case rel => exact ⟨k + 1, by omega, by go_num, B'⟩
      case measure => simp [intOf]; omega
     ·have ek : k = n i := by have := HM.out; omega
      rw [ek] at B
      have A' := A.next hlt (by rw [hv, ← HM.out]) hg hgR (by rw [← HM.out]; exact hnc) hcm B hds
      clear A B c1 c2 c3
      go_wp2_with fail
      go_roundw
      case rel => exact ⟨i + 1, _, by omega, by go_num, A'⟩
      case measure => simp [intOf]; omega
  ·have e : i = N := by omega
   have hge : (N : Int) ≤ i := by omega
   rw [e] at A
   have C0 : PhC w W0 lo R N V n 0 0 f (.slice none 0 0) (.slice none 0 0) [] := ⟨A.bel, A.inv, A.row, A.notR, A.done, rfl, fun q hq => by omega, World.ownsRow_nil _ _ _ _, fun k hk => by simp [Value.ownBlock] at hk, World.ownsRow_nil _ _ _ _, fun k hk => by simp [Value.ownBlock] at hk, fun k hk => by simp [Value.ownBlock] at hk⟩
   clear A e hlt hi4
   obtain ⟨i4, rfl⟩ : ∃ i4, i4 = i := ⟨_, rfl⟩
   have hdf : decide (i4 < N) = false := decide_eq_false (by omega)
   go_wp2_with fail
   clear hdf hge
   go_loopw [5, 6, 7] (fun gv wv iv wr => ∃ (i : Nat) (f : Fm) (L : List Value), i ≤ N ∧ iv = .int .i64 i ∧ PhC w wr lo R N V n (10 * i) (10 * i) f gv wv L) (fun _ _ iv _ => N - (intOf iv).toNat)
   case atStart => exact ⟨0, f, [], by omega, by go_num, C0⟩
   case round =>
    obtain ⟨i, f, L, hi4, rfl, C⟩ := hrel
    obtain ⟨W1, rfl⟩ : ∃ W1, W1 = wr := ⟨_, rfl⟩
    clear C0
    by_cases hlt : i < N
    ·have hrow : ∀ o, (W1.alloc o).cell? ⟨R, i, none⟩ = some (V i) := fun o => (World.cell?_of_block (a := ⟨R, i, none⟩) (heap_alloc_old W1 o (Nat.lt_of_lt_of_le hRl C.bel.size))).trans (C.row i hlt)
     have hVi := C.vals i hlt
     have hlt' : (i : Int) < (N : Int) := by omega
     have hi0 : (0 : Int) ≤ (i : Int) := by omega
     have hni := hn i hlt
     obtain ⟨mb, HMB⟩ : ∃ mb, Hid (mb = W1.heap.size) := ⟨W1.heap.size, by show _ = _; rfl⟩
     obtain ⟨vi, HVI⟩ : ∃ vi, Hid (vi = V i) := ⟨V i, by show _ = _; rfl⟩
     rw [← HVI.out] at hrow hVi
     have C2 := C.below ((Below.refl _ _).alloc (Nat.le_refl _) (.cells #[mkV i, .string ⟨#[]⟩, .slice none 0 0] 29)) hRl hlw
     have hmb0 : (W1.alloc (.cells #[mkV i, .string ⟨#[]⟩, .slice none 0 0] 29)).heap[mb]? = some (.cells #[mkV i, .string ⟨#[]⟩, .slice none 0 0] 29 (0, 0)) := by rw [HMB.out]; exact heap_alloc_new W1 _
     have hmbD : ∀ j, ¬ f.D mb j := fun j hd => by have := C.inv.lt mb j hd; have := HMB.out; omega
     have hmbO : u5.ownBlock ≠ some mb := fun e => by have := (C.own.lt mb e).2; have := HMB.out; omega
     have hmbO2 : u6.ownBlock ≠ some mb := fun e => by have := (C.own2.lt mb e).2; have := HMB.out; omega
     go_wp2_with fail
     rw [← HMB.out]
     go_loopw [5, 6, 9, 10] (fun gv wv lv tv wr => ∃ (t : Nat) (f : Fm) (L : List Value), t ≤ 9 ∧ tv = .int .i64 t ∧ PhC w wr lo R N V n (10 * i + t) (10 * i + t) f gv wv L ∧ Val f i lv (n i + t) ∧ wr.heap[mb]? = some (.cells #[mkV i, .string ⟨#[]⟩, .slice none 0 0] 29 (0, 0)) ∧ (∀ j, ¬ f.D mb j) ∧ gv.ownBlock ≠ some mb ∧ wv.ownBlock ≠ some mb) (fun _ _ _ tv _ => 9 - (intOf tv).toNat)
     case atStart => exact ⟨0, f, L, by omega, by go_num, C2, hVi, hmb0, hmbD, hmbO, hmbO2⟩
     case round =>
      obtain ⟨t, f, L, ht, rfl, P, hl, hmb, hmD, hmO, hmO2⟩ := hrel
      obtain ⟨W2, rfl⟩ : ∃ W2, W2 = wr := ⟨_, rfl⟩
      obtain ⟨q0, q1, q2⟩ := heap_cells hmb
      have hmlt := lt_of_heap hmb
      clear C2 hmb0 hmbD hmbO hmbO2 C hVi
      have hsz2 := P.bel.size
      by_cases ht2 : t < 9
      ·obtain ⟨v', W', f', run, hI', hV', hext, hoff⟩ := fam_append lo (W2.alloc (.cells #[mkV i, .string ⟨#[]⟩, .slice none 0 0] 29)) f i (n i + t) 1 W2.heap.size u9 27 (0, 0) (P.inv.below ((Below.refl _ _).alloc (Nat.le_refl _) _)) (by simp; omega) hl (heap_alloc_new W2 _) (by omega) (by omega) (by omega)
       have PF := (P.below ((Below.refl _ _).alloc (Nat.le_refl _) (.cells #[mkV i, .string ⟨#[]⟩, .slice none 0 0] 29)) hRl hlw).fam hRl hlw hI' hext hoff
       obtain ⟨ad', cp', rfl⟩ := hV'.form
       have hdiv : (10 * i + t) / 10 = i := by omega
       have hsz' : W2.heap.size + 1 ≤ W'.heap.size := by have := hoff.size; simpa using this
       obtain ⟨mF1, mF2⟩ := hoff.block mb (by simp; omega) hmD
       have mF : W'.heap[mb]? = some (.cells #[mkV i, .string ⟨#[]⟩, .slice none 0 0] 29 (0, 0)) := mF1.trans ((Below.heap_alloc _ _ _ hmlt).trans hmb)
       have ownW := PF.own
       have HPF : Hid (PhC w W' lo R N V n (10 * i + t) (10 * i + t) f' u5 u6 L) := PF
       have HP2 : Hid (∀ (g' cap' : Nat) (W3 : World), W3.ownsRow w.heap.size 27 1 (.slice (some ⟨g', 0, none⟩) (10 * i + t + 1) cap') (10 * i + t + 1) (L ++ [.slice ad' (n i + t + 1) cp']) → (W'.alloc (.cells #[.slice ad' (n i + t + 1) cp'] 27)).grownBy W3 u5.ownBlock → (u5.ownBlock = some g' ∨ g' = W'.heap.size + 1) →
         PhC w W3 lo R N V n (10 * i + t + 1) (10 * i + t) f' (.slice (some ⟨g', 0, none⟩) (10 * i + t + 1) cap') u6 (L ++ [.slice ad' (n i + t + 1) cp']) ∧ W3.heap[mb]? = some (.cells #[mkV i, .string ⟨#[]⟩, .slice none 0 0] 29 (0, 0)) ∧ (Value.slice (some ⟨g', 0, none⟩) (10 * i + t + 1) cap').ownBlock ≠ some mb ∧ W'.heap.size + 1 ≤ W3.heap.size) := by
        intro g' cap' W3 hown3 hgr hat
        refine ⟨HPF.out.put hRl hlw (by rw [hdiv]; exact hV') (by omega) hown3 hgr hat, ?_, ?_, by have := hgr.size; simpa using this⟩
        ·rw [hgr.block mb (by simp; omega) (Ne.symm hmO), Below.heap_alloc _ _ _ (by omega)]
         exact mF
        ·intro e
         have e' : g' = mb := by simpa [Value.ownBlock] using e
         rcases hat with hat | hat
         ·exact hmO (by rw [hat, e'])
         ·omega
       have HIV : Hid (∀ (W3 : World) (gv : Value) (L' : List Value), PhC w W3 lo R N V n (10 * i + t + 1) (10 * i + t) f' gv u6 L' → W3.heap[mb]? = some (.cells #[mkV i, .string ⟨#[]⟩, .slice none 0 0] 29 (0, 0)) → ∀ (g' cap' : Nat) (W4 : World), W4.ownsRow w.heap.size 3 1 (.slice (some ⟨g', 0, none⟩) (10 * i + t + 1) cap') (10 * i + t + 1) ((List.range (10 * i + t)).map (fun q => (.int .i64 ((q / 10 : Nat) : Int) : Value)) ++ [.int .i64 (i : Int)]) → (W3.alloc (.cells #[.int .i64 (i : Int)] 3)).grownBy W4 u6.ownBlock → (u6.ownBlock = some g' ∨ g' = W3.heap.size + 1) →
         PhC w W4 lo R N V n (10 * i + t + 1) (10 * i + t + 1) f' gv (.slice (some ⟨g', 0, none⟩) (10 * i + t + 1) cap') L' ∧ W4.heap[mb]? = some (.cells #[mkV i, .string ⟨#[]⟩, .slice none 0 0] 29 (0, 0)) ∧ (Value.slice (some ⟨g', 0, none⟩) (10 * i + t + 1) cap').ownBlock ≠ some mb) := by
        intro W3 gv L' PP mb3 g' cap' W4 hown4 hgr hat
        have hmb3 := lt_of_heap mb3
        refine ⟨PP.put2 hRl hlw (by rw [hdiv]; exact hown4) hgr hat, ?_, ?_⟩
        ·rw [hgr.block mb (by simp; omega) (Ne.symm hmO2), Below.heap_alloc _ _ _ hmb3]
         exact mb3
        ·intro e
         have e' : g' = mb := by simpa [Value.ownBlock] using e
         rcases hat with hat | hat
         ·exact hmO2 (by rw [hat, e'])
         ·omega
       have HV' : Hid (Val f' i (.slice ad' (n i + t + 1) cp') (n i + t + 1)) := hV'
       have HmD : Hid (∀ j, ¬ f'.D mb j) := mF2
       clear PF hoff hI' hext mF mF1 mF2 hV' P hl hmb hmD hmO hmO2
       go_wp2_with (first | (at_builtin; refine Lib.wpList_append_run _ rfl _ _ 27 27 rfl _ _ rfl rfl _ _ run ?_; clear run) | (at_builtin; refine wpList_append_lies _ rfl _ _ 70 rfl w.heap.size 27 i0 _ 1 24 Tryz.underlying70 hi hz0 hz1 hz2 rfl (by decide) _ _ _ rfl (ownW.alloc _) ⟨W'.heap.size, 0, none⟩ 1 1 [.slice ad' (n i + t + 1) cp'] rfl rfl (World.news_of_block (heap_alloc_new W' _)) (by intro u hu; simp at hu; subst hu; rfl) (by omega) (by unfold maxLen; omega) (by omega) (by simp; omega) (W'.heap.size + 1) (by simp) ?_; intro g' cap' W3 hown3 hgr3 hat3 hlt3; obtain ⟨PP, mb3, mo3, hs3⟩ := HP2.out g' cap' W3 hown3 hgr3 hat3; have own2 := PP.own2; clear ownW hown3 hgr3 hat3) | (at_builtin; refine wpList_append_lies _ rfl _ _ 72 rfl w.heap.size 3 j0 _ 1 8 Tryz.underlying72 ji jz0 jz1 jz2 rfl (by decide) _ _ _ rfl (own2.alloc _) ⟨W3.heap.size, 0, none⟩ 1 1 [.int .i64 (i : Int)] rfl rfl (World.news_of_block (heap_alloc_new W3 _)) (by intro u hu; simp at hu; subst hu; rfl) (by omega) (by unfold maxLen; omega) (by omega) (by simp; omega) (W3.heap.size + 1) (by simp) ?_; intro g4 cap4 W4 hown4 hgr4 hat4 hlt4; obtain ⟨P4, mb4, mo4⟩ := HIV.out W3 _ _ PP mb3 g4 cap4 W4 hown4 hgr4 hat4; clear own2 hown4 hgr4 hat4))
       go_roundw
       case rel => exact ⟨t + 1, f', _, by omega, by go_num, P4, HV'.out, mb4, HmD.out, mo3, mo4⟩
       case measure => simp [intOf]; omega
      ·have et : t = 9 := by omega
       have ht2' : ¬ (t : Int) < 9 := by omega
       have hdiv : (10 * i + t) / 10 = i := by omega
       have hrR : W2.cell? ⟨R, i, none⟩ = some vi := (P.row i hlt).trans (by rw [HVI.out])
       have hVi := P.vals i hlt
       rw [← HVI.out] at hVi
       have hone := hVi.one
       have ownW := P.own
       have HP : Hid (PhC w W2 lo R N V n (10 * i + t) (10 * i + t) f u5 u6 L) := P
       have HVi : Hid (Val f i vi (n i)) := hVi
       have ET : Hid (t = 9) := et
       obtain ⟨av, cv, hvf⟩ := hVi.form
       rw [hvf] at hrR hone
       have HVF : Hid (vi = .slice av (n i) cv) := hvf
       have ST3 : Hid (∀ (g' cap' : Nat) (W3 : World), W3.ownsRow w.heap.size 27 1 (.slice (some ⟨g', 0, none⟩) (10 * i + t + 1) cap') (10 * i + t + 1) (L ++ [.slice av (n i) cv]) → (W2.alloc (.cells #[.slice av (n i) cv] 27)).grownBy W3 u5.ownBlock → (u5.ownBlock = some g' ∨ g' = W2.heap.size + 1) →
         PhC w W3 lo R N V n (10 * i + t + 1) (10 * i + t) f (.slice (some ⟨g', 0, none⟩) (10 * i + t + 1) cap') u6 (L ++ [.slice av (n i) cv]) ∧ W2.heap.size + 1 ≤ W3.heap.size) := by
        intro g' cap' W3 hown3 hgr hat
        have hv := HVi.out
        rw [HVF.out] at hv
        exact ⟨HP.out.put hRl hlw (by rw [hdiv]; exact hv) (by omega) hown3 hgr hat, by have := hgr.size; simpa using this⟩
       have ST4 : Hid (∀ (W3 : World) (gv : Value) (L' : List Value), PhC w W3 lo R N V n (10 * i + t + 1) (10 * i + t) f gv u6 L' → ∀ (g' cap' : Nat) (W4 : World), W4.ownsRow w.heap.size 3 1 (.slice (some ⟨g', 0, none⟩) (10 * i + t + 1) cap') (10 * i + t + 1) ((List.range (10 * i + t)).map (fun q => (.int .i64 ((q / 10 : Nat) : Int) : Value)) ++ [.int .i64 (i : Int)]) → (W3.alloc (.cells #[.int .i64 (i : Int)] 3)).grownBy W4 u6.ownBlock → (u6.ownBlock = some g' ∨ g' = W3.heap.size + 1) →
         PhC w W4 lo R N V n (10 * i + t + 1) (10 * i + t + 1) f gv (.slice (some ⟨g', 0, none⟩) (10 * i + t + 1) cap') L') := by
        intro W3 gv L' PP g' cap' W4 hown4 hgr hat
        exact PP.put2 hRl hlw (by rw [hdiv]; exact hown4) hgr hat
       clear P hl hmb hmD hmO hmO2 q0 q1 q2 hVi et hrow ht2 ht hdiv hvf
       go_wp2_with (first | (at_builtin; refine wpList_append_lies _ rfl _ _ 70 rfl w.heap.size 27 i0 _ 1 24 Tryz.underlying70 hi hz0 hz1 hz2 rfl (by decide) _ _ _ rfl (ownW.alloc _) ⟨W2.heap.size, 0, none⟩ 1 1 [.slice av (n i) cv] rfl rfl (World.news_of_block (heap_alloc_new W2 _)) (by intro u hu; simp at hu; subst hu; rfl) (by omega) (by have := ET.out; unfold maxLen; omega) (by have := ET.out; omega) (by simp; omega) (W2.heap.size + 1) (by simp) ?_; intro g' cap' W3 hown3 hgr3 hat3 hlt3; obtain ⟨PP, hs3⟩ := ST3.out g' cap' W3 hown3 hgr3 hat3; have own2 := PP.own2; clear ownW hown3 hgr3 hat3) | (at_builtin; refine wpList_append_lies _ rfl _ _ 72 rfl w.heap.size 3 j0 _ 1 8 Tryz.underlying72 ji jz0 jz1 jz2 rfl (by decide) _ _ _ rfl (own2.alloc _) ⟨W3.heap.size, 0, none⟩ 1 1 [.int .i64 (i : Int)] rfl rfl (World.news_of_block (heap_alloc_new W3 _)) (by intro u hu; simp at hu; subst hu; rfl) (by omega) (by have := ET.out; unfold maxLen; omega) (by have := ET.out; omega) (by simp; omega) (W3.heap.size + 1) (by simp) ?_; intro g4 cap4 W4 hown4 hgr4 hat4 hlt4; have P4 := ST4.out W3 _ _ PP g4 cap4 W4 hown4 hgr4 hat4; clear own2 hown4 hgr4 hat4))
       go_roundw
       case rel => exact ⟨i + 1, f, _, by omega, by go_num, by have := ET.out; rw [show 10 * (i + 1) = 10 * i + t + 1 by omega]; exact P4⟩
       case measure => simp [intOf]; omega
    ·have e4 : i = N := by omega
     have hge3 : (N : Int) ≤ i := by omega
     rw [e4] at C
     obtain ⟨gb, cb, rfl, _, _⟩ := C.own.form (by omega)
     obtain ⟨hb, hc, rfl, _, _⟩ := C.own2.form (by omega)
     have IV : Hid (Inv lo W1 f) := C.inv
     have GR : Hid (∀ q, q < 10 * N → ∃ m u, m ≤ 30000 ∧ W1.cell? ⟨gb, q, none⟩ = some u ∧ W1.cell? ⟨hb, q, none⟩ = some (.int .i64 ((q / 10 : Nat) : Int)) ∧ Val f (q / 10) u m) := fun q hq => by
      obtain ⟨m, u, h1, h2, h3⟩ := C.each q (by omega)
      exact ⟨m, u, h1, (C.own.cellAt q (by omega)).trans h2, (C.own2.cellAt q (by omega)).trans (by simp [hq]), h3⟩
     have BL : Hid (Below lo w W1) := C.bel
     have hcb : 10 * N ≤ cb := by
      rcases C.own.2 with ⟨h', _⟩ | ⟨g'', cap'', cur'', h', _, _, hnc, _⟩
      ·simp at h'
      ·simp only [Value.slice.injEq, Option.some.injEq, Addr.mk.injEq, and_true, true_and] at h'
       omega
     have hch : 10 * N ≤ hc := by
      rcases C.own2.2 with ⟨h', _⟩ | ⟨g'', cap'', cur'', h', _, _, hnc, _⟩
      ·simp at h'
      ·simp only [Value.slice.injEq, Option.some.injEq, Addr.mk.injEq, and_true, true_and] at h'
       omega
     clear C e4 hlt hi4 hdis hRn
     obtain ⟨i3, rfl⟩ : ∃ i3, i3 = i := ⟨_, rfl⟩
     have hdf3 : decide (i3 < N) = false := decide_eq_false (by omega)
     go_wp2_with fail
     clear hdf3 hge3
     go_loopw [11] (fun av wr => ∃ a q : Nat, a ≤ 10 * N ∧ av = .int .i64 a ∧ wr = W1.drewN q) (fun av _ => 10 * N - (intOf av).toNat)
     case atStart => exact ⟨0, 0, by omega, by go_num, rfl⟩
     case round =>
      obtain ⟨a, q, ha4, rfl, rfl⟩ := hrel
      by_cases ha : a < 10 * N
      ·have ha' : (a : Int) < ((10 * N : Nat) : Int) := by omega
       have ha0 : (0 : Int) ≤ (a : Int) := by omega
       obtain ⟨m, u, hm3, LDA, LDB, hVal⟩ := GR.out a ha
       rcases hVal with ⟨hnil, hm0⟩ | ⟨gg, hsl, hD, hmM⟩
       ·rw [hnil] at LDA
        go_wp2_with fail
        refine wp_loop_rounds 1 ?_
        rw [rounds_succ]
        go_wp2_with fail
        go_roundw
        case rel => exact ⟨a + 1, q, by omega, by go_num, by first | rfl | trivial⟩
        case measure => simp [intOf]; omega
       ·rw [hsl] at LDA
        have HM : Hid (∀ k, k < m → W1.cell? ⟨gg, k * 3, none⟩ = some (mkV (a / 10))) := fun k hk => IV.out.mark gg (a / 10) hD k (by omega)
        have HCm : Hid (m ≤ f.C gg) := by have := IV.out.mc gg (a / 10) hD; show m ≤ f.C gg; omega
        generalize f.C gg = cc at LDA HCm
        have hcc := HCm.out
        have hwr : IntKind.i64.wrap (-1 - ((a / 10 : Nat) : Int)) = -1 - ((a / 10 : Nat) : Int) := by rw [IntKind.wrap_i64]; omega
        generalize a / 10 = ai at *
        clear hD hmM hsl
        go_wp2_with fail
        go_loopw [12] (fun kv wr => ∃ k q : Nat, k ≤ m ∧ kv = .int .i64 k ∧ wr = W1.drewN q) (fun kv _ => m - (intOf kv).toNat)
        case atStart => exact ⟨0, q, by omega, by go_num, rfl⟩
        case round =>
         obtain ⟨k, q, hk, rfl, rfl⟩ := hrel
         by_cases hkm : k < m
         ·have qk := HM.out k hkm
          have k0 : (0 : Int) ≤ (k : Int) := by omega
          have k1 : (k : Int) < (m : Int) := by omega
          go_wp2_with fail
          go_quiet (fail)
          go_wp2_with fail
          go_roundw
          case rel => exact ⟨k + 1, q + nq, by omega, by go_num, by first | rfl | trivial⟩
          case measure => simp [intOf]; omega
         ·go_wp2_with fail
          go_roundw
          case rel => exact ⟨a + 1, q, by omega, by go_num, by first | rfl | trivial⟩
          case measure => simp [intOf]; omega
      ·have ha' : ¬ (a : Int) < ((10 * N : Nat) : Int) := by omega
       go_wp2_with fail
       go_ret
       exact ⟨rfl, BL.out.os, BL.out.tape, BL.out.output, BL.out.size, BL.out.block⟩
end Go.Proofs.YtikpipenhamdbaaGreat

namespace Go.Proofs.YtikpipenhamdbaaGreat
open Go.RowKit

set_option maxHeartbeats 4000000 in
set_option maxRecDepth 10000 in
theorem owned_zero (w : World) (lo : Nat) (ad : Option Addr) (cap : Nat) : Calls Tryz.prog 36 #[.slice ad 0 cap] w fun e w' => e = .returned (.bool true) ∧ Below lo w w' := by
 go_enter Tryz.func36, Tryz.ntmps36
 go_wp2
 refine wp_loop_rounds 1 ?_
 rw [rounds_succ]
 go_wp2
 refine wp_loop_rounds 1 ?_
 rw [rounds_succ]
 go_wp2
 refine wp_loop_rounds 1 ?_
 rw [rounds_succ]
 go_wp2
 go_ret
 exact ⟨rfl, Below.refl _ _⟩
/-- owned of a list of rows. -/
theorem owned_rows (w : World) (lo B : Nat) (gv : Value) (rws : List (Value × Nat)) (hlw : lo ≤ w.heap.size) (hrow : w.ownsRow B 27 1 gv rws.length (rws.map (·.1))) (hn : rws.length ≤ 500000000000) (heach : ∀ p ∈ rws, ∃ xs, w.ownsRow lo 29 3 p.1 p.2 xs) (h6 : ∀ p ∈ rws, p.2 ≤ 20000) (hsep : Sep B rws) :
  Calls Tryz.prog 36 #[gv] w fun e w' => e = .returned (.bool true) ∧ Below lo w w' := by
 by_cases h0 : rws.length = 0
 ·obtain ⟨ad, cap, rfl⟩ : ∃ ad cap, gv = .slice ad 0 cap := by
   rcases hrow.2 with ⟨e1, _⟩ | ⟨g, cap, _, e1, _⟩
   ·exact ⟨none, 0, e1⟩
   ·exact ⟨_, cap, by rw [e1, h0]⟩
  exact owned_zero w lo ad cap
 ·obtain ⟨R, cap, rfl, hRB, hRl⟩ := hrow.form (by omega)
  have hcap : rws.length ≤ cap := by
   rcases hrow.2 with ⟨_, h'⟩ | ⟨g', cap', cur, h', _, _, hc, _⟩
   ·omega
   ·simp only [Value.slice.injEq, Option.some.injEq, Addr.mk.injEq, and_true, true_and] at h'
    omega
  have hget : ∀ i (h : i < rws.length), (rws[i]?.map (·.1)).getD undef = rws[i].1 := fun i h => by rw [List.getElem?_eq_getElem h]; rfl
  have hget2 : ∀ i (h : i < rws.length), (rws[i]?.map (·.2)).getD 0 = rws[i].2 := fun i h => by rw [List.getElem?_eq_getElem h]; rfl
  refine owned_any w R lo rws.length cap (fun i => (rws[i]?.map (·.1)).getD undef) (fun i => (rws[i]?.map (·.2)).getD 0) hlw hRl (by omega) hn hcap ?_ ?_ ?_ ?_ ?_
  ·intro i hi
   show _ = some ((rws[i]?.map (·.1)).getD undef)
   rw [hget i hi, hrow.cellAt i (by omega)]
   simp [hi]
  ·intro i hi
   show ∃ xs, w.ownsRow lo 29 3 ((rws[i]?.map (·.1)).getD undef) ((rws[i]?.map (·.2)).getD 0) xs
   rw [hget i hi, hget2 i hi]
   exact heach _ (List.getElem_mem hi)
  ·intro i hi
   show (rws[i]?.map (·.2)).getD 0 ≤ 20000
   rw [hget2 i hi]
   exact h6 _ (List.getElem_mem hi)
  ·intro i j g hi hj e1 e2
   have e1 : ((rws[i]?.map (·.1)).getD undef).ownBlock = some g := e1
   have e2 : ((rws[j]?.map (·.1)).getD undef).ownBlock = some g := e2
   rw [hget i hi] at e1
   rw [hget j hj] at e2
   have hnd := hsep.2
   have := (List.getElem_inj (i := i) (j := j) (h₀ := by simpa using hi) (h₁ := by simpa using hj) hnd).1 (by simp [e1, e2])
   exact this
  ·intro i hi
   show ((rws[i]?.map (·.1)).getD undef).ownBlock ≠ some R
   rw [hget i hi]
   intro e
   obtain ⟨g, e1, hg⟩ := hsep.1 _ (List.getElem_mem hi)
   rw [e1] at e
   have := Option.some.inj e
   omega
end Go.Proofs.YtikpipenhamdbaaGreat
