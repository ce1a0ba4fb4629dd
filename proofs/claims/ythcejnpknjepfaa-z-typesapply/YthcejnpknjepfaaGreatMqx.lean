/- owned answers true of rows that are their owner's. TypesRead answers true, whatever texts it is handed, if Read and awake answer as the document says and what Read answers is its owner's. -/
import Derived.Test.YthcejnpknjepfaaGreatMkx
import Derived.Deep.RegionHeldLaw
import Derived.Deep.Cut
import Derived.Lib.SlBuf
import Derived.Deep.QuietTactic
import Derived.BigQuiet
import Derived.Test.YthcejnpknjepfaaGreatMpx
import Derived.Test.YthcejnpknjepfaaGreatMix
import Derived.Deep.Onto
import Derived.Test.YthcejnpknjepfaaGreatMjx
namespace Go.Proofs.YthcejnpknjepfaaGreat
open Go.RowKit

theorem Tryz.info23 : (Tryz.prog.info? 23).map (fun i => (i.zero, i.size, i.bytes)) = some (some (.slice none 0 0), 1, 24) := by kernel_rfl
set_option maxHeartbeats 8000000 in
set_option maxRecDepth 10000 in
theorem owned_any (w : World) (R lo N capR : Nat) (V : Nat → Value) (n : Nat → Nat) (hlw : lo ≤ w.heap.size) (hRl : R < w.heap.size) (hN0 : 0 < N) (hN : N ≤ 1000000) (_hcR : N ≤ capR) (hR : ∀ i, i < N → w.cell? ⟨R, i, none⟩ = some (V i)) (hown : ∀ i, i < N → ∃ xs, w.ownsRow lo 25 3 (V i) (n i) xs) (hn : ∀ i, i < N → n i ≤ 20000)
    (hdis : ∀ i j g, i < N → j < N → (V i).ownBlock = some g → (V j).ownBlock = some g → i = j) (hRn : ∀ i, i < N → (V i).ownBlock ≠ some R) :
    Calls Tryz.prog 11 #[.slice (some ⟨R, 0, none⟩) N capR] w fun e w' => e = .returned (.bool true) ∧ Below lo w w' := by
  obtain ⟨i0, hi, hz0, hz1, hz2⟩ := info_parts Tryz.info23
  obtain ⟨j0, ji, jz0, jz1, jz2⟩ := info_parts Tryz.info3
  have A0 : PhA w w lo R N V n 0 { D := fun _ _ => False, M := fun _ => 0, C := fun _ => 0 } :=
    ⟨Below.refl _ _, ⟨fun _ _ _ h => h.elim, fun _ _ h => h.elim, fun _ _ h => h.elim, fun _ _ h => h.elim, fun _ _ h => h.elim, fun _ _ h => h.elim, fun _ _ h => h.elim, fun _ _ h => h.elim⟩, hR, fun _ h => h, fun a ha => by omega, fun a _ h4 => ⟨hown a h4, fun _ _ _ h => h⟩⟩
  clear hR hown
  go_enter Tryz.func11, Tryz.ntmps11
  go_wp2_with fail
  go_loopw [3] (fun iv wr => ∃ (i : Nat) (f : Fm), i ≤ N ∧ iv = .int .i64 i ∧ PhA w wr lo R N V n i f) (fun iv _ => N - (intOf iv).toNat)
  case atStart => exact ⟨0, _, by omega, by go_num, A0⟩
  case round =>
    obtain ⟨i, f, hi4, rfl, A⟩ := hrel
    clear A0
    obtain ⟨W0, rfl⟩ : ∃ W0, W0 = wr := ⟨_, rfl⟩
    by_cases hlt : i < N
    · have hrow := A.row i hlt
      obtain ⟨⟨xs, hx⟩, hd⟩ := A.raw i (Nat.le_refl _) hlt
      have hni := hn i hlt
      have hi0 : (0 : Int) ≤ (i : Int) := by omega
      have hi1 : (i : Int) < (N : Int) := by omega
      rcases hx.2 with ⟨hv, h0⟩ | ⟨g, cap, cur, hv, hg, hgg, hnc, hcm, hcs, _⟩
      · have A' := A.skip hv h0
        rw [hv] at hrow
        clear A hx hd
        go_wp2_with fail
        refine wp_loop_rounds 1 ?_
        rw [rounds_succ]
        go_wp2_with fail
        go_roundw
        case rel => exact ⟨i + 1, f, by omega, by go_num, A'⟩
        case measure => simp [intOf]; omega
      · have hgR : g ≠ R := fun e => hRn i hlt (by rw [hv, e]; rfl)
        have hds : ∀ a, i < a → a < N → (V a).ownBlock ≠ some g := fun a h1 h2 e => by
          have := hdis a i g h2 hlt e (by rw [hv]; rfl)
          omega
        rw [hv] at hrow
        have B0 : PhB W0 W0 g i cap 0 := ⟨rfl, rfl, rfl, rfl, fun _ _ => rfl, cur, hgg, hcs, fun j hj => by omega⟩
        have HR : Hid (R ≠ g) := Ne.symm hgR
        have hnm : n i ≤ 20000 := hni
        clear hx hd hgg hcs
        obtain ⟨M, hM⟩ : ∃ M, M = n i := ⟨_, rfl⟩
        rw [← hM] at hrow hnm hnc
        have HM : Hid (M = n i) := hM
        clear hM
        go_wp2_with fail
        go_loopw [4] (fun kv wq => ∃ k : Nat, k ≤ M ∧ kv = .int .i64 k ∧ PhB W0 wq g i cap k) (fun kv _ => M - (intOf kv).toNat)
        case atStart => exact ⟨0, by omega, by go_num, B0⟩
        case round =>
          obtain ⟨k, hk, rfl, B⟩ := hrel
          obtain ⟨wq, rfl⟩ : ∃ wq, wq = wr := ⟨_, rfl⟩
          obtain ⟨cur', c1, c2, c3⟩ := B.this
          have hrow' : wq.cell? ⟨R, i, none⟩ = some (.slice (some ⟨g, 0, none⟩) M cap) := by
            rw [World.cell?_of_block (a := ⟨R, i, none⟩) (B.other R HR.out)]
            exact hrow
          clear B0
          by_cases hkl : k < M
          · have hk4 : k * 3 + 2 < cur'.size := by omega
            have q0 : wq.cell? ⟨g, k * 3, none⟩ = some cur'[k * 3] := (cell_block c1).trans (Array.getElem?_eq_getElem (by omega))
            have q1 : wq.cell? ⟨g, k * 3 + 1, none⟩ = some cur'[k * 3 + 1] := (cell_block c1).trans (Array.getElem?_eq_getElem (by omega))
            have q2 : wq.cell? ⟨g, k * 3 + 2, none⟩ = some cur'[k * 3 + 2] := (cell_block c1).trans (Array.getElem?_eq_getElem (by omega))
            have z0 : wq.frozen? ⟨g, k * 3, none⟩ = false := frozen_block c1
            have z1 : wq.frozen? ⟨g, k * 3 + 1, none⟩ = false := frozen_block c1
            have z2 : wq.frozen? ⟨g, k * 3 + 2, none⟩ = false := frozen_block c1
            generalize cur'[k * 3] = x0 at q0
            generalize cur'[k * 3 + 1] = x1 at q1
            generalize cur'[k * 3 + 2] = x2 at q2
            have B' := B.step (by omega : k < cap)
            clear B c1 c2 c3 hk4
            go_wp2_with fail
            go_roundw
            case rel => exact ⟨k + 1, by omega, by go_num, B'⟩
            case measure => simp [intOf]; omega
          · have ek : k = n i := by have := HM.out; omega
            rw [ek] at B
            have A' := A.next hlt (by rw [hv, ← HM.out]) hg hgR (by rw [← HM.out]; exact hnc) hcm B hds
            clear A B c1 c2 c3
            go_wp2_with fail
            go_roundw
            case rel => exact ⟨i + 1, _, by omega, by go_num, A'⟩
            case measure => simp [intOf]; omega
    · have e : i = N := by omega
      have hge : (N : Int) ≤ i := by omega
      rw [e] at A
      have C0 : PhC w W0 lo R N V n 0 0 f (.slice none 0 0) (.slice none 0 0) [] := ⟨A.bel, A.inv, A.row, A.notR, A.done, rfl, fun q hq => by omega, World.ownsRow_nil _ _ _ _, fun k hk => by simp [Value.ownBlock] at hk, World.ownsRow_nil _ _ _ _, fun k hk => by simp [Value.ownBlock] at hk, fun k hk => by simp [Value.ownBlock] at hk⟩
      clear A e hlt hi4
      obtain ⟨i4, rfl⟩ : ∃ i4, i4 = i := ⟨_, rfl⟩
      have hdf : decide (i4 < N) = false := decide_eq_false (by omega)
      go_wp2_with fail
      clear hdf hge
      go_loopw [5, 6, 7] (fun gv wv iv wr => ∃ (i : Nat) (f : Fm) (L : List Value), i ≤ N ∧ iv = .int .i64 i ∧ PhC w wr lo R N V n (10 * i) (10 * i) f gv wv L) (fun _ _ iv _ => N - (intOf iv).toNat)
      case atStart => exact ⟨0, f, [], by omega, by go_num, C0⟩
      case round =>
        obtain ⟨i, f, L, hi4, rfl, C⟩ := hrel
        obtain ⟨W1, rfl⟩ : ∃ W1, W1 = wr := ⟨_, rfl⟩
        clear C0
        by_cases hlt : i < N
        · have hrow : ∀ o, (W1.alloc o).cell? ⟨R, i, none⟩ = some (V i) := fun o => (World.cell?_of_block (a := ⟨R, i, none⟩) (heap_alloc_old W1 o (Nat.lt_of_lt_of_le hRl C.bel.size))).trans (C.row i hlt)
          have hVi := C.vals i hlt
          have hlt' : (i : Int) < (N : Int) := by omega
          have hi0 : (0 : Int) ≤ (i : Int) := by omega
          have hni := hn i hlt
          obtain ⟨mb, HMB⟩ : ∃ mb, Hid (mb = W1.heap.size) := ⟨W1.heap.size, by show _ = _; rfl⟩
          obtain ⟨vi, HVI⟩ : ∃ vi, Hid (vi = V i) := ⟨V i, by show _ = _; rfl⟩
          rw [← HVI.out] at hrow hVi
          have C2 := C.below ((Below.refl _ _).alloc (Nat.le_refl _) (.cells #[mkV i, .string ⟨#[]⟩, .slice none 0 0] 25)) hRl hlw
          have hmb0 : (W1.alloc (.cells #[mkV i, .string ⟨#[]⟩, .slice none 0 0] 25)).heap[mb]? = some (.cells #[mkV i, .string ⟨#[]⟩, .slice none 0 0] 25 (0, 0)) := by rw [HMB.out]; exact heap_alloc_new W1 _
          have hmbD : ∀ j, ¬ f.D mb j := fun j hd => by have := C.inv.lt mb j hd; have := HMB.out; omega
          have hmbO : u5.ownBlock ≠ some mb := fun e => by have := (C.own.lt mb e).2; have := HMB.out; omega
          have hmbO2 : u6.ownBlock ≠ some mb := fun e => by have := (C.own2.lt mb e).2; have := HMB.out; omega
          go_wp2_with fail
          rw [← HMB.out]
          go_loopw [5, 6, 9, 10] (fun gv wv lv tv wr => ∃ (t : Nat) (f : Fm) (L : List Value), t ≤ 9 ∧ tv = .int .i64 t ∧ PhC w wr lo R N V n (10 * i + t) (10 * i + t) f gv wv L ∧ Val f i lv (n i + t) ∧ wr.heap[mb]? = some (.cells #[mkV i, .string ⟨#[]⟩, .slice none 0 0] 25 (0, 0)) ∧ (∀ j, ¬ f.D mb j) ∧ gv.ownBlock ≠ some mb ∧ wv.ownBlock ≠ some mb) (fun _ _ _ tv _ => 9 - (intOf tv).toNat)
          case atStart => exact ⟨0, f, L, by omega, by go_num, C2, hVi, hmb0, hmbD, hmbO, hmbO2⟩
          case round =>
            obtain ⟨t, f, L, ht, rfl, P, hl, hmb, hmD, hmO, hmO2⟩ := hrel
            obtain ⟨W2, rfl⟩ : ∃ W2, W2 = wr := ⟨_, rfl⟩
            obtain ⟨q0, q1, q2⟩ := heap_cells hmb
            have hmlt := heap_lt hmb
            clear C2 hmb0 hmbD hmbO hmbO2 C hVi
            have hsz2 := P.bel.size
            by_cases ht2 : t < 9
            · obtain ⟨v', W', f', run, hI', hV', hext, hoff⟩ := fam_append lo (W2.alloc (.cells #[mkV i, .string ⟨#[]⟩, .slice none 0 0] 25)) f i (n i + t) 1 W2.heap.size u9 23 (0, 0) (P.inv.below ((Below.refl _ _).alloc (Nat.le_refl _) _)) (by simp; omega) hl (heap_alloc_new W2 _) (by omega) (by omega) (by omega)
              have PF := (P.below ((Below.refl _ _).alloc (Nat.le_refl _) (.cells #[mkV i, .string ⟨#[]⟩, .slice none 0 0] 25)) hRl hlw).fam hRl hlw hI' hext hoff
              obtain ⟨ad', cp', rfl⟩ := hV'.form
              have hdiv : (10 * i + t) / 10 = i := by omega
              have hsz' : W2.heap.size + 1 ≤ W'.heap.size := by have := hoff.size; simpa using this
              obtain ⟨mF1, mF2⟩ := hoff.block mb (by simp; omega) hmD
              have mF : W'.heap[mb]? = some (.cells #[mkV i, .string ⟨#[]⟩, .slice none 0 0] 25 (0, 0)) := mF1.trans ((Below.heap_alloc _ _ _ hmlt).trans hmb)
              have ownW := PF.own
              have HPF : Hid (PhC w W' lo R N V n (10 * i + t) (10 * i + t) f' u5 u6 L) := PF
              have HP2 : Hid (∀ (g' cap' : Nat) (W3 : World), W3.ownsRow w.heap.size 23 1 (.slice (some ⟨g', 0, none⟩) (10 * i + t + 1) cap') (10 * i + t + 1) (L ++ [.slice ad' (n i + t + 1) cp']) → (W'.alloc (.cells #[.slice ad' (n i + t + 1) cp'] 23)).grownBy W3 u5.ownBlock → (u5.ownBlock = some g' ∨ g' = W'.heap.size + 1) →
                  PhC w W3 lo R N V n (10 * i + t + 1) (10 * i + t) f' (.slice (some ⟨g', 0, none⟩) (10 * i + t + 1) cap') u6 (L ++ [.slice ad' (n i + t + 1) cp']) ∧ W3.heap[mb]? = some (.cells #[mkV i, .string ⟨#[]⟩, .slice none 0 0] 25 (0, 0)) ∧ (Value.slice (some ⟨g', 0, none⟩) (10 * i + t + 1) cap').ownBlock ≠ some mb ∧ W'.heap.size + 1 ≤ W3.heap.size) := by
                intro g' cap' W3 hown3 hgr hat
                refine ⟨HPF.out.put hRl hlw (by rw [hdiv]; exact hV') (by omega) hown3 hgr hat, ?_, ?_, by have := hgr.size; simpa using this⟩
                · rw [hgr.block mb (by simp; omega) (Ne.symm hmO), Below.heap_alloc _ _ _ (by omega)]
                  exact mF
                · intro e
                  have e' : g' = mb := by simpa [Value.ownBlock] using e
                  rcases hat with hat | hat
                  · exact hmO (by rw [hat, e'])
                  · omega
              have HIV : Hid (∀ (W3 : World) (gv : Value) (L' : List Value), PhC w W3 lo R N V n (10 * i + t + 1) (10 * i + t) f' gv u6 L' → W3.heap[mb]? = some (.cells #[mkV i, .string ⟨#[]⟩, .slice none 0 0] 25 (0, 0)) → ∀ (g' cap' : Nat) (W4 : World), W4.ownsRow w.heap.size 3 1 (.slice (some ⟨g', 0, none⟩) (10 * i + t + 1) cap') (10 * i + t + 1) ((List.range (10 * i + t)).map (fun q => (.int .i64 ((q / 10 : Nat) : Int) : Value)) ++ [.int .i64 (i : Int)]) → (W3.alloc (.cells #[.int .i64 (i : Int)] 3)).grownBy W4 u6.ownBlock → (u6.ownBlock = some g' ∨ g' = W3.heap.size + 1) →
                  PhC w W4 lo R N V n (10 * i + t + 1) (10 * i + t + 1) f' gv (.slice (some ⟨g', 0, none⟩) (10 * i + t + 1) cap') L' ∧ W4.heap[mb]? = some (.cells #[mkV i, .string ⟨#[]⟩, .slice none 0 0] 25 (0, 0)) ∧ (Value.slice (some ⟨g', 0, none⟩) (10 * i + t + 1) cap').ownBlock ≠ some mb) := by
                intro W3 gv L' PP mb3 g' cap' W4 hown4 hgr hat
                have hmb3 := heap_lt mb3
                refine ⟨PP.put2 hRl hlw (by rw [hdiv]; exact hown4) hgr hat, ?_, ?_⟩
                · rw [hgr.block mb (by simp; omega) (Ne.symm hmO2), Below.heap_alloc _ _ _ hmb3]
                  exact mb3
                · intro e
                  have e' : g' = mb := by simpa [Value.ownBlock] using e
                  rcases hat with hat | hat
                  · exact hmO2 (by rw [hat, e'])
                  · omega
              have HV' : Hid (Val f' i (.slice ad' (n i + t + 1) cp') (n i + t + 1)) := hV'
              have HmD : Hid (∀ j, ¬ f'.D mb j) := mF2
              clear PF hoff hI' hext mF mF1 mF2 hV' P hl hmb hmD hmO hmO2
              go_wp2_with (first | (at_builtin; refine Lib.wpList_append_run _ rfl _ _ 23 23 rfl _ _ rfl rfl _ _ run ?_; clear run) | (at_builtin; refine wpList_append_lies _ rfl _ _ 30 rfl w.heap.size 23 i0 _ 1 24 Tryz.underlying30 hi hz0 hz1 hz2 rfl (by decide) _ _ _ rfl (ownW.alloc _) ⟨W'.heap.size, 0, none⟩ 1 1 [.slice ad' (n i + t + 1) cp'] rfl rfl (World.news_of_block (heap_alloc_new W' _)) (by intro u hu; simp at hu; subst hu; rfl) (by omega) (by unfold maxLen; omega) (by omega) (by simp; omega) (W'.heap.size + 1) (by simp) ?_; intro g' cap' W3 hown3 hgr3 hat3 hlt3; obtain ⟨PP, mb3, mo3, hs3⟩ := HP2.out g' cap' W3 hown3 hgr3 hat3; have own2 := PP.own2; clear ownW hown3 hgr3 hat3) | (at_builtin; refine wpList_append_lies _ rfl _ _ 65 rfl w.heap.size 3 j0 _ 1 8 Tryz.underlying65 ji jz0 jz1 jz2 rfl (by decide) _ _ _ rfl (own2.alloc _) ⟨W3.heap.size, 0, none⟩ 1 1 [.int .i64 (i : Int)] rfl rfl (World.news_of_block (heap_alloc_new W3 _)) (by intro u hu; simp at hu; subst hu; rfl) (by omega) (by unfold maxLen; omega) (by omega) (by simp; omega) (W3.heap.size + 1) (by simp) ?_; intro g4 cap4 W4 hown4 hgr4 hat4 hlt4; obtain ⟨P4, mb4, mo4⟩ := HIV.out W3 _ _ PP mb3 g4 cap4 W4 hown4 hgr4 hat4; clear own2 hown4 hgr4 hat4))
              go_roundw
              case rel => exact ⟨t + 1, f', _, by omega, by go_num, P4, HV'.out, mb4, HmD.out, mo3, mo4⟩
              case measure => simp [intOf]; omega
            · have et : t = 9 := by omega
              have ht2' : ¬ (t : Int) < 9 := by omega
              have hdiv : (10 * i + t) / 10 = i := by omega
              have hrR : W2.cell? ⟨R, i, none⟩ = some vi := (P.row i hlt).trans (by rw [HVI.out])
              have hVi := P.vals i hlt
              rw [← HVI.out] at hVi
              have hone := hVi.one
              have ownW := P.own
              have HP : Hid (PhC w W2 lo R N V n (10 * i + t) (10 * i + t) f u5 u6 L) := P
              have HVi : Hid (Val f i vi (n i)) := hVi
              have ET : Hid (t = 9) := et
              obtain ⟨av, cv, hvf⟩ := hVi.form
              rw [hvf] at hrR hone
              have HVF : Hid (vi = .slice av (n i) cv) := hvf
              have ST3 : Hid (∀ (g' cap' : Nat) (W3 : World), W3.ownsRow w.heap.size 23 1 (.slice (some ⟨g', 0, none⟩) (10 * i + t + 1) cap') (10 * i + t + 1) (L ++ [.slice av (n i) cv]) → (W2.alloc (.cells #[.slice av (n i) cv] 23)).grownBy W3 u5.ownBlock → (u5.ownBlock = some g' ∨ g' = W2.heap.size + 1) →
                  PhC w W3 lo R N V n (10 * i + t + 1) (10 * i + t) f (.slice (some ⟨g', 0, none⟩) (10 * i + t + 1) cap') u6 (L ++ [.slice av (n i) cv]) ∧ W2.heap.size + 1 ≤ W3.heap.size) := by
                intro g' cap' W3 hown3 hgr hat
                have hv := HVi.out
                rw [HVF.out] at hv
                exact ⟨HP.out.put hRl hlw (by rw [hdiv]; exact hv) (by omega) hown3 hgr hat, by have := hgr.size; simpa using this⟩
              have ST4 : Hid (∀ (W3 : World) (gv : Value) (L' : List Value), PhC w W3 lo R N V n (10 * i + t + 1) (10 * i + t) f gv u6 L' → ∀ (g' cap' : Nat) (W4 : World), W4.ownsRow w.heap.size 3 1 (.slice (some ⟨g', 0, none⟩) (10 * i + t + 1) cap') (10 * i + t + 1) ((List.range (10 * i + t)).map (fun q => (.int .i64 ((q / 10 : Nat) : Int) : Value)) ++ [.int .i64 (i : Int)]) → (W3.alloc (.cells #[.int .i64 (i : Int)] 3)).grownBy W4 u6.ownBlock → (u6.ownBlock = some g' ∨ g' = W3.heap.size + 1) →
                  PhC w W4 lo R N V n (10 * i + t + 1) (10 * i + t + 1) f gv (.slice (some ⟨g', 0, none⟩) (10 * i + t + 1) cap') L') := by
                intro W3 gv L' PP g' cap' W4 hown4 hgr hat
                exact PP.put2 hRl hlw (by rw [hdiv]; exact hown4) hgr hat
              clear P hl hmb hmD hmO hmO2 q0 q1 q2 hVi et hrow ht2 ht hdiv hvf
              go_wp2_with (first | (at_builtin; refine wpList_append_lies _ rfl _ _ 30 rfl w.heap.size 23 i0 _ 1 24 Tryz.underlying30 hi hz0 hz1 hz2 rfl (by decide) _ _ _ rfl (ownW.alloc _) ⟨W2.heap.size, 0, none⟩ 1 1 [.slice av (n i) cv] rfl rfl (World.news_of_block (heap_alloc_new W2 _)) (by intro u hu; simp at hu; subst hu; rfl) (by omega) (by have := ET.out; unfold maxLen; omega) (by have := ET.out; omega) (by simp; omega) (W2.heap.size + 1) (by simp) ?_; intro g' cap' W3 hown3 hgr3 hat3 hlt3; obtain ⟨PP, hs3⟩ := ST3.out g' cap' W3 hown3 hgr3 hat3; have own2 := PP.own2; clear ownW hown3 hgr3 hat3) | (at_builtin; refine wpList_append_lies _ rfl _ _ 65 rfl w.heap.size 3 j0 _ 1 8 Tryz.underlying65 ji jz0 jz1 jz2 rfl (by decide) _ _ _ rfl (own2.alloc _) ⟨W3.heap.size, 0, none⟩ 1 1 [.int .i64 (i : Int)] rfl rfl (World.news_of_block (heap_alloc_new W3 _)) (by intro u hu; simp at hu; subst hu; rfl) (by omega) (by have := ET.out; unfold maxLen; omega) (by have := ET.out; omega) (by simp; omega) (W3.heap.size + 1) (by simp) ?_; intro g4 cap4 W4 hown4 hgr4 hat4 hlt4; have P4 := ST4.out W3 _ _ PP g4 cap4 W4 hown4 hgr4 hat4; clear own2 hown4 hgr4 hat4))
              go_roundw
              case rel => exact ⟨i + 1, f, _, by omega, by go_num, by have := ET.out; rw [show 10 * (i + 1) = 10 * i + t + 1 by omega]; exact P4⟩
              case measure => simp [intOf]; omega
        · have e4 : i = N := by omega
          have hge3 : (N : Int) ≤ i := by omega
          rw [e4] at C
          obtain ⟨gb, cb, rfl, _, _⟩ := C.own.form (by omega)
          obtain ⟨hb, hc, rfl, _, _⟩ := C.own2.form (by omega)
          have IV : Hid (Inv lo W1 f) := C.inv
          have GR : Hid (∀ q, q < 10 * N → ∃ m u, m ≤ 30000 ∧ W1.cell? ⟨gb, q, none⟩ = some u ∧ W1.cell? ⟨hb, q, none⟩ = some (.int .i64 ((q / 10 : Nat) : Int)) ∧ Val f (q / 10) u m) := fun q hq => by
            obtain ⟨m, u, h1, h2, h3⟩ := C.each q (by omega)
            exact ⟨m, u, h1, (C.own.cellAt q (by omega)).trans h2, (C.own2.cellAt q (by omega)).trans (by simp [hq]), h3⟩
          have BL : Hid (Below lo w W1) := C.bel
          have hcb : 10 * N ≤ cb := by
            rcases C.own.2 with ⟨h', _⟩ | ⟨g'', cap'', cur'', h', _, _, hnc, _⟩
            · simp at h'
            · simp only [Value.slice.injEq, Option.some.injEq, Addr.mk.injEq, and_true, true_and] at h'
              omega
          have hch : 10 * N ≤ hc := by
            rcases C.own2.2 with ⟨h', _⟩ | ⟨g'', cap'', cur'', h', _, _, hnc, _⟩
            · simp at h'
            · simp only [Value.slice.injEq, Option.some.injEq, Addr.mk.injEq, and_true, true_and] at h'
              omega
          clear C e4 hlt hi4 hdis hRn
          obtain ⟨i3, rfl⟩ : ∃ i3, i3 = i := ⟨_, rfl⟩
          have hdf3 : decide (i3 < N) = false := decide_eq_false (by omega)
          go_wp2_with fail
          clear hdf3 hge3
          go_loopw [11] (fun av wr => ∃ a q : Nat, a ≤ 10 * N ∧ av = .int .i64 a ∧ wr = W1.drewN q) (fun av _ => 10 * N - (intOf av).toNat)
          case atStart => exact ⟨0, 0, by omega, by go_num, rfl⟩
          case round =>
            obtain ⟨a, q, ha4, rfl, rfl⟩ := hrel
            by_cases ha : a < 10 * N
            · have ha' : (a : Int) < ((10 * N : Nat) : Int) := by omega
              have ha0 : (0 : Int) ≤ (a : Int) := by omega
              obtain ⟨m, u, hm3, LDA, LDB, hVal⟩ := GR.out a ha
              rcases hVal with ⟨hnil, hm0⟩ | ⟨gg, hsl, hD, hmM⟩
              · rw [hnil] at LDA
                go_wp2_with fail
                refine wp_loop_rounds 1 ?_
                rw [rounds_succ]
                go_wp2_with fail
                go_roundw
                case rel => exact ⟨a + 1, q, by omega, by go_num, by first | rfl | trivial⟩
                case measure => simp [intOf]; omega
              · rw [hsl] at LDA
                have HM : Hid (∀ k, k < m → W1.cell? ⟨gg, k * 3, none⟩ = some (mkV (a / 10))) := fun k hk => IV.out.mark gg (a / 10) hD k (by omega)
                have HCm : Hid (m ≤ f.C gg) := by have := IV.out.mc gg (a / 10) hD; show m ≤ f.C gg; omega
                generalize f.C gg = cc at LDA HCm
                have hcc := HCm.out
                have hwr : IntKind.i64.wrap (-1 - ((a / 10 : Nat) : Int)) = -1 - ((a / 10 : Nat) : Int) := by rw [IntKind.wrap_i64]; omega
                generalize a / 10 = ai at *
                clear hD hmM hsl
                go_wp2_with fail
                go_loopw [12] (fun kv wr => ∃ k q : Nat, k ≤ m ∧ kv = .int .i64 k ∧ wr = W1.drewN q) (fun kv _ => m - (intOf kv).toNat)
                case atStart => exact ⟨0, q, by omega, by go_num, rfl⟩
                case round =>
                  obtain ⟨k, q, hk, rfl, rfl⟩ := hrel
                  by_cases hkm : k < m
                  · have qk := HM.out k hkm
                    have k0 : (0 : Int) ≤ (k : Int) := by omega
                    have k1 : (k : Int) < (m : Int) := by omega
                    go_wp2_with fail
                    go_quiet (fail)
                    go_wp2_with fail
                    go_roundw
                    case rel => exact ⟨k + 1, q + nq, by omega, by go_num, by first | rfl | trivial⟩
                    case measure => simp [intOf]; omega
                  · go_wp2_with fail
                    go_roundw
                    case rel => exact ⟨a + 1, q, by omega, by go_num, by first | rfl | trivial⟩
                    case measure => simp [intOf]; omega
            · have ha' : ¬ (a : Int) < ((10 * N : Nat) : Int) := by omega
              go_wp2_with fail
              go_ret
              exact ⟨rfl, BL.out.os, BL.out.tape, BL.out.output, BL.out.size, BL.out.block⟩
end Go.Proofs.YthcejnpknjepfaaGreat

namespace Go.Proofs.YthcejnpknjepfaaGreat
open Go.RowKit

set_option maxHeartbeats 4000000 in
set_option maxRecDepth 10000 in
theorem owned_zero (w : World) (lo : Nat) (ad : Option Addr) (cap : Nat) : Calls Tryz.prog 11 #[.slice ad 0 cap] w fun e w' => e = .returned (.bool true) ∧ Below lo w w' := by
  go_enter Tryz.func11, Tryz.ntmps11
  go_wp2
  refine wp_loop_rounds 1 ?_
  rw [rounds_succ]
  go_wp2
  refine wp_loop_rounds 1 ?_
  rw [rounds_succ]
  go_wp2
  refine wp_loop_rounds 1 ?_
  rw [rounds_succ]
  go_wp2
  go_ret
  exact ⟨rfl, Below.refl _ _⟩
/-- owned of a list of rows. -/
theorem owned_rows (w : World) (lo B : Nat) (gv : Value) (rws : List (Value × Nat)) (hlw : lo ≤ w.heap.size) (hrow : w.ownsRow B 23 1 gv rws.length (rws.map (·.1))) (hn : rws.length ≤ 1000000) (heach : ∀ p ∈ rws, ∃ xs, w.ownsRow lo 25 3 p.1 p.2 xs) (h6 : ∀ p ∈ rws, p.2 ≤ 20000) (hsep : Sep B rws) :
    Calls Tryz.prog 11 #[gv] w fun e w' => e = .returned (.bool true) ∧ Below lo w w' := by
  by_cases h0 : rws.length = 0
  · obtain ⟨ad, cap, rfl⟩ : ∃ ad cap, gv = .slice ad 0 cap := by
      rcases hrow.2 with ⟨e1, _⟩ | ⟨g, cap, _, e1, _⟩
      · exact ⟨none, 0, e1⟩
      · exact ⟨_, cap, by rw [e1, h0]⟩
    exact owned_zero w lo ad cap
  · obtain ⟨R, cap, rfl, hRB, hRl⟩ := hrow.form (by omega)
    have hcap : rws.length ≤ cap := by
      rcases hrow.2 with ⟨_, h'⟩ | ⟨g', cap', cur, h', _, _, hc, _⟩
      · omega
      · simp only [Value.slice.injEq, Option.some.injEq, Addr.mk.injEq, and_true, true_and] at h'
        omega
    have hget : ∀ i (h : i < rws.length), (rws[i]?.map (·.1)).getD undef = rws[i].1 := fun i h => by rw [List.getElem?_eq_getElem h]; rfl
    have hget2 : ∀ i (h : i < rws.length), (rws[i]?.map (·.2)).getD 0 = rws[i].2 := fun i h => by rw [List.getElem?_eq_getElem h]; rfl
    refine owned_any w R lo rws.length cap (fun i => (rws[i]?.map (·.1)).getD undef) (fun i => (rws[i]?.map (·.2)).getD 0) hlw hRl (by omega) hn hcap ?_ ?_ ?_ ?_ ?_
    · intro i hi
      show _ = some ((rws[i]?.map (·.1)).getD undef)
      rw [hget i hi, hrow.cellAt i (by omega)]
      simp [hi]
    · intro i hi
      show ∃ xs, w.ownsRow lo 25 3 ((rws[i]?.map (·.1)).getD undef) ((rws[i]?.map (·.2)).getD 0) xs
      rw [hget i hi, hget2 i hi]
      exact heach _ (List.getElem_mem hi)
    · intro i hi
      show (rws[i]?.map (·.2)).getD 0 ≤ 20000
      rw [hget2 i hi]
      exact h6 _ (List.getElem_mem hi)
    · intro i j g hi hj e1 e2
      have e1 : ((rws[i]?.map (·.1)).getD undef).ownBlock = some g := e1
      have e2 : ((rws[j]?.map (·.1)).getD undef).ownBlock = some g := e2
      rw [hget i hi] at e1
      rw [hget j hj] at e2
      have hnd := hsep.2
      have := (List.getElem_inj (i := i) (j := j) (h₀ := by simpa using hi) (h₁ := by simpa using hj) hnd).1 (by simp [e1, e2])
      exact this
    · intro i hi
      show ((rws[i]?.map (·.1)).getD undef).ownBlock ≠ some R
      rw [hget i hi]
      intro e
      obtain ⟨g, e1, hg⟩ := hsep.1 _ (List.getElem_mem hi)
      rw [e1] at e
      have := Option.some.inj e
      omega
/-- A tree that was read and lies in a box: where the box is, from which world on, and what it is. -/
structure Bx (U : World) (b : Nat) (k : Int) (n : ByteArray) (ad : Option Addr) (len cap : Nat) (d : Nat) (t : Tn d) : Prop where
  lt : b < U.heap.size
  c0 : U.cell? ⟨b, 0, none⟩ = some (.int .i64 k)
  c1 : U.cell? ⟨b, 1, none⟩ = some (.string n)
  c2 : U.cell? ⟨b, 2, none⟩ = some (.slice ad len cap)
  tree : TyAt U U.heap.size d (.agg #[.int .i64 k, .string n, .slice ad len cap]) t
theorem Bx.on {U U' : World} {b : Nat} {k : Int} {n : ByteArray} {ad : Option Addr} {len cap d : Nat} {t : Tn d} (h : Bx U b k n ad len cap d t) (hb : Below U.heap.size U U') : Bx U' b k n ad len cap d t :=
  ⟨Nat.lt_of_lt_of_le h.lt hb.size, (hb.cell (p := ⟨b, 0, none⟩) h.lt).trans h.c0, (hb.cell (p := ⟨b, 1, none⟩) h.lt).trans h.c1, (hb.cell (p := ⟨b, 2, none⟩) h.lt).trans h.c2, TyAt.below hb hb.size _ _ _ h.tree⟩
theorem Bx.new {w : World} {k : Int} {n : ByteArray} {ad : Option Addr} {len cap d : Nat} {t : Tn d} (h : TyAt w w.heap.size d (.agg #[.int .i64 k, .string n, .slice ad len cap]) t) : ∃ U, U = w.alloc (Obj.cells #[.int .i64 k, .string n, .slice ad len cap] 25) ∧ Below w.heap.size w U ∧ Bx U w.heap.size k n ad len cap d t := by
  obtain ⟨U, hU, hb, hs, u0, u1, u2⟩ := cells_box w (.int .i64 k) (.string n) (.slice ad len cap) 25
  exact ⟨U, hU, hb, by omega, u0, u1, u2, TyAt.below hb hb.size _ _ _ h⟩
set_option maxHeartbeats 8000000 in
set_option maxRecDepth 10000 in
theorem reads_any (hR : ReadsO 8) (hA : Wakes) (l m : List UInt8) (w : World) (hl : l.length < 140737488355328) (hm : m.length < 140737488355328) :
    Calls Tryz.prog 3 #[strV l, strV m] w fun r w' => r = .returned (.bool true) ∧ Below w.heap.size w w' := by
  have CA : ∀ w : World, Calls Tryz.prog 6 #[] w fun r w' => r = .returned (.bool true) ∧ Below w.heap.size w w' := hA
  have F1 := fun W => read_ref l W hl
  have F2 := fun W => read_ref m W hm
  have G1 := fun W => hR l W hl
  have G2 := fun W => hR m W hm
  clear hR hA
  go_enter Tryz.func3, Tryz.ntmps3
  go_upto_region 3 with (first
    | (go_at_call 6; (with_reducible refine Calls.mono (CA _) ?_); rintro e' w1 ⟨rfl, hb1⟩)
    | (go_at_call 7; (with_reducible refine Calls.mono (F1 _) ?_); intro e' w2 hpost; obtain ⟨hb2, k1, n1, a1, l1, p1, e1, d1, t1, rfl, T1, R1⟩ := hpost.rel))
  obtain ⟨U1, hU1, hbU1, X1⟩ := Bx.new T1
  rw [← hU1]
  have HB1 : Hid (Below w.heap.size w U1) := (hb1.trans (hb2.mono hb1.size)).trans (hbU1.mono (by have := hb1.size; have := hb2.size; omega))
  clear hU1 hbU1 hb1 hb2 hpost T1
  generalize w2.heap.size = z1 at X1 ⊢
  go_upto_region 4 with (first
    | (go_at_call 7; (with_reducible refine Calls.mono (F2 _) ?_); intro e' w3 hpost; obtain ⟨hb3, k2, n2, a2, l2, p2, e2, d2, t2, rfl, T2, R2⟩ := hpost.rel))
  obtain ⟨U2, hU2, hbU2, X2⟩ := Bx.new T2
  rw [← hU2]
  have hb12 : Below U1.heap.size U1 U2 := hb3.trans (hbU2.mono hb3.size)
  have X1 := X1.on hb12
  have HB2 : Hid (Below w.heap.size w U2) := HB1.out.trans (hb12.mono HB1.out.size)
  clear hU2 hbU2 hb3 hpost T2 hb12
  generalize w3.heap.size = z2 at X2 ⊢
  go_upto_region 5 with (first
    | (go_at_call 8; (with_reducible refine Calls.mono (G1 _) ?_); intro e' w4 hpost; obtain ⟨hb4, k3, n3, a3, l3, p3, e3, d3, t3, rw3, rfl, O3, S3, N3, M3, R3⟩ := hpost))
  obtain ⟨U3, hU3, hbU3, X3⟩ := Bx.new (TyO.at _ _ _ _ (fun p hp g hg => by obtain ⟨g', e1, e2⟩ := S3.1 p hp; rw [e1] at hg; exact Option.some.inj hg ▸ e2) O3)
  rw [← hU3]
  have hb23 : Below U2.heap.size U2 U3 := hb4.trans (hbU3.mono hb4.size)
  have X1 := X1.on hb23
  have X2 := X2.on hb23
  have O3 := TyO.on (w' := U3) _ _ _ _ (fun p hp g hg => by obtain ⟨g', e1, e2⟩ := S3.1 p hp; rw [e1] at hg; exact hbU3.block g (Option.some.inj hg ▸ e2)) O3
  have HB3 : Hid (Below w.heap.size w U3) := HB2.out.trans (hb23.mono HB2.out.size)
  have HS3 : Hid (w.heap.size ≤ U2.heap.size ∧ w4.heap.size ≤ U3.heap.size ∧ U2.heap.size ≤ w4.heap.size) := ⟨HB2.out.size, hbU3.size, hb4.size⟩
  clear hU3 hbU3 hb4 hb23
  generalize hz3 : w4.heap.size = z3 at X3 S3 HS3 ⊢
  clear hz3
  go_upto_region 6 with (first
    | (go_at_call 8; (with_reducible refine Calls.mono (G1 _) ?_); intro e' w5 hpost; obtain ⟨hb5, k4, n4, a4, l4, p4, e4, d4, t4, rw4, rfl, O4, S4, N4, M4, R4⟩ := hpost))
  obtain ⟨U4, hU4, hbU4, X4⟩ := Bx.new (TyO.at _ _ _ _ (fun p hp g hg => by obtain ⟨g', e1, e2⟩ := S4.1 p hp; rw [e1] at hg; exact Option.some.inj hg ▸ e2) O4)
  rw [← hU4]
  have B3 := SepB.of O3 S3
  have B4 := SepB.of O4 S4
  have hb34 : Below U3.heap.size U3 U4 := hb5.trans (hbU4.mono hb5.size)
  have X1 := X1.on hb34
  have X2 := X2.on hb34
  have X3 := X3.on hb34
  have O3 := TyO.on (w' := U4) _ _ _ _ (fun p hp g hg => hb34.block g (B3.lt HS3.out.2.1 p hp g hg)) O3
  have O4 := TyO.on (w' := U4) _ _ _ _ (fun p hp g hg => by obtain ⟨g', e1, e2⟩ := S4.1 p hp; rw [e1] at hg; exact hbU4.block g (Option.some.inj hg ▸ e2)) O4
  have HB4 : Hid (Below w.heap.size w U4) := HB3.out.trans (hb34.mono HB3.out.size)
  have HS4 : Hid (U3.heap.size ≤ U4.heap.size ∧ w5.heap.size ≤ U4.heap.size ∧ U3.heap.size ≤ w5.heap.size) := ⟨hb34.size, hbU4.size, hb5.size⟩
  clear hU4 hbU4 hb5 hb34 S3
  generalize hz4 : w5.heap.size = z4 at X4 S4 B4 HS4 ⊢
  clear hz4
  go_upto_region 7 with (first
    | (go_at_call 8; (with_reducible refine Calls.mono (G2 _) ?_); intro e' w6 hpost; obtain ⟨hb6, k5, n5, a5, l5, p5, e5, d5, t5, rw5, rfl, O5, S5, N5, M5, R5⟩ := hpost))
  obtain ⟨U5, hU5, hbU5, X5⟩ := Bx.new (TyO.at _ _ _ _ (fun p hp g hg => by obtain ⟨g', e1, e2⟩ := S5.1 p hp; rw [e1] at hg; exact Option.some.inj hg ▸ e2) O5)
  rw [← hU5]
  have B5 := SepB.of O5 S5
  have hb45 : Below U4.heap.size U4 U5 := hb6.trans (hbU5.mono hb6.size)
  have X1 := X1.on hb45
  have X2 := X2.on hb45
  have X3 := X3.on hb45
  have X4 := X4.on hb45
  have O3 := TyO.on (w' := U5) _ _ _ _ (fun p hp g hg => hb45.block g (B3.lt (by have := HS3.out; have := HS4.out; omega) p hp g hg)) O3
  have O4 := TyO.on (w' := U5) _ _ _ _ (fun p hp g hg => hb45.block g (B4.lt HS4.out.2.1 p hp g hg)) O4
  have O5 := TyO.on (w' := U5) _ _ _ _ (fun p hp g hg => by obtain ⟨g', e1, e2⟩ := S5.1 p hp; rw [e1] at hg; exact hbU5.block g (Option.some.inj hg ▸ e2)) O5
  have HB5 : Hid (Below w.heap.size w U5) := HB4.out.trans (hb45.mono HB4.out.size)
  have HS5 : Hid (U4.heap.size ≤ U5.heap.size ∧ w6.heap.size ≤ U5.heap.size ∧ U4.heap.size ≤ w6.heap.size) := ⟨hb45.size, hbU5.size, hb6.size⟩
  clear hU5 hbU5 hb6 hb45 S4
  generalize hz5 : w6.heap.size = z5 at X5 S5 B5 HS5 ⊢
  clear hz5 CA F1 F2 G1 G2
  obtain ⟨rfl, E13⟩ := R1.one R3
  obtain ⟨rfl, E14⟩ := R1.one R4
  obtain ⟨rfl, E25⟩ := R2.one R5
  have HE : Hid (flat d3 t3 = flat d1 t1 ∧ flat d4 t4 = flat d1 t1 ∧ flat d5 t5 = flat d2 t2) := ⟨E13.symm, E14.symm, E25.symm⟩
  clear R1 R2 R3 R4 R5 E13 E14 E25
  have CS := fun {d e : Nat} {x y : Value} {t : Tn d} {u : Tn e} (W : World) (h1 : TyAt W W.heap.size d x t) (h2 : TyAt W W.heap.size e y u) (h3 : flat d t = flat e u) => (by
    have := same_any d e x y t u W W.heap.size (Nat.le_refl _) h1 h2
    rw [decide_eq_true h3] at this
    exact this : Calls Tryz.prog 9 #[x, y] W fun r w' => r = .returned (.bool true) ∧ Below W.heap.size W w')
  have C1 := CS U5 X3.tree X1.tree HE.out.1
  obtain ⟨x10, x11, x12⟩ : _ ∧ _ ∧ _ := ⟨X1.c0, X1.c1, X1.c2⟩
  obtain ⟨x30, x31, x32⟩ : _ ∧ _ ∧ _ := ⟨X3.c0, X3.c1, X3.c2⟩
  go_upto_region 8 with (first
    | (go_at_call 9; (with_reducible refine Calls.mono C1 ?_); rintro e' w7 ⟨rfl, hb7⟩))
  clear C1 x10 x11 x12 x30 x31 x32
  have X1 := X1.on hb7
  have X2 := X2.on hb7
  have X3 := X3.on hb7
  have X4 := X4.on hb7
  have X5 := X5.on hb7
  have C2 := CS w7 X4.tree X1.tree HE.out.2.1
  obtain ⟨x10, x11, x12⟩ : _ ∧ _ ∧ _ := ⟨X1.c0, X1.c1, X1.c2⟩
  obtain ⟨x40, x41, x42⟩ : _ ∧ _ ∧ _ := ⟨X4.c0, X4.c1, X4.c2⟩
  go_upto_region 9 with (first
    | (go_at_call 9; (with_reducible refine Calls.mono C2 ?_); rintro e' w8 ⟨rfl, hb8⟩))
  clear C2 x10 x11 x12 x40 x41 x42
  have X2 := X2.on hb8
  have X3 := X3.on hb8
  have X4 := X4.on hb8
  have X5 := X5.on hb8
  have C3 := CS w8 X5.tree X2.tree HE.out.2.2
  obtain ⟨x20, x21, x22⟩ : _ ∧ _ ∧ _ := ⟨X2.c0, X2.c1, X2.c2⟩
  obtain ⟨x50, x51, x52⟩ : _ ∧ _ ∧ _ := ⟨X5.c0, X5.c1, X5.c2⟩
  go_upto_region 10 with (first
    | (go_at_call 9; (with_reducible refine Calls.mono C3 ?_); rintro e' w9 ⟨rfl, hb9⟩))
  clear C3 x20 x21 x22 x50 x51 x52 CS
  have X3 := X3.on hb9
  have X4 := X4.on hb9
  have X5 := X5.on hb9
  have hb59 : Below U5.heap.size U5 w9 := (hb7.trans (hb8.mono hb7.size)).trans (hb9.mono (by have := hb7.size; have := hb8.size; omega))
  have hS3 := HS3.out
  have hS4 := HS4.out
  have hS5 := HS5.out
  have h59 := hb59.size
  have O3 := TyO.on (w' := w9) _ _ _ _ (fun p hp g hg => hb59.block g (B3.lt (by omega) p hp g hg)) O3
  have O4 := TyO.on (w' := w9) _ _ _ _ (fun p hp g hg => hb59.block g (B4.lt (by omega) p hp g hg)) O4
  have O5 := TyO.on (w' := w9) _ _ _ _ (fun p hp g hg => hb59.block g (B5.lt (by omega) p hp g hg)) O5
  have HB9 : Hid (Below w.heap.size w w9) := HB5.out.trans (hb59.mono HB5.out.size)
  have SA : Hid (SepB w.heap.size w9.heap.size ((rw3 ++ rw4) ++ rw5)) := by
    have h1 := (B3.append B4 (by omega) (by omega) (by omega)).append B5 (by omega) (by omega) (by omega)
    exact ⟨fun p hp => by obtain ⟨g, e, h2, h3⟩ := h1.1 p hp; exact ⟨g, e, by omega, by omega⟩, h1.2⟩
  have HEach : Hid (∀ p ∈ (rw3 ++ rw4) ++ rw5, ∃ xs, w9.ownsRow w.heap.size 25 3 p.1 p.2 xs) := by
    intro p hp
    rcases List.mem_append.1 hp with hp | hp
    · rcases List.mem_append.1 hp with hp | hp
      · obtain ⟨xs, h⟩ := TyO.each _ _ _ _ O3 p hp
        exact ⟨xs, h.mono (by omega)⟩
      · obtain ⟨xs, h⟩ := TyO.each _ _ _ _ O4 p hp
        exact ⟨xs, h.mono (by omega)⟩
    · obtain ⟨xs, h⟩ := TyO.each _ _ _ _ O5 p hp
      exact ⟨xs, h.mono (by omega)⟩
  have H6 : Hid (∀ p ∈ (rw3 ++ rw4) ++ rw5, p.2 ≤ 6) := by
    intro p hp
    rcases List.mem_append.1 hp with hp | hp
    · rcases List.mem_append.1 hp with hp | hp
      · exact M3 p hp
      · exact M4 p hp
    · exact M5 p hp
  have LA := lists_any _ d3 _ t3 rw3 w9 w9.heap.size (.slice none 0 0) [] (Nat.le_refl _) (B3.lt (by omega)) O3 (World.ownsRow_nil _ _ _ _) (by simp; omega)
  have HO4 : Hid (∀ W, Below w9.heap.size w9 W → TyO W U3.heap.size d4 _ t4 rw4) := fun W hW => TyO.on (w' := W) _ _ _ _ (fun p hp g hg => hW.block g (B4.lt (by omega) p hp g hg)) O4
  have HO5 : Hid (∀ W, Below w9.heap.size w9 W → TyO W U4.heap.size d5 _ t5 rw5) := fun W hW => TyO.on (w' := W) _ _ _ _ (fun p hp g hg => hW.block g (B5.lt (by omega) p hp g hg)) O5
  have HR4 : Hid (∀ p ∈ rw4, ∀ g, p.1.ownBlock = some g → g < w9.heap.size) := B4.lt (by omega)
  have HR5 : Hid (∀ p ∈ rw5, ∀ g, p.1.ownBlock = some g → g < w9.heap.size) := B5.lt (by omega)
  have HN : Hid (rw3.length ≤ 500 ∧ rw4.length ≤ 500 ∧ rw5.length ≤ 500) := ⟨N3, N4, N5⟩
  obtain ⟨x30, x31, x32⟩ : _ ∧ _ ∧ _ := ⟨X3.c0, X3.c1, X3.c2⟩
  clear hb7 hb8 hb9 hb59 O3 O4 O5 B3 B4 B5 M3 M4 M5 N3 N4 N5 HB1 HB2 HB3 HB4 HB5 hS3 hS4 hS5 h59 HS3 HS4 HS5 X1 X2 HE S5
  go_upto_region 13 with (first
    | (go_at_call 10; (with_reducible refine Calls.mono LA ?_); rintro e' wa ⟨ga, rfl, hLa⟩))
  have hnil : w9.ownsRow w9.heap.size 23 1 (.slice none 0 0) ([] : List Value).length [] := World.ownsRow_nil _ _ _ _
  have hba := hLa.from (Nat.le_refl _) hnil
  have LB := lists_any _ d4 _ t4 rw4 wa w9.heap.size ga _ hLa.size HR4.out (HO4.out wa hba) hLa.own (by have := HN.out; simp; omega)
  have X4' := X4.on hba
  obtain ⟨x40, x41, x42⟩ : _ ∧ _ ∧ _ := ⟨X4'.c0, X4'.c1, X4'.c2⟩
  clear LA x30 x31 x32 X4' X3
  go_upto_region 14 with (first
    | (go_at_call 10; (with_reducible refine Calls.mono LB ?_); rintro e' wb ⟨gb, rfl, hLb⟩))
  have hLab := hLa.trans hLb
  have hbb := hLab.from (Nat.le_refl _) hnil
  have LC := lists_any _ d5 _ t5 rw5 wb w9.heap.size gb _ hLab.size HR5.out (HO5.out wb hbb) hLab.own (by have := HN.out; simp; omega)
  have X5' := X5.on hbb
  obtain ⟨x50, x51, x52⟩ : _ ∧ _ ∧ _ := ⟨X5'.c0, X5'.c1, X5'.c2⟩
  clear LB x40 x41 x42 X5' X4
  go_upto_region 15 with (first
    | (go_at_call 10; (with_reducible refine Calls.mono LC ?_); rintro e' wc ⟨gc, rfl, hLc⟩))
  have hLabc := hLab.trans hLc
  have hbc := hLabc.from (Nat.le_refl _) hnil
  have hrows : wc.ownsRow w9.heap.size 23 1 gc ((rw3 ++ rw4) ++ rw5).length (((rw3 ++ rw4) ++ rw5).map (·.1)) := by
    have := hLabc.own
    simpa [List.map_append, List.append_assoc] using this
  have hb9c := HB9.out.trans (hbc.mono HB9.out.size)
  have CO := owned_rows wc w.heap.size w9.heap.size gc ((rw3 ++ rw4) ++ rw5) hb9c.size hrows (by have := HN.out; simp; omega)
    (fun p hp => by
      obtain ⟨xs, h⟩ := HEach.out p hp
      exact ⟨xs, own_keep h fun k hk => hbc.block k (by obtain ⟨g, e, _, h2⟩ := SA.out.1 p hp; rw [e] at hk; exact Option.some.inj hk ▸ h2)⟩)
    (fun p hp => by have := H6.out p hp; omega) SA.out.sep
  clear LC x50 x51 x52 X5 hrows
  go_wp2_with (first
    | (go_at_call 11; (with_reducible refine Calls.mono CO ?_); rintro e' wd ⟨rfl, hbd⟩))
  go_ret
  exact ⟨rfl, hb9c.trans hbd⟩
end Go.Proofs.YthcejnpknjepfaaGreat
