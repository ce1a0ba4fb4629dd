/- ownedBounds answers true of rows of bounds that are their owner's. -/
import Derived.Test.YtikpipenhamdbaaGreatMazx
import Derived.Test.YtikpipenhamdbaaGreatMbax
import Derived.Test.YtikpipenhamdbaaGreatMafx
import Derived.Test.YtikpipenhamdbaaGreatMaix
namespace Go.Proofs.YtikpipenhamdbaaGreat
open Go.RowKit

/-- All lists of so many rows of bounds. -/
def zAll (Z : Nat → List (List (Value × Nat))) : Nat → List (Value × Nat)
 | 0 => []
 | i + 1 => zAll Z i ++ (Z i).flatten
theorem zAll_mem (Z : Nat → List (List (Value × Nat))) {p : Value × Nat} : ∀ {N i : Nat}, i < N → p ∈ (Z i).flatten → p ∈ zAll Z N
 | N + 1, i, hi, hp => by
  rw [zAll, List.mem_append]
  by_cases e : i = N
  ·subst e; exact .inr hp
  ·exact .inl (zAll_mem Z (by omega) hp)
theorem zAll_of (Z : Nat → List (List (Value × Nat))) {p : Value × Nat} : ∀ {N : Nat}, p ∈ zAll Z N → ∃ i, i < N ∧ p ∈ (Z i).flatten
 | N + 1, hp => by
  rw [zAll, List.mem_append] at hp
  rcases hp with hp | hp
  ·obtain ⟨i, h1, h2⟩ := zAll_of Z hp
   exact ⟨i, by omega, h2⟩
  ·exact ⟨N, by omega, hp⟩
theorem zAll_len (Z : Nat → List (List (Value × Nat))) : ∀ {N i : Nat}, i < N → (zAll Z i).length + (Z i).flatten.length ≤ (zAll Z N).length
 | N + 1, i, hi => by
  rw [zAll, List.length_append]
  by_cases e : i = N
  ·subst e; exact Nat.le_refl _
  ·have := zAll_len Z (N := N) (i := i) (by omega); omega
/-- Rows of bounds that are their owner's, each apart from each. -/
structure RowsB (w : World) (R lo N : Nat) (V : Nat → Value) (n : Nat → Nat) (E : Nat → List Bl4) (T : Nat → List Bd) (Z : Nat → List (List (Value × Nat))) : Prop where
 Rl : R < w.heap.size
 row : ∀ i, i < N → w.cell? ⟨R, i, none⟩ = some (V i)
 own : ∀ i, i < N → w.ownsRow lo 48 4 (V i) (n i) ((E i).flatMap bCells)
 len : ∀ i, i < N → (E i).length = n i ∧ (T i).length = n i ∧ (Z i).length = n i
 few : ∀ i, i < N → n i ≤ 200000000
 each : ∀ i, i < N → ∀ j (h : j < (T i).length) (h1 : j < (E i).length) (h2 : j < (Z i).length), TyO w lo (T i)[j].2.1 (elV (E i)[j].2) (T i)[j].2.2 (Z i)[j]
 sep : SepB lo w.heap.size (zAll Z N)
 away : ∀ i, i < N → ∀ p ∈ zAll Z N, p.1.ownBlock ≠ (V i).ownBlock
 dis : ∀ i j g, i < N → j < N → (V i).ownBlock = some g → (V j).ownBlock = some g → i = j
 Rn : ∀ i, i < N → (V i).ownBlock ≠ some R
 num : (zAll Z N).length ≤ 500000000000 ∧ ∀ p ∈ zAll Z N, p.2 ≤ 20000
theorem Ls.low {w wr : World} {gv : Value} {L : List Value} (h : Ls w wr w.heap.size (.slice none 0 0) gv L) : Below w.heap.size w wr :=
 ⟨h.os, h.tape, h.output, h.size, fun k hk => h.block k hk (by simp [Value.ownBlock])⟩
theorem Tryz.infoR36 : (Tryz.prog.info? 23).map (fun i => (i.zero, i.size, i.bytes)) = some (some (.slice none 0 0), 1, 24) := by kernel_rfl
set_option maxHeartbeats 8000000 in
set_option maxRecDepth 10000 in
theorem ownedB_any (w : World) (R lo N capR : Nat) (V : Nat → Value) (n : Nat → Nat) (E : Nat → List Bl4) (T : Nat → List Bd) (Z : Nat → List (List (Value × Nat))) (hlw : lo ≤ w.heap.size) (hN0 : 0 < N) (hN : N ≤ 1000) (_hcR : N ≤ capR) (H : RowsB w R lo N V n E T Z) :
  Calls Tryz.prog 15 #[.slice (some ⟨R, 0, none⟩) N capR] w fun e w' => e = .returned (.bool true) ∧ Below lo w w' := by
 obtain ⟨i0, hi, hz0, hz1, hz2⟩ := info_parts Tryz.infoR36
 obtain ⟨j0, ji, jz0, jz1, jz2⟩ := info_parts Tryz.info3
 have hRl := H.Rl
 have HR0 : Hid (RowsB w R lo N V n E T Z) := H
 have L0 : Ls w w w.heap.size (.slice none 0 0) (.slice none 0 0) ((zAll Z 0).map (·.1)) := ⟨World.ownsRow_nil _ _ _ _, rfl, rfl, rfl, Nat.le_refl _, fun _ _ _ => rfl, .inl rfl⟩
 clear H
 go_enter Tryz.func15, Tryz.ntmps15
 go_wp2_with fail
 go_loopw [3, 4] (fun gv iv wr => ∃ (i : Nat), i ≤ N ∧ iv = .int .i64 i ∧ Ls w wr w.heap.size (.slice none 0 0) gv ((zAll Z i).map (·.1))) (fun _ iv _ => N - (intOf iv).toNat)
 case atStart => exact ⟨0, by omega, by go_num, L0⟩
 case round =>
  obtain ⟨i, hi4, rfl, HL⟩ := hrel
  clear L0
  obtain ⟨W0, rfl⟩ : ∃ W0, W0 = wr := ⟨_, rfl⟩
  by_cases hlt : i < N
  ·have hrow : W0.cell? ⟨R, i, none⟩ = some (V i) := (HL.low.cell (p := ⟨R, i, none⟩) hRl).trans (HR0.out.row i hlt)
   have hown := HR0.out.own i hlt
   obtain ⟨len1, len2, len3⟩ := HR0.out.len i hlt
   have hni := HR0.out.few i hlt
   have hi0 : (0 : Int) ≤ (i : Int) := by omega
   have hi1 : (i : Int) < (N : Int) := by omega
   rcases id hown.2 with ⟨hv, h0⟩ | ⟨g, cap, cur, hv, hg, hgg, hnc, hcm, hcs, _⟩
   ·have ez : zAll Z (i + 1) = zAll Z i := by
     have : Z i = [] := List.length_eq_zero_iff.1 (by omega)
     rw [zAll, this]; simp
    have A' : Ls w W0 w.heap.size (.slice none 0 0) u3 ((zAll Z (i + 1)).map (·.1)) := by rw [ez]; exact HL
    rw [hv] at hrow
    clear HL hown len1 len2 len3
    go_wp2_with fail
    refine wp_loop_rounds 1 ?_
    rw [rounds_succ]
    go_wp2_with fail
    go_roundw
    case rel => exact ⟨i + 1, by omega, by go_num, A'⟩
    case measure => simp [intOf]; omega
   ·have hgl : g < w.heap.size := lt_of_heap hgg
    rw [hv] at hrow
    have hnm : n i ≤ 200000000 := hni
    have EC : Hid (∀ w', Below w.heap.size w w' → ∀ j (h1 : j < (E i).length), w'.cell? ⟨g, j * 4 + 1, none⟩ = some (.int .i64 (E i)[j].2.1) ∧ w'.cell? ⟨g, j * 4 + 2, none⟩ = some (.string (E i)[j].2.2.1) ∧ w'.cell? ⟨g, j * 4 + 3, none⟩ = some (E i)[j].2.2.2) := by
     intro w' hb j j1
     have hc : ∀ x, x < 4 → ∀ u, (bCells (E i)[j])[x]? = some u → w'.cell? ⟨g, j * 4 + x, none⟩ = some u := by
      intro x hx u hu
      have := hown.cells (g := g) (by rw [hv]; rfl) (j * 4 + x) u (by rw [bCells_get (E i) j x j1 hx]; exact hu)
      rw [show (⟨g, 0, none⟩ : Addr).add (j * 4 + x) = ⟨g, j * 4 + x, none⟩ from by unfold Addr.add; split <;> simp_all] at this
      exact (hb.cell (p := ⟨g, j * 4 + x, none⟩) hgl).trans this
     exact ⟨hc 1 (by omega) _ rfl, hc 2 (by omega) _ rfl, hc 3 (by omega) _ rfl⟩
    obtain ⟨M, hM⟩ : ∃ M, M = n i := ⟨_, rfl⟩
    have HRW : Hid (w.cell? ⟨R, i, none⟩ = some (.slice (some ⟨g, 0, none⟩) M cap)) := by
     show _ = _
     rw [HR0.out.row i hlt, hv, hM]
    rw [← hM] at hrow hnm hnc
    have HM : Hid (M = n i) := hM
    have LN : Hid ((E i).length = M ∧ (T i).length = M ∧ (Z i).length = M) := by rw [hM]; exact ⟨len1, len2, len3⟩
    have A0 : Ls w W0 w.heap.size (.slice none 0 0) u3 ((zAll Z i ++ ((Z i).take 0).flatten).map (·.1)) := by simpa using HL
    clear hM hown len1 len2 len3 hgg hcs hv HL
    go_wp2_with fail
    go_loopw [3, 5] (fun gv kv wq => ∃ k : Nat, k ≤ M ∧ kv = .int .i64 k ∧ Ls w wq w.heap.size (.slice none 0 0) gv ((zAll Z i ++ ((Z i).take k).flatten).map (·.1))) (fun _ kv _ => M - (intOf kv).toNat)
    case atStart => exact ⟨0, by omega, by go_num, A0⟩
    case round =>
     obtain ⟨k, hk, rfl, B⟩ := hrel
     obtain ⟨wq, rfl⟩ : ∃ wq, wq = wr := ⟨_, rfl⟩
     have hrow' : wq.cell? ⟨R, i, none⟩ = some (.slice (some ⟨g, 0, none⟩) M cap) := by
      rw [B.low.cell (p := ⟨R, i, none⟩) hRl]
      exact HRW.out
     clear A0
     by_cases hkl : k < M
     ·have hq := LN.out
      have j1 : k < (E i).length := by omega
      have j2 : k < (T i).length := by omega
      have j3 : k < (Z i).length := by omega
      obtain ⟨p1, p2, p3⟩ := EC.out wq B.low k j1
      have TJ : TyO wq lo (T i)[k].2.1 (elV (E i)[k].2) (T i)[k].2.2 (Z i)[k] := TyO.on _ _ _ _ (fun p hp g' hg' => B.low.block g' (HR0.out.sep.lt (Nat.le_refl _) p (zAll_mem Z hlt (List.mem_flatten.2 ⟨_, List.getElem_mem j3, hp⟩)) g' hg')) (HR0.out.each i hlt k j2 j1 j3)
      obtain ⟨ad1, l1, cp1, hsl⟩ := TJ.slice
      have hfl := take_flat_le j3
      have hal := zAll_len Z hlt
      have CJ := lists_any lo _ _ _ _ wq w.heap.size u3 _ B.size (fun p hp g' hg' => HR0.out.sep.lt (Nat.le_refl _) p (zAll_mem Z hlt (List.mem_flatten.2 ⟨_, List.getElem_mem j3, hp⟩)) g' hg') TJ B.own (by have := HR0.out.num.1; simp only [List.length_append, List.length_map]; omega)
      have HNX : Hid (∀ w1 gv', Ls wq w1 w.heap.size u3 gv' ((zAll Z i ++ ((Z i).take k).flatten).map (·.1) ++ (Z i)[k].map (·.1)) → Ls w w1 w.heap.size (.slice none 0 0) gv' ((zAll Z i ++ ((Z i).take (k + 1)).flatten).map (·.1))) := by
       intro w1 gv' hL'
       have h1 := B.trans hL'
       rw [take_flat j3, ← List.append_assoc, List.map_append]
       exact h1
      unfold elV at CJ
      rw [hsl] at p3 CJ
      generalize (E i)[k].2.1 = k1 at *
      generalize (E i)[k].2.2.1 = n1 at *
      have i1 : (0 : Int) ≤ (k : Int) := by omega
      have i2 : (k : Int) < (M : Int) := by omega
      clear TJ B hfl hal hsl
      go_wp2_with (go_at_call 35; (with_reducible refine Calls.mono CJ ?_); rintro e' w1 ⟨gv', rfl, hL'⟩)
      have A' := HNX.out w1 gv' hL'
      go_roundw
      case rel => exact ⟨k + 1, by omega, by go_num, A'⟩
      case measure => simp [intOf]; omega
     ·have ek : (Z i).take k = Z i := List.take_of_length_le (by have := LN.out; omega)
      rw [ek] at B
      have A' : Ls w wq w.heap.size (.slice none 0 0) u3 ((zAll Z (i + 1)).map (·.1)) := B
      clear B
      go_wp2_with fail
      go_roundw
      case rel => exact ⟨i + 1, by omega, by go_num, A'⟩
      case measure => simp [intOf]; omega
  ·have e : i = N := by omega
   have hge : (N : Int) ≤ i := by omega
   rw [e] at HL
   have HLL : Hid (Ls w W0 w.heap.size (.slice none 0 0) u3 ((zAll Z N).map (·.1))) := HL
   have A0 : PbA (fun k => ∃ i, i < N ∧ (V i).ownBlock = some k) W0 W0 lo R N V n 0 { D := fun _ _ => False, M := fun _ => 0, C := fun _ => 0 } := by
    have H := HR0.out
    exact ⟨⟨rfl, rfl, rfl, Nat.le_refl _, fun _ _ _ => rfl⟩, ⟨fun _ _ _ h => h.elim, fun _ _ h => h.elim, fun _ _ h => h.elim, fun _ _ h => h.elim, fun _ _ h => h.elim, fun _ _ h => h.elim, fun _ _ h => h.elim, fun _ _ h => h.elim⟩, fun _ _ h => h.elim, fun a ha => (HL.low.cell (p := ⟨R, a, none⟩) hRl).trans (H.row a ha), fun _ h => h, fun a ha => by omega, fun a _ h4 => ⟨⟨_, own_stay (H.own a h4) HL.low⟩, fun _ _ _ h => h⟩⟩
   have hRl0 : R < W0.heap.size := Nat.lt_of_lt_of_le hRl HL.size
   have hn : ∀ i, i < N → n i ≤ 200000000 := HR0.out.few
   have hdis := HR0.out.dis
   have hRn := HR0.out.Rn
   clear HL e hlt hi4
   obtain ⟨i4, rfl⟩ : ∃ i4, i4 = i := ⟨_, rfl⟩
   have hdf : decide (i4 < N) = false := decide_eq_false (by omega)
   go_wp2_with fail
   clear hdf hge
   obtain ⟨S, HS⟩ : ∃ S : Nat → Prop, Hid (S = fun k => ∃ i, i < N ∧ (V i).ownBlock = some k) := ⟨_, by show _ = _; rfl⟩
   rw [← HS.out] at A0
   obtain ⟨wA, HWA⟩ : ∃ wA, Hid (wA = W0) := ⟨W0, by show _ = _; rfl⟩
   have A0 : PbA S wA W0 lo R N V n 0 { D := fun _ _ => False, M := fun _ => 0, C := fun _ => 0 } := by rw [HWA.out]; exact A0
   rw [← HWA.out] at HLL hRl0
   go_loopw [6] (fun iv wr => ∃ (i : Nat) (f : Fm), i ≤ N ∧ iv = .int .i64 i ∧ PbA S wA wr lo R N V n i f) (fun iv _ => N - (intOf iv).toNat)
   case atStart => exact ⟨0, _, by omega, by go_num, A0⟩
   case round =>
    obtain ⟨i, f, hi4, rfl, A⟩ := hrel
    clear A0
    obtain ⟨W0, rfl⟩ : ∃ W0, W0 = wr := ⟨_, rfl⟩
    by_cases hlt : i < N
    ·have hrow := A.row i hlt
     obtain ⟨⟨xs, hx⟩, hd⟩ := A.raw i (Nat.le_refl _) hlt
     have hni := hn i hlt
     have hi0 : (0 : Int) ≤ (i : Int) := by omega
     have hi1 : (i : Int) < (N : Int) := by omega
     rcases hx.2 with ⟨hv, h0⟩ | ⟨g, cap, cur, hv, hg, hgg, hnc, hcm, hcs, _⟩
     ·have A' := A.skip hv h0
      rw [hv] at hrow
      clear A hx hd
      go_wp2_with fail
      refine wp_loop_rounds 1 ?_
      rw [rounds_succ]
      go_wp2_with fail
      go_roundw
      case rel => exact ⟨i + 1, f, by omega, by go_num, A'⟩
      case measure => simp [intOf]; omega
     ·have hgR : g ≠ R := fun e => hRn i hlt (by rw [hv, e]; rfl)
      have hds : ∀ a, i < a → a < N → (V a).ownBlock ≠ some g := fun a h1 h2 e => by
       have := hdis a i g h2 hlt e (by rw [hv]; rfl)
       omega
      have hSg : S g := by rw [HS.out]; exact ⟨i, hlt, by rw [hv]; rfl⟩
      rw [hv] at hrow
      have B0 : PbB W0 W0 g i cap 0 := ⟨rfl, rfl, rfl, rfl, fun _ _ => rfl, cur, hgg, hcs, fun j hj => by omega⟩
      have HR : Hid (R ≠ g) := Ne.symm hgR
      have hnm : n i ≤ 200000000 := hni
      clear hx hd hgg hcs
      obtain ⟨M, hM⟩ : ∃ M, M = n i := ⟨_, rfl⟩
      rw [← hM] at hrow hnm hnc
      have HM : Hid (M = n i) := hM
      clear hM
      go_wp2_with fail
      go_loopw [7] (fun kv wq => ∃ k : Nat, k ≤ M ∧ kv = .int .i64 k ∧ PbB W0 wq g i cap k) (fun kv _ => M - (intOf kv).toNat)
      case atStart => exact ⟨0, by omega, by go_num, B0⟩
      case round =>
       obtain ⟨k, hk, rfl, B⟩ := hrel
       obtain ⟨wq, rfl⟩ : ∃ wq, wq = wr := ⟨_, rfl⟩
       obtain ⟨cur', c1, c2, c3⟩ := B.this
       have hrow' : wq.cell? ⟨R, i, none⟩ = some (.slice (some ⟨g, 0, none⟩) M cap) := by
        rw [World.cell?_of_block (a := ⟨R, i, none⟩) (B.other R HR.out)]
        exact hrow
       clear B0
       by_cases hkl : k < M
       ·have hk4 : k * 4 + 3 < cur'.size := by omega
        have q0 : wq.cell? ⟨g, k * 4, none⟩ = some cur'[k * 4] := (cell_block c1).trans (Array.getElem?_eq_getElem (by omega))
        have q1 : wq.cell? ⟨g, k * 4 + 1, none⟩ = some cur'[k * 4 + 1] := (cell_block c1).trans (Array.getElem?_eq_getElem (by omega))
        have q2 : wq.cell? ⟨g, k * 4 + 2, none⟩ = some cur'[k * 4 + 2] := (cell_block c1).trans (Array.getElem?_eq_getElem (by omega))
        have q3 : wq.cell? ⟨g, k * 4 + 3, none⟩ = some cur'[k * 4 + 3] := (cell_block c1).trans (Array.getElem?_eq_getElem (by omega))
        have z0 : wq.frozen? ⟨g, k * 4, none⟩ = false := frozen_block c1
        have z1 : wq.frozen? ⟨g, k * 4 + 1, none⟩ = false := frozen_block c1
        have z2 : wq.frozen? ⟨g, k * 4 + 2, none⟩ = false := frozen_block c1
        have z3 : wq.frozen? ⟨g, k * 4 + 3, none⟩ = false := frozen_block c1
        generalize cur'[k * 4] = x0 at q0
        generalize cur'[k * 4 + 1] = x1 at q1
        generalize cur'[k * 4 + 2] = x2 at q2
        generalize cur'[k * 4 + 3] = x3 at q3
        have B' := B.step (by omega : k < cap)
        clear B c1 c2 c3 hk4
        go_wp2_with fail
        go_roundw
        case rel => exact ⟨k + 1, by omega, by go_num, B'⟩
        case measure => simp [intOf]; omega
       ·have ek : k = n i := by have := HM.out; omega
        rw [ek] at B
        have A' := A.next hlt (by rw [hv, ← HM.out]) hSg hgR (by rw [← HM.out]; exact hnc) hcm B hds
        clear A B c1 c2 c3
        go_wp2_with fail
        go_roundw
        case rel => exact ⟨i + 1, _, by omega, by go_num, A'⟩
        case measure => simp [intOf]; omega
    ·have e : i = N := by omega
     have hge : (N : Int) ≤ i := by omega
     rw [e] at A
     have C0 : PbC S wA W0 R N V n 0 0 f (.slice none 0 0) (.slice none 0 0) [] := ⟨A.kp, A.inv, A.dS, A.row, A.notR, A.done, rfl, fun q hq => by omega, World.ownsRow_nil _ _ _ _, fun k hk => by simp [Value.ownBlock] at hk, World.ownsRow_nil _ _ _ _, fun k hk => by simp [Value.ownBlock] at hk, fun k hk => by simp [Value.ownBlock] at hk⟩
     clear A e hlt hi4
     obtain ⟨i4, rfl⟩ : ∃ i4, i4 = i := ⟨_, rfl⟩
     have hdf : decide (i4 < N) = false := decide_eq_false (by omega)
     go_wp2_with fail
     clear hdf hge
     go_loopw [8, 9, 10] (fun gv wv iv wr => ∃ (i : Nat) (f : Fm) (L : List Value), i ≤ N ∧ iv = .int .i64 i ∧ PbC S wA wr R N V n (9 * i) (9 * i) f gv wv L) (fun _ _ iv _ => N - (intOf iv).toNat)
     case atStart => exact ⟨0, f, [], by omega, by go_num, C0⟩
     case round =>
      obtain ⟨i, f, L, hi4, rfl, C⟩ := hrel
      obtain ⟨W1, rfl⟩ : ∃ W1, W1 = wr := ⟨_, rfl⟩
      clear C0
      by_cases hlt : i < N
      ·have hrow := C.row i hlt
       have hVi := C.vals i hlt
       have hlt' : (i : Int) < (N : Int) := by omega
       have hi0 : (0 : Int) ≤ (i : Int) := by omega
       have hni := hn i hlt
       obtain ⟨vi, HVI⟩ : ∃ vi, Hid (vi = V i) := ⟨V i, by show _ = _; rfl⟩
       rw [← HVI.out] at hrow hVi
       go_wp2_with fail
       go_loopw [8, 9, 11, 12] (fun gv wv lv tv wr => ∃ (t : Nat) (f : Fm) (L : List Value), t ≤ 9 ∧ tv = .int .i64 t ∧ PbC S wA wr R N V n (9 * i + t) (9 * i + t) f gv wv L ∧ Val f i lv (n i + t)) (fun _ _ _ tv _ => 9 - (intOf tv).toNat)
       case atStart => exact ⟨0, f, L, by omega, by go_num, C, hVi⟩
       case round =>
        obtain ⟨t, f, L, ht, rfl, P, hl⟩ := hrel
        obtain ⟨W2, rfl⟩ : ∃ W2, W2 = wr := ⟨_, rfl⟩
        clear C hVi
        have hsz2 := P.kp.size
        by_cases ht2 : t < 9
        ·obtain ⟨v', W', f', run, hI', hV', hext, hoff⟩ := famB_append 0 (W2.alloc (.cells #[.string ⟨#[]⟩, mkV i, .string ⟨#[]⟩, .slice none 0 0] 48)) f i (n i + t) 1 W2.heap.size u11 36 (0, 0) (P.inv.below ((Below.refl _ _).alloc (Nat.le_refl _) _)) (by omega) hl (heap_alloc_new W2 _) (by omega) (by omega) (by omega)
         have PF := (P.below ((Below.refl _ _).alloc (Nat.le_refl _) (.cells #[.string ⟨#[]⟩, mkV i, .string ⟨#[]⟩, .slice none 0 0] 48)) hRl0).fam hRl0 hI' hext hoff
         obtain ⟨ad', cp', rfl⟩ := hV'.form
         have hdiv : (9 * i + t) / 9 = i := by omega
         have hsz' : W2.heap.size + 1 ≤ W'.heap.size := by have := hoff.size; simpa using this
         have ownW := PF.own
         have HPF : Hid (PbC S wA W' R N V n (9 * i + t) (9 * i + t) f' u8 u9 L) := PF
         have HP2 : Hid (∀ (g' cap' : Nat) (W3 : World), W3.ownsRow wA.heap.size 23 1 (.slice (some ⟨g', 0, none⟩) (9 * i + t + 1) cap') (9 * i + t + 1) (L ++ [.slice ad' (n i + t + 1) cp']) → (W'.alloc (.cells #[.slice ad' (n i + t + 1) cp'] 23)).grownBy W3 u8.ownBlock → (u8.ownBlock = some g' ∨ g' = W'.heap.size + 1) →
           PbC S wA W3 R N V n (9 * i + t + 1) (9 * i + t) f' (.slice (some ⟨g', 0, none⟩) (9 * i + t + 1) cap') u9 (L ++ [.slice ad' (n i + t + 1) cp']) ∧ W'.heap.size + 1 ≤ W3.heap.size) := by
          intro g' cap' W3 hown3 hgr hat
          exact ⟨HPF.out.put hRl0 (by rw [hdiv]; exact hV') (by omega) hown3 hgr hat, by have := hgr.size; simpa using this⟩
         have HIV : Hid (∀ (W3 : World) (gv : Value) (L' : List Value), PbC S wA W3 R N V n (9 * i + t + 1) (9 * i + t) f' gv u9 L' → ∀ (g' cap' : Nat) (W4 : World), W4.ownsRow wA.heap.size 3 1 (.slice (some ⟨g', 0, none⟩) (9 * i + t + 1) cap') (9 * i + t + 1) ((List.range (9 * i + t)).map (fun q => (.int .i64 ((q / 9 : Nat) : Int) : Value)) ++ [.int .i64 (i : Int)]) → (W3.alloc (.cells #[.int .i64 (i : Int)] 3)).grownBy W4 u9.ownBlock → (u9.ownBlock = some g' ∨ g' = W3.heap.size + 1) →
           PbC S wA W4 R N V n (9 * i + t + 1) (9 * i + t + 1) f' gv (.slice (some ⟨g', 0, none⟩) (9 * i + t + 1) cap') L') := by
          intro W3 gv L' PP g' cap' W4 hown4 hgr hat
          exact PP.put2 hRl0 (by rw [hdiv]; exact hown4) hgr hat
         have HV' : Hid (Val f' i (.slice ad' (n i + t + 1) cp') (n i + t + 1)) := hV'
         clear PF hoff hI' hext hV' P hl
         go_wp2_with (first | (at_builtin; refine Lib.wpList_append_run _ rfl _ _ 23 23 rfl _ _ rfl rfl _ _ run ?_; clear run) | (at_builtin; refine wpList_append_lies _ rfl _ _ 45 rfl wA.heap.size 23 i0 _ 1 24 Tryz.underlying45 hi hz0 hz1 hz2 rfl (by decide) _ _ _ rfl (ownW.alloc _) ⟨W'.heap.size, 0, none⟩ 1 1 [.slice ad' (n i + t + 1) cp'] rfl rfl (World.news_of_block (heap_alloc_new W' _)) (by intro u hu; simp at hu; subst hu; rfl) (by omega) (by unfold maxLen; omega) (by omega) (by simp; omega) (W'.heap.size + 1) (by simp) ?_; intro g' cap' W3 hown3 hgr3 hat3 hlt3; obtain ⟨PP, hs3⟩ := HP2.out g' cap' W3 hown3 hgr3 hat3; have own2 := PP.own2; clear ownW hown3 hgr3 hat3) | (at_builtin; refine wpList_append_lies _ rfl _ _ 72 rfl wA.heap.size 3 j0 _ 1 8 Tryz.underlying72 ji jz0 jz1 jz2 rfl (by decide) _ _ _ rfl (own2.alloc _) ⟨W3.heap.size, 0, none⟩ 1 1 [.int .i64 (i : Int)] rfl rfl (World.news_of_block (heap_alloc_new W3 _)) (by intro u hu; simp at hu; subst hu; rfl) (by omega) (by unfold maxLen; omega) (by omega) (by simp; omega) (W3.heap.size + 1) (by simp) ?_; intro g4 cap4 W4 hown4 hgr4 hat4 hlt4; have P4 := HIV.out W3 _ _ PP g4 cap4 W4 hown4 hgr4 hat4; clear own2 hown4 hgr4 hat4))
         go_roundw
         case rel => exact ⟨t + 1, f', _, by omega, by go_num, P4, HV'.out⟩
         case measure => simp [intOf]; omega
        ·have et : t = 9 := by omega
         have ht2' : ¬ (t : Int) < 9 := by omega
         subst et
         have P' : PbC S wA W2 R N V n (9 * (i + 1)) (9 * (i + 1)) f u8 u9 L := by rw [show 9 * (i + 1) = 9 * i + 9 by omega]; exact P
         clear P hl hrow
         go_wp2_with fail
         go_roundw
         case rel => exact ⟨i + 1, f, _, by omega, by go_num, P'⟩
         case measure => simp [intOf]; omega
      ·have e4 : i = N := by omega
       have hge3 : (N : Int) ≤ i := by omega
       rw [e4] at C
       obtain ⟨gb, cb, rfl, _, _⟩ := C.own.form (by omega)
       obtain ⟨hb, hc, rfl, _, _⟩ := C.own2.form (by omega)
       have IV : Hid (InvB 0 W1 f) := C.inv
       have GR : Hid (∀ q, q < 9 * N → ∃ m u, m ≤ 300000000 ∧ W1.cell? ⟨gb, q, none⟩ = some u ∧ W1.cell? ⟨hb, q, none⟩ = some (.int .i64 ((q / 9 : Nat) : Int)) ∧ Val f (q / 9) u m) := fun q hq => by
        obtain ⟨m, u, h1, h2, h3⟩ := C.each q (by omega)
        exact ⟨m, u, h1, (C.own.cellAt q (by omega)).trans h2, (C.own2.cellAt q (by omega)).trans (by simp [hq]), h3⟩
       have KP : Hid (Kp S wA W1) := C.kp
       have hcb : 9 * N ≤ cb := by
        rcases C.own.2 with ⟨h', _⟩ | ⟨g'', cap'', cur'', h', _, _, hnc, _⟩
        ·simp at h'
        ·simp only [Value.slice.injEq, Option.some.injEq, Addr.mk.injEq, and_true, true_and] at h'
         omega
       have hch : 9 * N ≤ hc := by
        rcases C.own2.2 with ⟨h', _⟩ | ⟨g'', cap'', cur'', h', _, _, hnc, _⟩
        ·simp at h'
        ·simp only [Value.slice.injEq, Option.some.injEq, Addr.mk.injEq, and_true, true_and] at h'
         omega
       clear C e4 hlt hi4 hdis hRn
       obtain ⟨i3, rfl⟩ : ∃ i3, i3 = i := ⟨_, rfl⟩
       have hdf3 : decide (i3 < N) = false := decide_eq_false (by omega)
       go_wp2_with fail
       clear hdf3 hge3
       go_loopw [13] (fun av wr => ∃ a q : Nat, a ≤ 9 * N ∧ av = .int .i64 a ∧ wr = W1.drewN q) (fun av _ => 9 * N - (intOf av).toNat)
       case atStart => exact ⟨0, 0, by omega, by go_num, rfl⟩
       case round =>
        obtain ⟨a, q, ha4, rfl, rfl⟩ := hrel
        by_cases ha : a < 9 * N
        ·have ha' : (a : Int) < ((9 * N : Nat) : Int) := by omega
         have ha0 : (0 : Int) ≤ (a : Int) := by omega
         obtain ⟨m, u, hm3, LDA, LDB, hVal⟩ := GR.out a ha
         rcases hVal with ⟨hnil, hm0⟩ | ⟨gg, hsl, hD, hmM⟩
         ·rw [hnil] at LDA
          go_wp2_with fail
          refine wp_loop_rounds 1 ?_
          rw [rounds_succ]
          go_wp2_with fail
          go_roundw
          case rel => exact ⟨a + 1, q, by omega, by go_num, by first | rfl | trivial⟩
          case measure => simp [intOf]; omega
         ·rw [hsl] at LDA
          have HM : Hid (∀ k, k < m → W1.cell? ⟨gg, k * 4 + 1, none⟩ = some (mkV (a / 9))) := fun k hk => IV.out.mark gg (a / 9) hD k (by omega)
          have HCm : Hid (m ≤ f.C gg) := by have := IV.out.mc gg (a / 9) hD; show m ≤ f.C gg; omega
          generalize f.C gg = cc at LDA HCm
          have hcc := HCm.out
          have hwr : IntKind.i64.wrap (-1 - ((a / 9 : Nat) : Int)) = -1 - ((a / 9 : Nat) : Int) := by rw [IntKind.wrap_i64]; omega
          generalize a / 9 = ai at *
          clear hD hmM hsl
          go_wp2_with fail
          go_loopw [14] (fun kv wr => ∃ k q : Nat, k ≤ m ∧ kv = .int .i64 k ∧ wr = W1.drewN q) (fun kv _ => m - (intOf kv).toNat)
          case atStart => exact ⟨0, q, by omega, by go_num, rfl⟩
          case round =>
           obtain ⟨k, q, hk, rfl, rfl⟩ := hrel
           by_cases hkm : k < m
           ·have qk := HM.out k hkm
            have k0 : (0 : Int) ≤ (k : Int) := by omega
            have k1 : (k : Int) < (m : Int) := by omega
            go_wp2_with fail
            go_quiet (fail)
            go_wp2_with fail
            go_roundw
            case rel => exact ⟨k + 1, q + nq, by omega, by go_num, by first | rfl | trivial⟩
            case measure => simp [intOf]; omega
           ·go_wp2_with fail
            go_roundw
            case rel => exact ⟨a + 1, q, by omega, by go_num, by first | rfl | trivial⟩
            case measure => simp [intOf]; omega
        ·have ha' : ¬ (a : Int) < ((9 * N : Nat) : Int) := by omega
         have H := HR0.out
         have hLs := HLL.out
         have kp := KP.out
         have hBA : w.heap.size ≤ wA.heap.size := hLs.size
         have hlo : ∀ k, S k → lo ≤ k := fun k hk => by
          rw [HS.out] at hk
          obtain ⟨i, hi, e⟩ := hk
          exact ((H.own i hi).lt k e).1
         have hhi : ∀ k, S k → k < w.heap.size := fun k hk => by
          rw [HS.out] at hk
          obtain ⟨i, hi, e⟩ := hk
          exact ((H.own i hi).lt k e).2
         have hpS : ∀ p ∈ zAll Z N, ∀ g, p.1.ownBlock = some g → ¬ S g := fun p hp g hg hk => by
          rw [HS.out] at hk
          obtain ⟨i, hi, e⟩ := hk
          exact H.away i hi p hp (by rw [hg, e])
         have hbel : Below lo w (W1.drewN q) := ⟨kp.os.trans hLs.os, kp.tape.trans hLs.tape, kp.output.trans hLs.output, Nat.le_trans hBA kp.size, fun k hk => (kp.block k (by omega) fun e => by have := hlo k e; omega).trans (hLs.low.block k (by omega))⟩
         have CO := owned_rows (W1.drewN q) lo w.heap.size u3 (zAll Z N) (Nat.le_trans hlw hbel.size) (by
          have := hLs.own
          rw [List.length_map] at this
          exact own_keep this fun k hk => kp.block k (this.lt k hk).2 fun e => by have := hhi k e; have := (hLs.own.lt k hk).1; omega) H.num.1 (fun p hp => by
          obtain ⟨i, hi, hpi⟩ := zAll_of Z hp
          obtain ⟨l, hl, hpl⟩ := List.mem_flatten.1 hpi
          obtain ⟨j, hj, rfl⟩ := List.getElem_of_mem hl
          obtain ⟨l1, l2, l3⟩ := H.len i hi
          obtain ⟨xs, hxs⟩ := TyO.each _ _ _ _ (H.each i hi j (by omega) (by omega) hj) p hpl
          exact ⟨xs, own_keep hxs fun k hk => (kp.block k (Nat.lt_of_lt_of_le (hxs.lt k hk).2 hBA) (hpS p hp k hk)).trans (hLs.low.block k (hxs.lt k hk).2)⟩) H.num.2 H.sep.sep
         have HF : Hid (∀ wf, Below lo (W1.drewN q) wf → Below lo w wf) := fun wf h => hbel.trans h
         clear H hLs kp hlo hhi hpS hbel
         go_wp2_with (go_at_call 36; (with_reducible refine Calls.mono CO ?_); rintro e' wf ⟨rfl, hbf⟩)
         go_ret
         exact ⟨rfl, HF.out _ hbf⟩
end Go.Proofs.YtikpipenhamdbaaGreat
