/- Load: what stands between its steps. Load, whole. -/
import Derived.Test.YtlpnegnpejpdkaaGreatDoorMpx
import Derived.Test.YtlpnegnpejpdkaaGreatDoorRo
import Derived.Test.YtlpnegnpejpdkaaGreatDoorKp
namespace Go.Proofs.YtlpnegnpejpdkaaGreatDoor
open Go.RowKit

theorem nbr_any {w : World} {u : Value} {b : Byt} (hb : Bts w u b) (hl : b.length ≤ 8388608) : Calls Tryz.prog 63 #[u] w fun r w' => NB w (bodyR b) r w' := by
  by_cases h4 : b.length < 4
  · have e : bodyR b = none := by unfold bodyR; rw [if_pos (.inl (by omega))]
    rw [e]
    exact nbr_short hb h4
  · exact nbr_long hb (by omega) hl
theorem load_body (b : Byt) : loadP b = match bodyR b with
    | some m => (match tabR m with
      | some (t, []) => if checkP t = 0 then some t else none
      | _ => none)
    | none => none := by
  unfold loadP bodyR
  split <;> rfl
theorem bodyR_len {b m : Byt} (h : bodyR b = some m) : m.length ≤ b.length := by
  unfold bodyR at h
  split at h
  · cases h
  · obtain rfl := Option.some.inj h
    rw [List.length_drop, List.length_take]
    omega
theorem tab_lens {t : Tab} {l r : Byt} (h : tabR l = some (t, r)) : t.1.length ≤ 2000 ∧ t.2.length ≤ 2000 ∧ ∀ g ∈ t.2, g.2.2.length ≤ 8000 := by
  obtain ⟨n, q, h1, h2⟩ := bind_some h
  obtain ⟨s, p, h3, h4⟩ := bind_some h2
  obtain ⟨k, o, h5, h6⟩ := bind_some h4
  obtain ⟨c, m, h7, h8⟩ := bind_some h6
  simp only [Option.some.injEq, Prod.mk.injEq] at h8
  obtain ⟨rfl, rfl⟩ := h8
  have hl : ∀ (n left : Nat) (l r : Byt) (s : List Glb), glbsR n left l = some (s, r) → s.length = n := by
    intro n
    induction n with
    | zero => intro left l r s h; cases h; rfl
    | succ n ih =>
      intro left l r s h
      obtain ⟨a, q, h1, h2⟩ := bind_some h
      obtain ⟨t, p, h3, h4⟩ := bind_some h2
      cases h4
      rw [List.length_cons, ih _ _ _ _ h3]
  refine ⟨?_, ?_, fun g hg => ?_⟩
  · show s.length ≤ _
    rw [times_len _ _ _ _ h3]
    exact (cnt_is h1).2.1
  · show c.length ≤ _
    rw [hl _ _ _ _ _ h7]
    exact (cnt_is h5).2.1
  · obtain ⟨left, l1, r1, h9⟩ := glbs_mem _ _ _ _ _ h7 g hg
    have := (glb_is h9).2
    omega
/-- A table that was made, as Check takes it. -/
theorem TabR.tabV {w : World} {B : Nat} {sv gv : Value} {raws : List (Byt × Int × Value)} {t : Tab} (h : TabR w B sv gv raws t) (h1 : t.1.length < 140737488355328) (h2 : t.2.length < 140737488355328) (hc : ∀ g ∈ t.2, g.2.2.length < 140737488355328) : TabV w (fun y => y < w.heap.size) sv gv t := by
  refine ⟨(OwnN.rowE h.shp).on (Keeps.refl _ _) (Keeps.refl _ _) (fun y hy => hy.2) fun y hy => hy.elim (fun e => e.elim) fun e => e.2, ?_, h1, h2⟩
  have hg := OwnN.rowE h.glb
  rcases hg with ⟨h0, ad, cap, rfl⟩ | ⟨g, o, cap, rfl, h0, hcp, hh⟩
  · refine .inl ⟨?_, ad, cap, rfl⟩
    have := h.len
    rw [h0] at this
    exact List.length_eq_zero_iff.1 this.symm
  · refine .inr ⟨g, o, cap, by rw [h.len], fun e => h0 (List.length_eq_zero_iff.1 (by rw [h.len, e]; rfl)), by rw [← h.len]; exact hcp, fun j hj => ?_⟩
    have hj2 : j < raws.length := by rw [h.len]; exact hj
    obtain ⟨⟨_, hlt⟩, cs, ⟨rfl, q1, q2⟩, q3⟩ := hh j hj2
    obtain ⟨c1, c2, c3⟩ := h.cod j hj2 hj
    refine ⟨hlt, _, ⟨raws[j].2.2, rfl, by rw [← c1]; exact q1, hc _ (List.getElem_mem hj), ?_⟩, fun k hk => ?_⟩
    · exact (Own.rowE c3).on (Keeps.refl _ _) (Keeps.refl _ _) (fun y e => (c3.lt y e).2) fun _ h => h
    · rw [← c1, ← c2]
      exact q3 k hk
/-- Load's two results, in their variables. -/
structure LW (w wr : World) (a b c : Value) : Prop where
  xa : wr.heap[w.heap.size]? = some (.cells #[a, b] 25 (0, 0))
  xb : wr.heap[w.heap.size + 1]? = some (.cells #[c] 28 (0, 0))
  bel : Below w.heap.size w wr
theorem LW.on {w wr w' : World} {a b c : Value} (h : LW w wr a b c) (hb : Below (w.heap.size + 2) wr w') : LW w w' a b c :=
  ⟨(hb.block _ (by omega)).trans h.xa, (hb.block _ (by omega)).trans h.xb, h.bel.trans (hb.mono (by omega))⟩
theorem LW.size {w wr : World} {a b c : Value} (h : LW w wr a b c) : w.heap.size + 2 ≤ wr.heap.size := lt_heap h.xb
theorem LW.setA {w wr : World} {a b c : Value} (h : LW w wr a b c) (a' b' : Value) : LW w ((wr.setCell ⟨w.heap.size, 0, none⟩ a').setCell ⟨w.heap.size, 1, none⟩ b') a' b' c := by
  have hs : ((wr.setCell ⟨w.heap.size, 0, none⟩ a').setCell ⟨w.heap.size, 1, none⟩ b').heap[w.heap.size + 1]? = wr.heap[w.heap.size + 1]? := by
    rw [Below.heap_setCell _ _ _ _ (show w.heap.size + 1 ≠ w.heap.size by omega), Below.heap_setCell _ _ _ _ (show w.heap.size + 1 ≠ w.heap.size by omega)]
  exact ⟨(setCell_block ((setCell_block h.xa (v := a') (i := 0)).trans rfl) (v := b') (i := 1)).trans rfl, hs.trans h.xb, (h.bel.setCell (p := ⟨w.heap.size, 0, none⟩) (Nat.le_refl _) _).setCell (p := ⟨w.heap.size, 1, none⟩) (Nat.le_refl _) _⟩
theorem LW.setB {w wr : World} {a b c : Value} (h : LW w wr a b c) (c' : Value) : LW w (wr.setCell ⟨w.heap.size + 1, 0, none⟩ c') a b c' := by
  have hs : (wr.setCell ⟨w.heap.size + 1, 0, none⟩ c').heap[w.heap.size]? = wr.heap[w.heap.size]? := Below.heap_setCell _ _ _ _ (show w.heap.size ≠ w.heap.size + 1 by omega)
  exact ⟨hs.trans h.xa, (setCell_block h.xb (v := c') (i := 0)).trans rfl, h.bel.setCell (p := ⟨w.heap.size + 1, 0, none⟩) (Nat.le_succ _) _⟩
theorem LW.facts {w wr : World} {a b c : Value} (h : LW w wr a b c) : (wr.cell? ⟨w.heap.size, 0, none⟩ = some a ∧ wr.cell? ⟨w.heap.size, 1, none⟩ = some b ∧ wr.cell? ⟨w.heap.size + 1, 0, none⟩ = some c) ∧ wr.frozen? ⟨w.heap.size, 0, none⟩ = false ∧ wr.frozen? ⟨w.heap.size, 1, none⟩ = false ∧ wr.frozen? ⟨w.heap.size + 1, 0, none⟩ = false :=
  ⟨⟨heap_cl h.xa rfl, heap_cl h.xa rfl, heap_cl h.xb rfl⟩, heap_frozen h.xa, heap_frozen h.xa, heap_frozen h.xb⟩
theorem res25 {w wr : World} {a b c : Value} (h : LW w wr a b c) {tm : Array Value} (h2 : tm[2]? = some (.pointer (some ⟨w.heap.size, 0, none⟩))) (h3 : tm[3]? = some (.pointer (some ⟨w.heap.size + 1, 0, none⟩))) : (results Tryz.f25 tm).run Tryz.prog wr = .ok (.tuple #[.agg #[a, b], c]) wr := by
  obtain ⟨⟨x0, x1, x2⟩, _⟩ := h.facts
  simp [results, Tryz.f25, go_sem, h2, h3, x0, x1, x2]
theorem lw_start (w : World) : LW w ((w.alloc (.cells #[.slice none 0 0, .slice none 0 0] 25)).alloc (.cells #[.int .i64 0] 28)) (.slice none 0 0) (.slice none 0 0) (.int .i64 0) := by
  have e2 : (w.alloc (.cells #[.slice none 0 0, .slice none 0 0] 25)).heap.size = w.heap.size + 1 := World.size_alloc _ _
  have hb1 : Below w.heap.size w (w.alloc (.cells #[.slice none 0 0, .slice none 0 0] 25)) := (Below.refl _ _).alloc (Nat.le_refl _) _
  have hb2 : Below (w.heap.size + 1) (w.alloc (.cells #[.slice none 0 0, .slice none 0 0] 25)) ((w.alloc (.cells #[.slice none 0 0, .slice none 0 0] 25)).alloc (.cells #[.int .i64 0] 28)) := by rw [← e2]; exact (Below.refl _ _).alloc (Nat.le_refl _) _
  exact ⟨(hb2.block _ (by omega)).trans (new_blk _ _), by rw [← e2]; exact new_blk _ _, hb1.trans (hb2.mono (by omega))⟩
end Go.Proofs.YtlpnegnpejpdkaaGreatDoor

namespace Go.Proofs.YtlpnegnpejpdkaaGreatDoor
open Go.RowKit

/-- What Load asks of memory. -/
structure LdIn (w : World) (u : Value) (b : Byt) : Prop where
  bts : Bts w u b
  len : b.length < 140737488355328
  first : FirstAt w
  rows : ∃ rd rcap, RowsAt w rd rcap
def nilT : Value := .agg #[.slice none 0 0, .slice none 0 0]
/-- What Load answers. -/
structure LdP (b : Byt) (w : World) (r : Ending) (w' : World) : Prop where
  long : 8388608 < b.length → r = .returned (.tuple #[nilT, .int .i64 2])
  bad : ¬ 8388608 < b.length → loadP b = none → r = .returned (.tuple #[nilT, .int .i64 171])
  good : ¬ 8388608 < b.length → ∀ t, loadP b = some t → ∃ sv gv raws Bt, r = .returned (.tuple #[.agg #[sv, gv], .int .i64 0]) ∧ w.heap.size ≤ Bt ∧ Hid (TabR w' Bt sv gv raws t)
  bel : Below w.heap.size w w'
theorem load_no {b m : Byt} (h1 : bodyR b = some m) (h2 : ¬ ∃ t, tabR m = some (t, [])) : loadP b = none := by
  rw [load_body, h1]
  show (match tabR m with | some (t, []) => _ | _ => _) = _
  split
  · next t h => exact absurd ⟨t, h⟩ h2
  · rfl
theorem load_if {b m : Byt} {t : Tab} (h1 : bodyR b = some m) (h2 : tabR m = some (t, [])) : loadP b = if checkP t = 0 then some t else none := by
  rw [load_body, h1]
  show (match tabR m with | some (t, []) => _ | _ => _) = _
  rw [h2]
set_option maxHeartbeats 16000000 in
set_option maxRecDepth 10000 in
theorem load_any {w : World} {u : Value} {b : Byt} (h : LdIn w u b) : Calls Tryz.prog 25 #[u] w fun r w' => LdP b w r w' := by
  obtain ⟨hb, hl63, hfirst, rd, rcap, hrows⟩ := h
  obtain ⟨W, hW⟩ : ∃ W, W = (w.alloc (.cells #[.slice none 0 0, .slice none 0 0] 25)).alloc (.cells #[.int .i64 0] 28) := ⟨_, rfl⟩
  have HL : Hid (LW w W (.slice none 0 0) (.slice none 0 0) (.int .i64 0)) := by rw [hW]; exact lw_start w
  obtain ⟨A, hA⟩ : ∃ A, A = w.heap.size := ⟨_, rfl⟩
  obtain ⟨B, hB⟩ : ∃ B, B = w.heap.size + 1 := ⟨_, rfl⟩
  have HAE : Hid (A = w.heap.size) := hA
  have HBE : Hid (B = w.heap.size + 1) := hB
  have hAB : A ≠ B := by omega
  have hBA : B ≠ A := by omega
  have hmf : ∀ (fn : Fn) (first cap : Array Value) (w : World), (Instr.makeFunc fn first cap).run Tryz.prog w = .ok (.func fn first cap) w := fun _ _ _ _ => rfl
  obtain ⟨F, hF⟩ : ∃ F : Ending → World → Prop, F = fun r w' => LdP b w r w' := ⟨_, rfl⟩
  rw [← hF]
  obtain ⟨ua, uc, rfl, _⟩ := id hb
  by_cases hlong : 8388608 < b.length
  · have e1 : ((b.length : Int) > 8388608) := by omega
    obtain ⟨⟨x0, x1, x2⟩, f0, f1, f2⟩ := HL.out.facts
    rw [← hB] at x2 f2
    rw [← hA] at x0 x1 f0 f1
    have HFE : Hid (∀ r w', LW w w' (.slice none 0 0) (.slice none 0 0) (.int .i64 2) → r = .returned (.tuple #[nilT, .int .i64 2]) → F r w') := fun r w' h1 h2 => by rw [hF]; exact ⟨fun _ => h2, fun h => absurd hlong h, fun h => absurd hlong h, h1.bel⟩
    clear hF hb hfirst hrows hA hB
    go_enter_defers Tryz.func25, Tryz.ntmps25
    go_upto_region 1 with fail
    rw [← hW, ← HBE.out, ← HAE.out]
    clear hW
    go_wp2
    have HZ := (HL.out.setA (.slice none 0 0) (.slice none 0 0)).setB (.int .i64 2)
    rw [← HBE.out, ← HAE.out] at HZ
    exact ⟨_, res25 HZ (by rw [HAE.out]; rfl) (by rw [HBE.out]; rfl), HFE.out _ _ HZ rfl⟩
  · have hl8 : b.length ≤ 8388608 := by omega
    have e1 : ¬ ((b.length : Int) > 8388608) := by omega
    have hbW : Bts W (.slice ua b.length uc) b := hb.on HL.out.bel
    have hWs : W.heap.size = w.heap.size + 2 := by rw [hW]; simp [World.size_alloc]
    have HBAD : Hid (∀ r w', LW w w' (.slice none 0 0) (.slice none 0 0) (.int .i64 171) → loadP b = none → r = .returned (.tuple #[nilT, .int .i64 171]) → F r w') := fun r w' h1 h2 h3 => by rw [hF]; exact ⟨fun h => absurd h hlong, fun _ _ => h3, fun _ t h => (by rw [h2] at h; cases h), h1.bel⟩
    have HGOOD : Hid (∀ r w' sv gv raws t Bt, w.heap.size ≤ Bt → LW w w' sv gv (.int .i64 0) → loadP b = some t → r = .returned (.tuple #[.agg #[sv, gv], .int .i64 0]) → TabR w' Bt sv gv raws t → F r w') := fun r w' sv gv raws t Bt h0 h1 h2 h3 h4 => by rw [hF]; exact ⟨fun h => absurd h hlong, fun _ h => (by rw [h2] at h; cases h), fun _ t' h => (by rw [h2] at h; cases h; exact ⟨sv, gv, raws, Bt, h3, h0, h4⟩), h1.bel⟩
    have CN := nbr_any hbW hl8
    have HCT : Hid (∀ (wr : World) (sv sg : Value), LW w wr sv sg (.int .i64 0) → ∀ (p : Nat), LW w wr sv sg (.int .i64 0)) := fun wr sv sg h _ => h
    have HCAUGHT : Hid (∀ wr, LW w wr (.slice none 0 0) (.slice none 0 0) (.int .i64 0) → CallsD Tryz.prog 62 #[.pointer (some ⟨A, 0, none⟩), .pointer (some ⟨B, 0, none⟩)] (.panicking [{ v := .iface 28 (.int .i64 171), recovered := false }]) wr fun e u' w' => e = .returned (.tuple #[]) ∧ u' = .panicking [{ v := .iface 28 (.int .i64 171), recovered := true }] ∧ LW w w' (.slice none 0 0) (.slice none 0 0) (.int .i64 171)) := fun wr hw => by
      obtain ⟨⟨x0, x1, x2⟩, f0, f1, f2⟩ := hw.facts
      rw [← hB] at x2 f2
      rw [← hA] at x0 x1 f0 f1
      refine (load_caught 171 [] wr x0 x1 x2 f0 f1 f2 hAB).mono ?_
      rintro e u' w' ⟨h1, h2, rfl⟩
      refine ⟨h1, h2, ?_⟩
      have HZ := (hw.setA (.slice none 0 0) (.slice none 0 0)).setB (.int .i64 171)
      rw [← hB, ← hA] at HZ
      exact HZ
    clear hb hF hA hB HCT
    cases hbd : bodyR b with
    | none =>
      rw [hbd] at CN
      replace CN : Calls Tryz.prog 63 #[.slice ua b.length uc] W fun r w' => r = .panicked [{ v := .iface 28 (.int .i64 171), recovered := false }] ∧ Hid (Below W.heap.size W w') := CN
      clear hbW
      go_enter_defers Tryz.func25, Tryz.ntmps25
      go_upto_region 1 with fail
      rw [← hW, ← HBE.out, ← HAE.out]
      clear hW
      go_wp2_with (go_at_call 63; (with_reducible refine Calls.mono CN ?_); rintro e2 w2 ⟨rfl, HH⟩)
      refine leaves_cons (f := 62) (args := #[.pointer (some ⟨A, 0, none⟩), .pointer (some ⟨B, 0, none⟩)]) (by simp) (by simp [go_sem]) ?_
      refine (HCAUGHT.out _ (HL.out.on (HH.out.mono (by omega)))).mono ?_
      rintro e9 u9 w9 ⟨rfl, rfl, hw⟩
      exact ⟨_, res25 hw (by rw [HAE.out]; rfl) (by rw [HBE.out]; rfl), HBAD.out _ _ hw (by rw [load_body, hbd]) rfl⟩
    | some m =>
      rw [hbd] at CN
      replace CN : Calls Tryz.prog 63 #[.slice ua b.length uc] W fun r w' => ∃ R, r = .returned (.pointer (some ⟨R, 0, none⟩)) ∧ Hid (Rd w' R 200000 m ∧ W.heap.size ≤ R ∧ Below W.heap.size W w') := CN
      have hml := bodyR_len hbd
      have hrW := hrows.below HL.out.bel
      have h1w : 1 < w.heap.size := World.block_lt_of_cell? w _ hrows.cell
      have hgw : ∀ g o, rd = some ⟨g, o, none⟩ → g < w.heap.size := fun g o e => by
        obtain ⟨g', o', e2, _, h3, _⟩ := hrows.row 0 (by decide)
        rw [e] at e2
        cases e2
        exact h3
      have HCT : Hid (∀ (wr : World) (R : Nat), Rd wr R 200000 m → W.heap.size ≤ R → Below W.heap.size W wr → Calls Tryz.prog 64 #[.pointer (some ⟨R, 0, none⟩)] wr fun r w' => RT wr R (tabR m) r w') := fun wr R h1 h2 h3 => rtab (hrW.below h3) h1 (by omega) (fun g o e => by have := hgw g o e; omega) (by omega)
      have HFI : Hid (FirstAt W) := hfirst.below HL.out.bel
      have HRO : Hid (RowsAt W rd rcap) := hrW
      clear hbW hrW
      go_enter_defers Tryz.func25, Tryz.ntmps25
      go_upto_region 1 with fail
      rw [← hW, ← HBE.out, ← HAE.out]
      clear hW
      by_cases hgood : ∃ t, tabR m = some (t, [])
      · obtain ⟨t, ht⟩ := hgood
        go_upto_region 5 with (first | (go_at_call 63; (with_reducible refine Calls.mono CN ?_); rintro e2 w2 ⟨R, rfl, H2⟩; have CT := HCT.out w2 R H2.out.1 H2.out.2.1 H2.out.2.2; rw [ht] at CT; replace CT : Calls Tryz.prog 64 #[.pointer (some ⟨R, 0, none⟩)] w2 fun r w' => ∃ sv gv raws, r = .returned (.agg #[sv, gv]) ∧ Hid (TabR w' (w2.heap.size + 2) sv gv raws t ∧ Rk w2 R w') := CT.mono fun r w' h => h.1 t rfl) | (go_at_call 64; (with_reducible refine Calls.mono CT ?_); rintro e3 w3 ⟨sv, gv, raws, rfl, H3⟩; have HL3 : Hid (LW w w3 (.slice none 0 0) (.slice none 0 0) (.int .i64 0)) := HL.out.on ((H2.out.2.2.mono (by omega)).trans (H3.out.2.1.mono (by have := H2.out.2.1; omega))); obtain ⟨⟨x0, x1, x2⟩, f0, f1, f2⟩ := HL3.out.facts; rw [← HBE.out] at x2 f2; rw [← HAE.out] at x0 x1 f0 f1; obtain ⟨sa, sc, hsv⟩ := H3.out.1.shp.len; obtain ⟨ga, gc, hgv⟩ := H3.out.1.glb.len; subst hsv; subst hgv))
        have HL4 : Hid (LW w ((w3.setCell ⟨A, 0, none⟩ (.slice sa t.1.length sc)).setCell ⟨A, 1, none⟩ (.slice ga raws.length gc)) (.slice sa t.1.length sc) (.slice ga raws.length gc) (.int .i64 0)) := by rw [HAE.out]; exact HL3.out.setA _ _
        have hA2 : A < w2.heap.size + 2 := by have := HAE.out; have := HL.out.size; have := H2.out.2.2.size; omega
        have HT4 : Hid (TabR ((w3.setCell ⟨A, 0, none⟩ (.slice sa t.1.length sc)).setCell ⟨A, 1, none⟩ (.slice ga raws.length gc)) (w2.heap.size + 2) (.slice sa t.1.length sc) (.slice ga raws.length gc) raws t) := H3.out.1.keep (fun y hy _ => by rw [Below.heap_setCell _ _ _ _ (show y ≠ A by omega), Below.heap_setCell _ _ _ _ (show y ≠ A by omega)]) (by rw [World.size_setCell, World.size_setCell]; exact Nat.le_refl _)
        have hB2 : w.heap.size + 2 ≤ w2.heap.size + 2 := by have := HL.out.size; have := H2.out.2.2.size; omega
        generalize (w3.setCell ⟨A, 0, none⟩ (.slice sa t.1.length sc)).setCell ⟨A, 1, none⟩ (.slice ga raws.length gc) = W4 at *
        clear HL3 x0 x1 x2 f0 f1 f2 H3 CT CN HCT
        obtain ⟨t1, t2, t3⟩ := tab_lens ht
        have CK := check_any (w := W4) (sv := .slice sa t.1.length sc) (gv := .slice ga raws.length gc) (t := t) ⟨HT4.out.tabV (by omega) (by omega) fun g hg => by have := t3 g hg; omega, hfirst.below HL4.out.bel, ⟨rd, rcap, hrows.below HL4.out.bel⟩, tab_small ht⟩
        obtain ⟨⟨x0, x1, x2⟩, f0, f1, f2⟩ := HL4.out.facts
        rw [← HBE.out] at x2 f2
        rw [← HAE.out] at x0 x1 f0 f1
        have HLD := load_if hbd ht
        by_cases hck : checkP t = 0
        · rw [hck] at CK
          rw [if_pos hck] at HLD
          have HLO : Hid (loadP b = some t) := HLD
          clear HLD hck
          go_wp2_with (go_at_call 11; (with_reducible refine Calls.mono CK ?_); rintro e5 w5 ⟨rfl, H5⟩; have HL5 : Hid (LW w w5 (.slice sa t.1.length sc) (.slice ga raws.length gc) (.int .i64 0)) := HL4.out.on (H5.out.mono HL4.out.size); obtain ⟨⟨x0, x1, x2⟩, f0, f1, f2⟩ := HL5.out.facts; rw [← HBE.out] at x2 f2; rw [← HAE.out] at x0 x1 f0 f1)
          have HZ := (HL5.out.setA (.slice sa t.1.length sc) (.slice ga raws.length gc)).setB (.int .i64 0)
          rw [← HBE.out, ← HAE.out] at HZ
          have HT5 : TabR (((w5.setCell ⟨A, 0, none⟩ (.slice sa t.1.length sc)).setCell ⟨A, 1, none⟩ (.slice ga raws.length gc)).setCell ⟨B, 0, none⟩ (.int .i64 0)) (w2.heap.size + 2) (.slice sa t.1.length sc) (.slice ga raws.length gc) raws t := (HT4.out.keep (fun y _ hy => H5.out.block y hy) H5.out.size).keep (fun y hy _ => by
            have := HBE.out
            have := HAE.out
            rw [Below.heap_setCell _ _ _ _ (show y ≠ B by omega), Below.heap_setCell _ _ _ _ (show y ≠ A by omega), Below.heap_setCell _ _ _ _ (show y ≠ A by omega)]) (by rw [World.size_setCell, World.size_setCell, World.size_setCell]; exact Nat.le_refl _)
          refine leaves_cons (f := 62) (args := #[.pointer (some ⟨A, 0, none⟩), .pointer (some ⟨B, 0, none⟩)]) (by simp) (by simp [go_sem]) ?_
          refine (load_idle _ _ _).mono ?_
          rintro e9 u9 w9 ⟨rfl, rfl, rfl⟩
          exact ⟨_, res25 HZ (by rw [HAE.out]; rfl) (by rw [HBE.out]; rfl), HGOOD.out _ _ _ _ _ _ (w2.heap.size + 2) (by omega) HZ HLO.out rfl HT5⟩
        · rw [if_neg hck] at HLD
          have HLO : Hid (loadP b = none) := HLD
          clear HLD
          go_wp2_with (go_at_call 11; (with_reducible refine Calls.mono CK ?_); rintro e5 w5 ⟨rfl, H5⟩; have HL5 : Hid (LW w w5 (.slice sa t.1.length sc) (.slice ga raws.length gc) (.int .i64 0)) := HL4.out.on (H5.out.mono HL4.out.size); obtain ⟨⟨x0, x1, x2⟩, f0, f1, f2⟩ := HL5.out.facts; rw [← HBE.out] at x2 f2; rw [← HAE.out] at x0 x1 f0 f1)
          have HZ := (HL5.out.setA (.slice none 0 0) (.slice none 0 0)).setB (.int .i64 171)
          rw [← HBE.out, ← HAE.out] at HZ
          refine leaves_cons (f := 62) (args := #[.pointer (some ⟨A, 0, none⟩), .pointer (some ⟨B, 0, none⟩)]) (by simp) (by simp [go_sem]) ?_
          refine (load_idle _ _ _).mono ?_
          rintro e9 u9 w9 ⟨rfl, rfl, rfl⟩
          exact ⟨_, res25 HZ (by rw [HAE.out]; rfl) (by rw [HBE.out]; rfl), HBAD.out _ _ HZ HLO.out rfl⟩
      · go_wp2_with (first | (go_at_call 63; (with_reducible refine Calls.mono CN ?_); rintro e2 w2 ⟨R, rfl, H2⟩; have CT : Calls Tryz.prog 64 #[.pointer (some ⟨R, 0, none⟩)] w2 fun r w' => r = .panicked [{ v := .iface 28 (.int .i64 171), recovered := false }] ∧ Hid (Rk w2 R w') := (HCT.out w2 R H2.out.1 H2.out.2.1 H2.out.2.2).mono fun r w' h => h.2 fun t e => hgood ⟨t, e⟩) | (go_at_call 64; (with_reducible refine Calls.mono CT ?_); rintro e3 w3 ⟨rfl, H3⟩))
        refine leaves_cons (f := 62) (args := #[.pointer (some ⟨A, 0, none⟩), .pointer (some ⟨B, 0, none⟩)]) (by simp) (by simp [go_sem]) ?_
        refine (HCAUGHT.out _ (HL.out.on ((H2.out.2.2.mono (by omega)).trans (H3.out.1.mono (by have := H2.out.2.1; omega))))).mono ?_
        rintro e9 u9 w9 ⟨rfl, rfl, hw⟩
        exact ⟨_, res25 hw (by rw [HAE.out]; rfl) (by rw [HBE.out]; rfl), HBAD.out _ _ hw (load_no hbd hgood) rfl⟩
end Go.Proofs.YtlpnegnpejpdkaaGreatDoor
