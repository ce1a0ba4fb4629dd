/- The four calls in one form each: an answer and a number, whatever it is. CodeBack's walk. -/
import Derived.Test.YtlpnegnpejpdkaaGreatDoorMox
import Derived.Test.YtlpnegnpejpdkaaGreatDoorPl
namespace Go.Proofs.YtlpnegnpejpdkaaGreatDoor
open Go.RowKit

theorem small_nil : Small ([], []) := fun g hg => by cases hg
theorem load_size {b : Byt} {x : Tab} (h : loadP b = some x) : x.1.length < 140737488355328 ∧ x.2.length < 140737488355328 ∧ (∀ g ∈ x.2, g.2.2.length < 140737488355328) ∧ Small x := by
  rw [load_body] at h
  split at h
  · split at h
    · rename_i m hm t ht
      split at h
      · cases h
        obtain ⟨t1, t2, t3⟩ := tab_lens ht
        exact ⟨by omega, by omega, fun g hg => by have := t3 g hg; omega, tab_small ht⟩
      · cases h
    · cases h
  · cases h
theorem tab_nil (w : World) (S : Nat → Prop) : TabV w S (.slice none 0 0) (.slice none 0 0) ([], []) := ⟨.inl ⟨rfl, none, 0, rfl⟩, .inl ⟨rfl, none, 0, rfl⟩, by decide, by decide⟩
theorem print_u {w : World} {sv gv : Value} {t : Tab} (h : PB w sv gv t) : Calls Tryz.prog 17 #[.agg #[sv, gv]] w fun r w' => ∃ (s : Byt) (e : Int), r = .returned (.tuple #[.string ⟨s.toArray⟩, .int .i64 e]) ∧ s.length ≤ 8388608 ∧ (e = 0 → checkP t = 0 ∧ s = textT t) ∧ Hid (Below w.heap.size w w') :=
  (print_any h).mono fun r w' hp => by
    by_cases hc : checkP t = 0
    · by_cases hl : 8388608 < (textT t).length
      · exact ⟨[], 4, hp.long hc hl, Nat.zero_le _, fun e => (by omega), hp.bel⟩
      · exact ⟨textT t, 0, hp.good hc hl, by omega, fun _ => ⟨hc, rfl⟩, hp.bel⟩
    · exact ⟨[], checkP t, hp.bad hc, Nat.zero_le _, fun e => absurd e hc, hp.bel⟩
theorem read_u {w : World} {s : Byt} (h : RdS w) (hs : s.length < 140737488355328) : Calls Tryz.prog 19 #[.string ⟨s.toArray⟩] w fun r w' => ∃ (sa : Option Addr) (sc : Nat) (ga : Option Addr) (gc : Nat) (f : Int) (x : Tab), r = .returned (.tuple #[.agg #[.slice sa x.1.length sc, .slice ga x.2.length gc], .int .i64 f]) ∧ (f = 0 → tableQ s = some x) ∧ (s.length ≤ 8388608 → ∀ y, tableQ s = some y → bigP y = false → f = 0) ∧ Hid (TabV w' (fun y => y < w'.heap.size) (.slice sa x.1.length sc) (.slice ga x.2.length gc) x ∧ Below w.heap.size w w' ∧ Small x) :=
  (read_any h hs).mono fun r w' hp => by
    by_cases hl : 8388608 < s.length
    · exact ⟨none, 0, none, 0, 2, ([], []), hp.long hl, fun e => (by omega), fun h => (by omega), tab_nil _ _, hp.bel, small_nil⟩
    · cases ht : tableQ s with
      | none => exact ⟨none, 0, none, 0, 170, ([], []), hp.bad hl ht, fun e => (by omega), fun _ y e => (by cases e), tab_nil _ _, hp.bel, small_nil⟩
      | some x =>
        cases hb : bigP x with
        | true => exact ⟨none, 0, none, 0, 4, ([], []), hp.big hl x ht hb, fun e => (by omega), fun _ y e h => (by cases e; rw [hb] at h; cases h), tab_nil _ _, hp.bel, small_nil⟩
        | false =>
          obtain ⟨sv, gv, raws, Bt, h1, _, h2⟩ := hp.good hl x ht hb
          obtain ⟨z1, z2, z3⟩ := table_q_size ht
          have h3 := h2.out.tabV (by omega) (by omega) fun g hg => by have := z3 g hg; omega
          obtain ⟨sa, sc, rfl⟩ := RowK.len h3.shp
          obtain ⟨ga, gc, rfl⟩ := RowK.len h3.glb
          exact ⟨sa, sc, ga, gc, 0, x, h1, fun _ => rfl, fun _ _ _ _ => rfl, h3, hp.bel, table_small ht (by omega)⟩
theorem bytes_u {w : World} {sv gv : Value} {t : Tab} (h : CkIn w sv gv t) : Calls Tryz.prog 22 #[.agg #[sv, gv]] w fun r w' => ∃ (ba : Option Addr) (bc : Nat) (c : Byt) (g : Int), r = .returned (.tuple #[.slice ba c.length bc, .int .i64 g]) ∧ c.length ≤ 8388608 ∧ (g = 0 → checkP t = 0 ∧ c = bytesW t) ∧ (checkP t = 0 → (bytesW t).length ≤ 8388608 → g = 0) ∧ Hid (Bts w' (.slice ba c.length bc) c ∧ Below w.heap.size w w') :=
  (bytes_any h).mono fun r w' hp => by
    obtain ⟨h0, h1, h2, h3⟩ := hp
    have hnil : Bts w' (.slice none 0 0) [] := ⟨none, 0, rfl, fun i h => by simp at h⟩
    by_cases hc : checkP t = 0
    · by_cases hl : 8388608 < (bytesW t).length
      · exact ⟨none, 0, [], 4, h2 hc hl, Nat.zero_le _, fun e => (by omega), fun _ h => (by omega), hnil, h0.out⟩
      · obtain ⟨v, h4, h5⟩ := h3 hc hl
        have h6 := own_bts h5.out
        obtain ⟨ad, cap, rfl, h7⟩ := id h6
        exact ⟨ad, cap, bytesW t, 0, h4, by omega, fun _ => ⟨hc, rfl⟩, fun _ _ => rfl, h6, h0.out⟩
    · exact ⟨none, 0, [], checkP t, h1 hc, Nat.zero_le _, fun e => absurd e hc, fun e => absurd e hc, hnil, h0.out⟩
theorem load_u {w : World} {u : Value} {b : Byt} (h : LdIn w u b) : Calls Tryz.prog 25 #[u] w fun r w' => ∃ (sa : Option Addr) (sc : Nat) (ga : Option Addr) (gc : Nat) (f : Int) (x : Tab), r = .returned (.tuple #[.agg #[.slice sa x.1.length sc, .slice ga x.2.length gc], .int .i64 f]) ∧ (f = 0 → loadP b = some x ∧ b.length ≤ 8388608) ∧ (b.length ≤ 8388608 → ∀ y, loadP b = some y → f = 0) ∧ Hid (TabV w' (fun y => y < w'.heap.size) (.slice sa x.1.length sc) (.slice ga x.2.length gc) x ∧ Below w.heap.size w w' ∧ Small x) :=
  (load_any h).mono fun r w' hp => by
    by_cases hl : 8388608 < b.length
    · exact ⟨none, 0, none, 0, 2, ([], []), hp.long hl, fun e => (by omega), fun h => (by omega), tab_nil _ _, hp.bel, small_nil⟩
    · cases ht : loadP b with
      | none => exact ⟨none, 0, none, 0, 171, ([], []), hp.bad hl ht, fun e => (by omega), fun _ y e => (by cases e), tab_nil _ _, hp.bel, small_nil⟩
      | some x =>
        obtain ⟨sv, gv, raws, Bt, h1, _, h2⟩ := hp.good hl x ht
        obtain ⟨sa, sc, rfl⟩ := h2.out.shp.len
        obtain ⟨ga, gc, rfl⟩ := h2.out.glb.len
        rw [h2.out.len] at h1
        obtain ⟨k1, k2, k3, k4⟩ := load_size ht
        have h3 := h2.out.tabV k1 k2 k3
        rw [h2.out.len] at h3
        exact ⟨sa, sc, ga, gc, 0, x, h1, fun _ => ⟨rfl, by omega⟩, fun _ _ _ => rfl, h3, hp.bel, k4⟩
end Go.Proofs.YtlpnegnpejpdkaaGreatDoor

namespace Go.Proofs.YtlpnegnpejpdkaaGreatDoor
open Go.RowKit

set_option maxHeartbeats 16000000 in
set_option maxRecDepth 10000 in
theorem back_any {w : World} {S : Nat → Prop} {sv gv u : Value} {t : Tab} {s bb : Byt} (hA : AwIn w) (hS : ∀ b, S b → b < w.heap.size) (hT : TabV w S sv gv t) (hs : Small t) (hl : s.length < 140737488355328) (hb : Bts w u bb) (hbl : bb.length < 140737488355328) :
    Calls Tryz.prog 8 #[.agg #[sv, gv], .string ⟨s.toArray⟩, u] w fun r w' => r = .returned (.bool true) ∧ Hid (Below w.heap.size w w') := by
  have HA : Hid (∀ wr, Below w.heap.size w wr → AwIn wr) := fun wr hb => hA.below hb
  obtain ⟨F, hF⟩ : ∃ F : Ending → World → Prop, F = fun r w' => r = .returned (.bool true) ∧ Hid (Below w.heap.size w w') := ⟨_, rfl⟩
  rw [← hF]
  have HF : Hid (∀ wr, Below w.heap.size w wr → F (.returned (.bool true)) wr) := fun wr hb => by rw [hF]; exact ⟨rfl, hb⟩
  obtain ⟨sa, sc, rfl⟩ := RowK.len hT.shp
  obtain ⟨ga, gc, rfl⟩ := RowK.len hT.glb
  obtain ⟨ua, uc, rfl, _⟩ := id hb
  obtain ⟨Z, hZ⟩ : ∃ Z, Z = w.heap.size := ⟨_, rfl⟩
  obtain ⟨V, hV⟩ : ∃ V, V = w.alloc (.cells #[.slice sa t.1.length sc, .slice ga t.2.length gc] 25) := ⟨_, rfl⟩
  have bV : Below w.heap.size w V := by rw [hV]; exact (Below.refl _ _).alloc (Nat.le_refl _) _
  have mV : V.heap[Z]? = some (.cells #[.slice sa t.1.length sc, .slice ga t.2.length gc] 25 (0, 0)) := by rw [hV, hZ]; exact new_blk _ _
  have HT : Hid (∀ wr, Below w.heap.size w wr → TabV wr S (.slice sa t.1.length sc) (.slice ga t.2.length gc) t ∧ CkIn wr (.slice sa t.1.length sc) (.slice ga t.2.length gc) t) := fun wr hb => by
    have h1 := hT.on (Keeps.of hb hS)
    exact ⟨h1, h1.up fun b hb2 => Nat.lt_of_lt_of_le (hS b hb2) hb.size, (HA.out wr hb).first, (HA.out wr hb).rd.rows, hs⟩
  have HZ : Hid (∀ wr, Below V.heap.size V wr → (wr.cell? ⟨Z, 0, none⟩ = some (.slice sa t.1.length sc) ∧ wr.cell? ⟨Z, 1, none⟩ = some (.slice ga t.2.length gc)) ∧ Below w.heap.size w wr) := fun wr hb => ⟨⟨heap_cl ((hb.block Z (lt_heap mV)).trans mV) rfl, heap_cl ((hb.block Z (lt_heap mV)).trans mV) rfl⟩, bV.trans (hb.mono bV.size)⟩
  have HSS : Hid (∀ b, S b → b < w.heap.size) := hS
  have HZE : Hid (Z = w.heap.size) := hZ
  have CA := awake_any (HA.out V bV)
  clear hF hA hT hS mV hZ
  go_enter Tryz.func8, Tryz.ntmps8
  go_upto_region 1 with fail
  rw [← hV, ← HZE.out]
  clear hV
  go_upto_region 2 with (go_at_call 9; (with_reducible refine Calls.mono CA ?_); rintro e1 w1 ⟨rfl, H1⟩)
  obtain ⟨⟨x0, x1⟩, hw1⟩ := HZ.out w1 H1.out
  have CP := print_u ⟨(HT.out w1 hw1).2, (HA.out w1 hw1).rd.ops, (HA.out w1 hw1).rd.num.pt⟩
  clear CA
  go_upto_region 3 with (go_at_call 17; (with_reducible refine Calls.mono CP ?_); rintro e2 w2 ⟨s2, n2, rfl, hs2, hn2, H2⟩; have HB2 : Hid (Below V.heap.size V w2) := H1.out.trans (H2.out.mono H1.out.size); have HN2 : Hid (n2 = 0 → checkP t = 0 ∧ s2 = textT t) := hn2; clear hn2 CP)
  clear x0 x1 H1 H2 hw1
  have CR := read_u (HA.out w2 (HZ.out w2 HB2.out).2).rd (by omega : s2.length < 140737488355328)
  go_upto_region 4 with (go_at_call 19; (with_reducible refine Calls.mono CR ?_); rintro e3 w3 ⟨ra, rc, qa, qc, n3, y3, rfl, hn3, hm3, H3⟩)
  have HN3 : Hid (n2 = 0 → n3 = 0 ∧ sameP y3 t = true) := fun e => by
    obtain ⟨e1, e2⟩ := HN2.out e
    have e3 := read_printed e1 hs
    have e4 := hm3 hs2 t (by rw [e2]; exact e3) (fine_of e1).big
    have e5 := hn3 e4
    rw [e2, e3] at e5
    exact ⟨e4, same_yes (Option.some.inj e5).symm⟩
  have HB3 : Hid (Below V.heap.size V w3) := HB2.out.trans (H3.out.2.1.mono HB2.out.size)
  clear CR hn3 hm3 HN2 HB2
  obtain ⟨Z3, hZ⟩ : ∃ Z, Z = w3.heap.size := ⟨_, rfl⟩
  obtain ⟨V3, hV⟩ : ∃ V, V = w3.alloc (.cells #[.slice ra y3.1.length rc, .slice qa y3.2.length qc] 25) := ⟨_, rfl⟩
  rw [← hZ, ← hV]
  have b3 : Below w3.heap.size w3 V3 := by rw [hV]; exact (Below.refl _ _).alloc (Nat.le_refl _) _
  have mV : V3.heap[Z3]? = some (.cells #[.slice ra y3.1.length rc, .slice qa y3.2.length qc] 25 (0, 0)) := by rw [hV, hZ]; exact new_blk _ _
  have HV3 : Hid (Below V.heap.size V V3) := HB3.out.trans (b3.mono HB3.out.size)
  have hT3 : TabV V3 (fun b => b < V3.heap.size) (.slice ra y3.1.length rc) (.slice qa y3.2.length qc) y3 := (H3.out.1.on (Keeps.of b3 fun _ h => h)).up fun _ h => Nat.lt_of_lt_of_le h b3.size
  have HX3 : Hid (∀ wr, Below V3.heap.size V3 wr → (wr.cell? ⟨Z3, 0, none⟩ = some (.slice ra y3.1.length rc) ∧ wr.cell? ⟨Z3, 1, none⟩ = some (.slice qa y3.2.length qc)) ∧ TabV wr (fun b => b < V3.heap.size) (.slice ra y3.1.length rc) (.slice qa y3.2.length qc) y3) := fun wr hb => ⟨⟨heap_cl ((hb.block Z3 (lt_heap mV)).trans mV) rfl, heap_cl ((hb.block Z3 (lt_heap mV)).trans mV) rfl⟩, hT3.on (Keeps.of hb fun _ h => h)⟩
  clear hZ hV b3 mV hT3
  clear H3 HB3
  obtain ⟨⟨x0, x1⟩, hwv⟩ := HZ.out V3 HV3.out
  obtain ⟨⟨y0, y1⟩, hty⟩ := HX3.out V3 (Below.refl _ _)
  have CS := same_tab (fun b hb => hb) (fun b hb => Nat.lt_of_lt_of_le (HSS.out b hb) hwv.size) hty (HT.out V3 hwv).1
  clear hty
  go_upto_region 5 with (go_at_call 13; (with_reducible refine Calls.mono CS ?_); rintro e4 w4 ⟨rfl, H4⟩)
  have HB4 : Hid (Below V.heap.size V w4) := HV3.out.trans (H4.out.mono HV3.out.size)
  clear CS x0 x1 y0 y1 hwv H4 HV3 HX3
  obtain ⟨⟨x0, x1⟩, hwv⟩ := HZ.out w4 HB4.out
  have CB := bytes_u (HT.out w4 hwv).2
  go_upto_region 6 with (go_at_call 22; (with_reducible refine Calls.mono CB ?_); rintro e5 w5 ⟨ba, bc, c5, n5, rfl, hc5, hn5, hm5, H5⟩)
  have HB5 : Hid (Below V.heap.size V w5) := HB4.out.trans (H5.out.2.mono HB4.out.size)
  clear CB x0 x1 hwv hm5
  obtain ⟨_, hwv⟩ := HZ.out w5 HB5.out
  have CL := load_u (w := w5) (b := c5) ⟨H5.out.1, by omega, (HA.out w5 hwv).first, (HA.out w5 hwv).rd.rows⟩
  clear hwv
  go_upto_region 7 with (go_at_call 25; (with_reducible refine Calls.mono CL ?_); rintro e6 w6 ⟨la, lc, ka, kc, n6, y6, rfl, hn6, hm6, H6⟩)
  have HN6 : Hid (n5 = 0 → n6 = 0 ∧ sameP y6 t = true) := fun e => by
    obtain ⟨e1, e2⟩ := hn5 e
    have e3 := load_bytes e1 hs
    have e4 := hm6 hc5 t (by rw [e2]; exact e3)
    have e5 := (hn6 e4).1
    rw [e2, e3] at e5
    exact ⟨e4, same_yes (Option.some.inj e5).symm⟩
  have HB6 : Hid (Below V.heap.size V w6) := HB5.out.trans (H6.out.2.1.mono HB5.out.size)
  clear CL hn6 hm6 hn5 HB5 H5
  obtain ⟨Z6, hZ⟩ : ∃ Z, Z = w6.heap.size := ⟨_, rfl⟩
  obtain ⟨V6, hV⟩ : ∃ V, V = w6.alloc (.cells #[.slice la y6.1.length lc, .slice ka y6.2.length kc] 25) := ⟨_, rfl⟩
  rw [← hZ, ← hV]
  have b6 : Below w6.heap.size w6 V6 := by rw [hV]; exact (Below.refl _ _).alloc (Nat.le_refl _) _
  have mV : V6.heap[Z6]? = some (.cells #[.slice la y6.1.length lc, .slice ka y6.2.length kc] 25 (0, 0)) := by rw [hV, hZ]; exact new_blk _ _
  have HV6 : Hid (Below V.heap.size V V6) := HB6.out.trans (b6.mono HB6.out.size)
  have hT6 : TabV V6 (fun b => b < V6.heap.size) (.slice la y6.1.length lc) (.slice ka y6.2.length kc) y6 := (H6.out.1.on (Keeps.of b6 fun _ h => h)).up fun _ h => Nat.lt_of_lt_of_le h b6.size
  have HX6 : Hid (∀ wr, Below V6.heap.size V6 wr → (wr.cell? ⟨Z6, 0, none⟩ = some (.slice la y6.1.length lc) ∧ wr.cell? ⟨Z6, 1, none⟩ = some (.slice ka y6.2.length kc)) ∧ TabV wr (fun b => b < V6.heap.size) (.slice la y6.1.length lc) (.slice ka y6.2.length kc) y6) := fun wr hb => ⟨⟨heap_cl ((hb.block Z6 (lt_heap mV)).trans mV) rfl, heap_cl ((hb.block Z6 (lt_heap mV)).trans mV) rfl⟩, hT6.on (Keeps.of hb fun _ h => h)⟩
  clear hZ hV b6 mV hT6
  clear H6 HB6
  obtain ⟨⟨x0, x1⟩, hwv⟩ := HZ.out V6 HV6.out
  obtain ⟨⟨y0, y1⟩, hty⟩ := HX6.out V6 (Below.refl _ _)
  have CS := same_tab (fun b hb => hb) (fun b hb => Nat.lt_of_lt_of_le (HSS.out b hb) hwv.size) hty (HT.out V6 hwv).1
  clear hty
  go_upto_region 8 with (go_at_call 13; (with_reducible refine Calls.mono CS ?_); rintro e7 w7 ⟨rfl, H7⟩)
  have HB7 : Hid (Below V.heap.size V w7) := HV6.out.trans (H7.out.mono HV6.out.size)
  clear CS x0 x1 y0 y1 hwv H7 HV6 HX6
  rename_i K10 a10 K8 a8
  have hK10 : ∀ (t0 t3 t4 t5 t6 t7 t8 t9 t10 t11 t12 t13 t14 t15 t16 t17 t18 t19 t20 t21 t22 t23 t24 t25 t26 t27 t28 t29 t30 t31 t32 t33 t34 t35 t36 t37 t38 t39 t40 t41 t42 t43 t44 t45 t46 t47 t48 t49 t50 t51 t52 t53 t54 t55 t56 t57 t58 t59 t60 t61 t62 t63 t64 t65 t66 t67 t68 t69 t70 t71 t72 t73 t74 t75 t76 t77 t78 t79 t80 t81 t82 : Value) (W10 : World), Hid (Below V.heap.size V W10) → K10 { tmps := #[t0, .string ⟨s.toArray⟩, .slice ua bb.length uc, t3, t4, t5, t6, t7, t8, t9, t10, t11, t12, t13, t14, t15, t16, t17, t18, t19, t20, t21, t22, t23, t24, t25, t26, t27, t28, t29, t30, t31, t32, t33, t34, t35, t36, t37, t38, t39, t40, t41, t42, t43, t44, t45, t46, t47, t48, t49, t50, t51, t52, t53, t54, t55, t56, t57, t58, t59, t60, t61, t62, t63, t64, t65, t66, t67, t68, t69, t70, t71, t72, t73, t74, t75, t76, t77, t78, t79, t80, t81, t82, undef, undef, undef, undef, undef, undef, undef, undef, undef, undef, undef, undef, undef, undef, undef, undef, undef, undef, undef, undef, undef, undef, undef, undef, undef, undef, undef, undef, undef, undef, undef, undef, undef, undef, undef, undef, undef, undef, undef, undef, undef, undef, undef, undef, undef, undef, undef, undef, undef, undef, undef, undef, undef, undef], defers := [] } W10 := by
    intro t0 t3 t4 t5 t6 t7 t8 t9 t10 t11 t12 t13 t14 t15 t16 t17 t18 t19 t20 t21 t22 t23 t24 t25 t26 t27 t28 t29 t30 t31 t32 t33 t34 t35 t36 t37 t38 t39 t40 t41 t42 t43 t44 t45 t46 t47 t48 t49 t50 t51 t52 t53 t54 t55 t56 t57 t58 t59 t60 t61 t62 t63 t64 t65 t66 t67 t68 t69 t70 t71 t72 t73 t74 t75 t76 t77 t78 t79 t80 t81 t82 W10 HW10
    refine a10 _ _ ?_
    clear a10 a8 K8 K10
    obtain ⟨_, hwv⟩ := HZ.out W10 HW10.out
    have hbW : Bts W10 (.slice ua bb.length uc) bb := hb.on hwv
    have CL := load_u (w := W10) (b := bb) ⟨hbW, hbl, (HA.out W10 hwv).first, (HA.out W10 hwv).rd.rows⟩
    clear hwv
    go_upto_region 11 with (go_at_call 25; (with_reducible refine Calls.mono CL ?_); rintro e10 w10 ⟨la0, lc0, ka0, kc0, n10, y10, rfl, hn10, hm10, H10⟩)
    have HB10 : Hid (Below V.heap.size V w10) := HW10.out.trans (H10.out.2.1.mono HW10.out.size)
    have HSM : Hid (Small y10) := H10.out.2.2
    clear CL hm10 hbW
    obtain ⟨Z10, hZ⟩ : ∃ Z, Z = w10.heap.size := ⟨_, rfl⟩
    obtain ⟨V10, hV⟩ : ∃ V, V = w10.alloc (.cells #[.slice la0 y10.1.length lc0, .slice ka0 y10.2.length kc0] 25) := ⟨_, rfl⟩
    rw [← hZ, ← hV]
    have b10 : Below w10.heap.size w10 V10 := by rw [hV]; exact (Below.refl _ _).alloc (Nat.le_refl _) _
    have mV : V10.heap[Z10]? = some (.cells #[.slice la0 y10.1.length lc0, .slice ka0 y10.2.length kc0] 25 (0, 0)) := by rw [hV, hZ]; exact new_blk _ _
    have HV10 : Hid (Below V.heap.size V V10) := HB10.out.trans (b10.mono HB10.out.size)
    have hT10 : TabV V10 (fun b => b < V10.heap.size) (.slice la0 y10.1.length lc0) (.slice ka0 y10.2.length kc0) y10 := (H10.out.1.on (Keeps.of b10 fun _ h => h)).up fun _ h => Nat.lt_of_lt_of_le h b10.size
    have HX10 : Hid (∀ wr, Below V10.heap.size V10 wr → (wr.cell? ⟨Z10, 0, none⟩ = some (.slice la0 y10.1.length lc0) ∧ wr.cell? ⟨Z10, 1, none⟩ = some (.slice ka0 y10.2.length kc0)) ∧ TabV wr (fun b => b < V10.heap.size) (.slice la0 y10.1.length lc0) (.slice ka0 y10.2.length kc0) y10) := fun wr hb => ⟨⟨heap_cl ((hb.block Z10 (lt_heap mV)).trans mV) rfl, heap_cl ((hb.block Z10 (lt_heap mV)).trans mV) rfl⟩, hT10.on (Keeps.of hb fun _ h => h)⟩
    clear hZ hV b10 mV hT10

    clear H10 HB10
    obtain ⟨_, hwv⟩ := HZ.out V10 HV10.out
    obtain ⟨⟨y0, y1⟩, hty⟩ := HX10.out V10 (Below.refl _ _)
    have CB := bytes_u (w := V10) ⟨hty, (HA.out V10 hwv).first, (HA.out V10 hwv).rd.rows, HSM.out⟩
    clear hwv hty
    go_upto_region 12 with (go_at_call 22; (with_reducible refine Calls.mono CB ?_); rintro e11 w11 ⟨ba1, bc1, c11, n11, rfl, hc11, hn11, hm11, H11⟩)
    have HN11 : Hid (n10 = 0 → n11 = 0 ∧ (c11 == bb) = true) := fun e => by
      obtain ⟨e1, e2⟩ := hn10 e
      obtain ⟨e3, e4⟩ := load_is e1
      have e5 := hm11 e4 (by rw [← e3]; exact e2)
      exact ⟨e5, by rw [(hn11 e5).2, ← e3]; exact beq_self_eq_true _⟩
    have HB11 : Hid (Below V.heap.size V w11) := HV10.out.trans (H11.out.2.mono HV10.out.size)
    clear CB y0 y1 hn11 hm11 hn10
    have CS := sameb_any H11.out.1 (hb.on (HZ.out w11 HB11.out).2)
    clear H11 HV10 HX10
    go_upto_region 13 with (go_at_call 23; (with_reducible refine Calls.mono CS ?_); rintro e12 w12 ⟨rfl, hw⟩; obtain rfl := hw.symm; clear hw)
    clear CS
    rename_i K15 a15 K13 a13
    have hK15 : ∀ (t0 t2 t3 t4 t5 t6 t7 t8 t9 t10 t11 t12 t13 t14 t15 t16 t17 t18 t19 t20 t21 t22 t23 t24 t25 t26 t27 t28 t29 t30 t31 t32 t33 t34 t35 t36 t37 t38 t39 t40 t41 t42 t43 t44 t45 t46 t47 t48 t49 t50 t51 t52 t53 t54 t55 t56 t57 t58 t59 t60 t61 t62 t63 t64 t65 t66 t67 t68 t69 t70 t71 t72 t73 t74 t75 t76 t77 t78 t79 t80 t81 t82 t83 t84 t85 t86 t87 t88 t89 t90 t91 t92 t93 t94 t95 t96 t97 t98 t99 t100 t101 t102 t103 t104 t105 : Value) (W15 : World), Hid (Below V.heap.size V W15) → K15 { tmps := #[t0, .string ⟨s.toArray⟩, t2, t3, t4, t5, t6, t7, t8, t9, t10, t11, t12, t13, t14, t15, t16, t17, t18, t19, t20, t21, t22, t23, t24, t25, t26, t27, t28, t29, t30, t31, t32, t33, t34, t35, t36, t37, t38, t39, t40, t41, t42, t43, t44, t45, t46, t47, t48, t49, t50, t51, t52, t53, t54, t55, t56, t57, t58, t59, t60, t61, t62, t63, t64, t65, t66, t67, t68, t69, t70, t71, t72, t73, t74, t75, t76, t77, t78, t79, t80, t81, t82, t83, t84, t85, t86, t87, t88, t89, t90, t91, t92, t93, t94, t95, t96, t97, t98, t99, t100, t101, t102, t103, t104, t105, undef, undef, undef, undef, undef, undef, undef, undef, undef, undef, undef, undef, undef, undef, undef, undef, undef, undef, undef, undef, undef, undef, undef, undef, undef, undef, undef, undef, undef, undef, undef], defers := [] } W15 := by
      clear a13 K13
      intro t0 t2 t3 t4 t5 t6 t7 t8 t9 t10 t11 t12 t13 t14 t15 t16 t17 t18 t19 t20 t21 t22 t23 t24 t25 t26 t27 t28 t29 t30 t31 t32 t33 t34 t35 t36 t37 t38 t39 t40 t41 t42 t43 t44 t45 t46 t47 t48 t49 t50 t51 t52 t53 t54 t55 t56 t57 t58 t59 t60 t61 t62 t63 t64 t65 t66 t67 t68 t69 t70 t71 t72 t73 t74 t75 t76 t77 t78 t79 t80 t81 t82 t83 t84 t85 t86 t87 t88 t89 t90 t91 t92 t93 t94 t95 t96 t97 t98 t99 t100 t101 t102 t103 t104 t105 W15 HW15
      refine a15 _ _ ?_
      clear a15 K15
      obtain ⟨_, hwv⟩ := HZ.out W15 HW15.out
      have CR := read_u (HA.out W15 hwv).rd hl
      clear hwv
      go_upto_region 16 with (go_at_call 19; (with_reducible refine Calls.mono CR ?_); rintro e15 w15 ⟨ra5, rc5, qa5, qc5, n15, y15, rfl, hn15, hm15, H15⟩)
      have HB15 : Hid (Below V.heap.size V w15) := HW15.out.trans (H15.out.2.1.mono HW15.out.size)
      have HSM : Hid (Small y15) := H15.out.2.2
      clear CR hn15 hm15
      obtain ⟨Z15, hZ⟩ : ∃ Z, Z = w15.heap.size := ⟨_, rfl⟩
      obtain ⟨V15, hV⟩ : ∃ V, V = w15.alloc (.cells #[.slice ra5 y15.1.length rc5, .slice qa5 y15.2.length qc5] 25) := ⟨_, rfl⟩
      rw [← hZ, ← hV]
      have b15 : Below w15.heap.size w15 V15 := by rw [hV]; exact (Below.refl _ _).alloc (Nat.le_refl _) _
      have mV : V15.heap[Z15]? = some (.cells #[.slice ra5 y15.1.length rc5, .slice qa5 y15.2.length qc5] 25 (0, 0)) := by rw [hV, hZ]; exact new_blk _ _
      have HV15 : Hid (Below V.heap.size V V15) := HB15.out.trans (b15.mono HB15.out.size)
      have hT15 : TabV V15 (fun b => b < V15.heap.size) (.slice ra5 y15.1.length rc5) (.slice qa5 y15.2.length qc5) y15 := (H15.out.1.on (Keeps.of b15 fun _ h => h)).up fun _ h => Nat.lt_of_lt_of_le h b15.size
      have HX15 : Hid (∀ wr, Below V15.heap.size V15 wr → (wr.cell? ⟨Z15, 0, none⟩ = some (.slice ra5 y15.1.length rc5) ∧ wr.cell? ⟨Z15, 1, none⟩ = some (.slice qa5 y15.2.length qc5)) ∧ TabV wr (fun b => b < V15.heap.size) (.slice ra5 y15.1.length rc5) (.slice qa5 y15.2.length qc5) y15) := fun wr hb => ⟨⟨heap_cl ((hb.block Z15 (lt_heap mV)).trans mV) rfl, heap_cl ((hb.block Z15 (lt_heap mV)).trans mV) rfl⟩, hT15.on (Keeps.of hb fun _ h => h)⟩
      clear hZ hV b15 mV hT15

      clear H15 HB15
      obtain ⟨_, hwv⟩ := HZ.out V15 HV15.out
      obtain ⟨⟨y0, y1⟩, hty⟩ := HX15.out V15 (Below.refl _ _)
      have CP := print_u (w := V15) ⟨⟨hty, (HA.out V15 hwv).first, (HA.out V15 hwv).rd.rows, HSM.out⟩, (HA.out V15 hwv).rd.ops, (HA.out V15 hwv).rd.num.pt⟩
      clear hwv hty
      go_upto_region 17 with (go_at_call 17; (with_reducible refine Calls.mono CP ?_); rintro e16 w16 ⟨s16, n16, rfl, hs16, hn16, H16⟩)
      have HB16 : Hid (Below V.heap.size V w16) := HV15.out.trans (H16.out.mono HV15.out.size)
      have HK16 : Hid (Below V15.heap.size V15 w16) := H16.out
      clear CP y0 y1 H16 HV15
      obtain ⟨_, hwv⟩ := HZ.out w16 HB16.out
      have CR := read_u (HA.out w16 hwv).rd (by omega : s16.length < 140737488355328)
      clear hwv
      go_upto_region 18 with (go_at_call 19; (with_reducible refine Calls.mono CR ?_); rintro e17 w17 ⟨ra7, rc7, qa7, qc7, n17, y17, rfl, hn17, hm17, H17⟩)
      have HN17 : Hid (n16 = 0 → n17 = 0 ∧ sameP y15 y17 = true) := fun e => by
        obtain ⟨e1, e2⟩ := hn16 e
        have e3 := read_printed e1 HSM.out
        have e4 := hm17 hs16 y15 (by rw [e2]; exact e3) (fine_of e1).big
        have e5 := hn17 e4
        rw [e2, e3] at e5
        exact ⟨e4, same_yes (Option.some.inj e5)⟩
      have HB17 : Hid (Below V.heap.size V w17) := HB16.out.trans (H17.out.2.1.mono HB16.out.size)
      have HK17 : Hid (Below V15.heap.size V15 w17) := HK16.out.trans (H17.out.2.1.mono HK16.out.size)
      clear CR hn17 hm17 hn16
      obtain ⟨Z17, hZ⟩ : ∃ Z, Z = w17.heap.size := ⟨_, rfl⟩
      obtain ⟨V17, hV⟩ : ∃ V, V = w17.alloc (.cells #[.slice ra7 y17.1.length rc7, .slice qa7 y17.2.length qc7] 25) := ⟨_, rfl⟩
      rw [← hZ, ← hV]
      have b17 : Below w17.heap.size w17 V17 := by rw [hV]; exact (Below.refl _ _).alloc (Nat.le_refl _) _
      have mV : V17.heap[Z17]? = some (.cells #[.slice ra7 y17.1.length rc7, .slice qa7 y17.2.length qc7] 25 (0, 0)) := by rw [hV, hZ]; exact new_blk _ _
      have HK18 : Hid (Below V15.heap.size V15 V17) := HK17.out.trans (b17.mono HK17.out.size)
      have HV17 : Hid (Below V.heap.size V V17) := HB17.out.trans (b17.mono HB17.out.size)
      have hT17 : TabV V17 (fun b => b < V17.heap.size) (.slice ra7 y17.1.length rc7) (.slice qa7 y17.2.length qc7) y17 := (H17.out.1.on (Keeps.of b17 fun _ h => h)).up fun _ h => Nat.lt_of_lt_of_le h b17.size
      have HX17 : Hid (∀ wr, Below V17.heap.size V17 wr → (wr.cell? ⟨Z17, 0, none⟩ = some (.slice ra7 y17.1.length rc7) ∧ wr.cell? ⟨Z17, 1, none⟩ = some (.slice qa7 y17.2.length qc7)) ∧ TabV wr (fun b => b < V17.heap.size) (.slice ra7 y17.1.length rc7) (.slice qa7 y17.2.length qc7) y17) := fun wr hb => ⟨⟨heap_cl ((hb.block Z17 (lt_heap mV)).trans mV) rfl, heap_cl ((hb.block Z17 (lt_heap mV)).trans mV) rfl⟩, hT17.on (Keeps.of hb fun _ h => h)⟩
      clear hZ hV b17 mV hT17

      clear H17 HB17
      obtain ⟨_, hwv⟩ := HZ.out V17 HV17.out
      obtain ⟨⟨x0, x1⟩, htx⟩ := HX15.out V17 HK18.out
      obtain ⟨⟨y0, y1⟩, hty⟩ := HX17.out V17 (Below.refl _ _)
      have CS := same_tab (fun b hb => Nat.lt_of_lt_of_le hb HK18.out.size) (fun b hb => hb) htx hty
      clear htx hty
      go_upto_region 19 with (go_at_call 13; (with_reducible refine Calls.mono CS ?_); rintro e18 w18 ⟨rfl, H18⟩)
      have HE := HF.out w18 (hwv.trans (H18.out.mono hwv.size))
      clear CS x0 x1 y0 y1 hwv H18
      by_cases q16 : n16 = 0
      · obtain ⟨q17, qs⟩ := HN17.out q16
        subst q16
        rw [q17, qs]
        by_cases q15 : n15 = 0
        · subst q15
          go_wp2
          exact HE
        · go_wp2
          exact HE
      · by_cases q15 : n15 = 0
        · subst q15
          go_wp2
          exact HE
        · go_wp2
          exact HE

    clear a15
    have HK15 : Hid _ := hK15
    clear hK15
    by_cases q10 : n10 = 0
    · obtain ⟨q11, qb⟩ := HN11.out q10
      subst q10
      rw [q11, qb]
      go_wp2
      exact HK15.out _ _ _ _ _ _ _ _ _ _ _ _ _ _ _ _ _ _ _ _ _ _ _ _ _ _ _ _ _ _ _ _ _ _ _ _ _ _ _ _ _ _ _ _ _ _ _ _ _ _ _ _ _ _ _ _ _ _ _ _ _ _ _ _ _ _ _ _ _ _ _ _ _ _ _ _ _ _ _ _ _ _ _ _ _ _ _ _ _ _ _ _ _ _ _ _ _ _ _ _ _ _ _ _ _ _ HB11
    · go_wp2
      exact HK15.out _ _ _ _ _ _ _ _ _ _ _ _ _ _ _ _ _ _ _ _ _ _ _ _ _ _ _ _ _ _ _ _ _ _ _ _ _ _ _ _ _ _ _ _ _ _ _ _ _ _ _ _ _ _ _ _ _ _ _ _ _ _ _ _ _ _ _ _ _ _ _ _ _ _ _ _ _ _ _ _ _ _ _ _ _ _ _ _ _ _ _ _ _ _ _ _ _ _ _ _ _ _ _ _ _ _ HB11

  clear a10
  have HK10 : Hid _ := hK10
  clear hK10
  by_cases q2 : n2 = 0
  · obtain ⟨q3, qs⟩ := HN3.out q2
    subst q2
    rw [q3, qs]
    by_cases q5 : n5 = 0
    · obtain ⟨q6, qt⟩ := HN6.out q5
      subst q5
      rw [q6, qt]
      go_wp2
      exact HK10.out _ _ _ _ _ _ _ _ _ _ _ _ _ _ _ _ _ _ _ _ _ _ _ _ _ _ _ _ _ _ _ _ _ _ _ _ _ _ _ _ _ _ _ _ _ _ _ _ _ _ _ _ _ _ _ _ _ _ _ _ _ _ _ _ _ _ _ _ _ _ _ _ _ _ _ _ _ _ _ _ _ _ HB7
    · go_wp2
      exact HK10.out _ _ _ _ _ _ _ _ _ _ _ _ _ _ _ _ _ _ _ _ _ _ _ _ _ _ _ _ _ _ _ _ _ _ _ _ _ _ _ _ _ _ _ _ _ _ _ _ _ _ _ _ _ _ _ _ _ _ _ _ _ _ _ _ _ _ _ _ _ _ _ _ _ _ _ _ _ _ _ _ _ _ HB7
  · by_cases q5 : n5 = 0
    · obtain ⟨q6, qt⟩ := HN6.out q5
      subst q5
      rw [q6, qt]
      go_wp2
      exact HK10.out _ _ _ _ _ _ _ _ _ _ _ _ _ _ _ _ _ _ _ _ _ _ _ _ _ _ _ _ _ _ _ _ _ _ _ _ _ _ _ _ _ _ _ _ _ _ _ _ _ _ _ _ _ _ _ _ _ _ _ _ _ _ _ _ _ _ _ _ _ _ _ _ _ _ _ _ _ _ _ _ _ _ HB7
    · go_wp2
      exact HK10.out _ _ _ _ _ _ _ _ _ _ _ _ _ _ _ _ _ _ _ _ _ _ _ _ _ _ _ _ _ _ _ _ _ _ _ _ _ _ _ _ _ _ _ _ _ _ _ _ _ _ _ _ _ _ _ _ _ _ _ _ _ _ _ _ _ _ _ _ _ _ _ _ _ _ _ _ _ _ _ _ _ _ HB7
end Go.Proofs.YtlpnegnpejpdkaaGreatDoor
