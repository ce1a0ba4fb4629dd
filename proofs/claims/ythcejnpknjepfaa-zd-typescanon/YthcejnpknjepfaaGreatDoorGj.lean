/- The graph: the contract of bounds, at what awake's agree has left. -/
import Derived.Test.YthcejnpknjepfaaGreatDoorGi
import Derived.Test.YthcejnpknjepfaaGreatDoorIt
namespace Go.Proofs.YthcejnpknjepfaaGreatDoor
open Go.RowKit Go.Maps

theorem sort_ab {ss : List (List UInt8)} (h : ss.Perm [[97], [98]]) : ss.mergeSort (fun x y => decide (x ≤ y)) = [[97], [98]] := by
  have h1 := (List.mergeSort_perm ss (fun x y => decide (x ≤ y))).trans h
  have h2 : (ss.mergeSort (fun x y => decide (x ≤ y))).Pairwise (fun a b => decide (a ≤ b) = true) := List.pairwise_mergeSort (fun a b c h k => by
    simp at h k ⊢
    exact List.le_trans h k) (fun a b => by
    simp
    exact List.le_total a b) ss
  generalize ss.mergeSort (fun x y => decide (x ≤ y)) = l at h1 h2
  have hl := h1.length_eq
  match l, hl, h1, h2 with
  | [x, y], _, h1, h2 =>
    have hx : x = [97] ∨ x = [98] := by simpa using h1.subset (List.mem_cons_self (a := x) (l := [y]))
    have hy : y = [97] ∨ y = [98] := by simpa using h1.subset (show y ∈ [x, y] by simp)
    have hxa : [97] ∈ [x, y] := h1.symm.subset (by simp)
    have hxb : [98] ∈ [x, y] := h1.symm.subset (by simp)
    have hle : x ≤ y := by simpa using h2
    rcases hx with rfl | rfl <;> rcases hy with rfl | rfl
    · simp at hxb
    · rfl
    · exact absurd hle (by decide)
    · simp at hxa
theorem Tryz.info53 : (Tryz.prog.info? 53).map (fun i => (i.zero, i.size, i.bytes)) = some (some (.agg #[.string ⟨#[]⟩, .int .i64 0, .string ⟨#[]⟩, .slice none 0 0]), 4, 64) := by kernel_rfl
abbrev bdI (n : UInt8) : List Value := [.string ⟨#[n]⟩, .int .i64 1, .string ⟨#[]⟩, .slice none 0 0]
theorem bd_lit (w : World) (n : UInt8) : ∀ (j : Nat) (u : Value), (bdI n)[j]? = some u → (w.alloc (Obj.cells #[.string ⟨#[n]⟩, .int .i64 1, .string ⟨#[]⟩, .slice none 0 0] 53)).cell? ((⟨w.heap.size, 0, none⟩ : Addr).add j) = some u :=
  World.news_of_block (cs := #[.string ⟨#[n]⟩, .int .i64 1, .string ⟨#[]⟩, .slice none 0 0]) (t := 53) (fr := (0, 0)) (heap_alloc_new w _)
theorem bd_one (n : UInt8) : ∀ u ∈ bdI n, u.oneCell' = true := by
  intro u hu
  simp at hu
  rcases hu with rfl | rfl | rfl | rfl <;> rfl
/-- A round of bounds: the graph, the names' row, the bounds' row. -/
structure BoR (lo G b kb : Nat) (w wr : World) (kv v : Value) (n : Nat) (ys : List Value) (D : DataW Unit) : Prop where
  gx : GX wr lo G b (fun _ => False) (gA 3 3 4 2) D 2
  bel : Below w.heap.size w wr
  key : wr.ownsRow kb 9 1 kv 2 [.string ⟨#[97]⟩, .string ⟨#[98]⟩]
  own : wr.ownsRow w.heap.size 53 4 v n ys
  kbl : w.heap.size ≤ kb
theorem BoR.step {lo G b kb n : Nat} {w wr wr' : World} {kv v : Value} {ys : List Value} {D : DataW Unit} (h : BoR lo G b kb w wr kv v n ys D) (hb : Below wr.heap.size wr wr') : BoR lo G b kb w wr' kv v n ys D :=
  ⟨h.gx.below hb, h.bel.trans (hb.mono h.bel.size), own_keep h.key fun k hk => hb.block k (h.key.lt k hk).2, own_keep h.own fun k hk => hb.block k (h.own.lt k hk).2, h.kbl⟩
theorem BoR.sm {lo G b kb n : Nat} {w wr wr' : World} {kv v : Value} {ys : List Value} {D : DataW Unit} (h : BoR lo G b kb w wr kv v n ys D) (s : Sm wr wr') : BoR lo G b kb w wr' kv v n ys D := h.step (s.below _)
theorem BoR.push {lo G b kb n : Nat} {w wr wr' : World} {kv v v' : Value} {ys zs : List Value} {D : DataW Unit} (h : BoR lo G b kb w wr kv v n ys D) (hl : lo ≤ w.heap.size ∧ G < w.heap.size ∧ b < w.heap.size) (ho : wr'.ownsRow w.heap.size 53 4 v' (n + 1) zs) (hg : wr.grownBy wr' v.ownBlock) : BoR lo G b kb w wr' kv v' (n + 1) zs D := by
  have hne : ∀ k, v.ownBlock = some k → w.heap.size ≤ k ∧ ∃ cur, wr.heap[k]? = some (.cells cur 53 (0, 0)) := fun k e => by
    rcases h.own.2 with ⟨h0, _⟩ | ⟨g, cap, cur, hv, hb, hh, _⟩
    · rw [h0] at e; cases e
    · rw [hv] at e
      cases e
      exact ⟨hb, cur, hh⟩
  have hkeep : ∀ (k : Nat) (o : Obj), wr.heap[k]? = some o → (∀ c fz, o ≠ .cells c 53 fz) → wr'.heap[k]? = some o := fun k o hk hty => by
    rw [hg.block k (lt_of_heap hk) (fun e => ?_)]
    · exact hk
    · obtain ⟨_, cur, hc⟩ := hne k e.symm
      rw [hc] at hk
      exact hty _ _ (Option.some.inj hk).symm
  have hlow : ∀ k, k < w.heap.size → wr'.heap[k]? = wr.heap[k]? := fun k hk => hg.block k (by have := h.bel.size; omega) (fun e => by have := (hne k e.symm).1; omega)
  refine ⟨?_, ⟨hg.os.trans h.bel.os, hg.tape.trans h.bel.tape, hg.output.trans h.bel.output, Nat.le_trans h.bel.size hg.size, fun k hk => (hlow k hk).trans (h.bel.block k hk)⟩, own_keep h.key fun k hk => ?_, ho, h.kbl⟩
  · obtain ⟨vv, ns, e, hG, hr⟩ := h.gx
    refine ⟨vv, ns, e, ⟨(hlow G hl.2.1).trans hG.box, own_keep hG.own fun k hk => ?_, hG.map.kept (row := v.ownBlock) hg (fun e => by have := (hne b e.symm).1; omega), hG.msz, fun m hm => ?_, hG.loG, hG.lob, hG.num⟩, hr⟩
    · rcases hG.own.2 with ⟨h0, _⟩ | ⟨g', cap', cur, hv, _, hh, _⟩
      · rw [h0] at hk; cases hk
      · rw [hv] at hk
        cases hk
        exact (hkeep _ _ hh (by intro c fz e; exact absurd (cells_ty (congrArg some e)) (by decide))).trans hh.symm
    · rcases hG.arg m hm with h1 | ⟨g', h1, h2, h3⟩
      · exact .inl h1
      · exact .inr ⟨g', h1, h2, hkeep _ _ h3 (by intro c fz e; exact absurd (cells_ty (congrArg some e)) (by decide))⟩
  · rcases h.key.2 with ⟨h0, h1⟩ | ⟨g', cap', cur, hv, _, hh, _⟩
    · omega
    · rw [hv] at hk
      cases hk
      exact (hkeep _ _ hh (by intro c fz e; exact absurd (cells_ty (congrArg some e)) (by decide))).trans hh.symm
set_option maxHeartbeats 8000000 in
set_option maxRecDepth 10000 in
theorem bounds_ab {lo G b : Nat} {D : DataW Unit} (hS : strKeys D = [[97], [98]]) (h97 : D.atKey (.string [97]) (.lit (.int .i64 0)) = .lit (.int .i64 0)) (h98 : D.atKey (.string [98]) (.lit (.int .i64 0)) = .lit (.int .i64 1)) (hsz : Maps.size D ≤ 1000) (w : World) (h : GX w lo G b (fun _ => False) (gA 3 3 4 2) D 2) :
    Calls Tryz.prog 43 #[.pointer (some ⟨G, 0, none⟩)] w fun e w' => ∃ v, e = .returned v ∧ w'.ownsRow w.heap.size 53 4 v 2 (bdI 97 ++ bdI 98) ∧ Below w.heap.size w w' := by
  have hl := h.num.2
  obtain ⟨g, cap, ad, _, c1, _⟩ := h.at (i := 0) (by decide)
  have hown : w.ownsMap Tryz.prog 9 (plainElem Tryz.prog 3) b (Maps.size D) D := by
    obtain ⟨v, ns, _, hG, _⟩ := h
    exact hG.map
  have C1 := (callsIn_wide (n := 5)).1 (Tryz.maps_Keys_36 (some b) w)
  have C2 := (callsIn_wide (n := 5)).1 (Tryz.slices_Sorted_keys_35_36 b (Maps.size D) D _ w hown (by unfold maxLen; omega) (by omega))
  have hb0 := (Below.refl w.heap.size w).alloc (Nat.le_refl _) (Obj.cells #[.map (some b)] 77)
  have C3 : Calls Tryz.prog 59 #[.func (.func 84) #[] #[.pointer (some ⟨w.heap.size, 0, none⟩)]] (w.alloc (.cells #[.map (some b)] 77)) fun e w' => ∃ g cap, e = .returned (.slice (some ⟨g, 0, none⟩) 2 cap) ∧ BoR lo G b (w.heap.size + 1) w w' (.slice (some ⟨g, 0, none⟩) 2 cap) (.slice none 0 0) 0 [] D := by
    refine Calls.mono C2 ?_
    rintro e w' ⟨v, ss, rfl, hp, ho, _, hbel⟩
    rw [hS] at hp
    rw [sort_ab hp, hp.length_eq] at ho
    have hs0 : (w.alloc (Obj.cells #[.map (some b)] 77)).heap.size = w.heap.size + 1 := by simp
    rw [hs0] at ho
    obtain ⟨g, cap, rfl, _, _⟩ := ho.form (by decide)
    exact ⟨g, cap, rfl, (h.below hb0).below hbel, hb0.trans (hbel.mono (by simp)), ho, ⟨rfl, .inl ⟨rfl, rfl⟩⟩, by omega⟩
  clear C2 hb0 hown
  go_enter Tryz.func43, Tryz.ntmps43
  go_upto_region 3 with (first
    | (go_at_call 67; (with_reducible refine Calls.mono C1 ?_); rintro e' w0 ⟨rfl, rfl⟩)
    | (go_at_call 59; (with_reducible refine Calls.mono C3 ?_); rintro e' w1 ⟨g, cap, rfl, B1⟩))
  obtain ⟨i0, hi, hz0, hz1, hz2⟩ := info_parts Tryz.info53
  clear C1 C3 h c1
  refine wp_loop_rounds 3 ?_
  rw [rounds_succ]
  have k0 : w1.cell? ⟨g, 0, none⟩ = some (.string ⟨#[97]⟩) := B1.key.cellAt 0 (by decide)
  obtain ⟨_, _, _, _, c1, _⟩ := B1.gx.at (i := 0) (by decide)
  have hrun : (Instr.lookup 77 (.map (some b)) (.string ⟨#[97]⟩) false).run Tryz.prog w1 = .ok (.int .i64 0) w1 := by
    obtain ⟨_, ns, _, hG, _⟩ := B1.gx
    obtain ⟨c, hr, hat, _⟩ := hG.map.lookup_int law9 Tryz.underlying77 Tryz.underlying3 (Tryz.zeroValue3 _) (key9 [97] (by decide))
    rw [h97] at hat
    cases hat
    exact hr
  have CE : Calls Tryz.prog 63 #[.pointer (some ⟨G, 0, none⟩), .int .i64 0] w1 fun e w' => e = .returned (.int .i64 3) ∧ w' = w1.drew := B1.gx.end_drew (i := 0) (m := 3) (by decide) (by decide) (by decide) rfl rfl
  have BD := B1.sm (wr' := w1.drew) ⟨rfl, rfl, rfl, rfl⟩
  have CT : Calls Tryz.prog 68 #[.pointer (some ⟨G, 0, none⟩), .int .i64 0] w1.drew fun e w' => e = .returned (.agg #[.int .i64 1, .string ⟨#[]⟩, .slice none 0 0]) ∧ BoR lo G b (w.heap.size + 1) w (w'.alloc (Obj.cells #[.string ⟨#[97]⟩, .int .i64 1, .string ⟨#[]⟩, .slice none 0 0] 53)) (.slice (some ⟨g, 0, none⟩) 2 cap) (.slice none 0 0) 0 [] D := by
    refine Calls.mono (typeOf_int BD.gx 0 3 (by decide) (by decide) (by decide) rfl rfl rfl rfl rfl) ?_
    rintro e w' ⟨rfl, hb⟩
    exact ⟨rfl, (BD.step hb).step ((Below.refl _ _).alloc (Nat.le_refl _) _)⟩
  clear BD B1
  skip
  go_upto_region 8 with (first
    | (go_at_call 63; (with_reducible refine Calls.mono CE ?_); rintro e' w5 ⟨rfl, rfl⟩)
    | (go_at_call 68; (with_reducible refine Calls.mono CT ?_); rintro e' w5 ⟨rfl, B5⟩; have hsz5 := B5.bel.size)
    | (at_builtin; refine wpList_append_own _ rfl _ _ 37 rfl w.heap.size 53 i0 _ 4 64 Tryz.underlying37 hi hz0 hz1 hz2 rfl (by decide) (.slice none 0 0) 0 [] rfl B5.own ⟨w5.heap.size, 0, none⟩ 1 1 (bdI 97) rfl rfl (bd_lit w5 97) (bd_one 97) (by unfold maxLen; omega) (by omega) hsz5 ?_; intro v2 w2 ho6 hg6 _))
  have B2 := B5.push hl ho6 hg6
  clear B5 ho6 hg6 CE CT hrun k0 c1 hsz5
  go_wp2_with fail
  rw [rounds_succ]
  have k0 : w2.cell? ⟨g, 1, none⟩ = some (.string ⟨#[98]⟩) := B2.key.cellAt 1 (by decide)
  obtain ⟨_, _, _, _, c1, _⟩ := B2.gx.at (i := 0) (by decide)
  have hrun : (Instr.lookup 77 (.map (some b)) (.string ⟨#[98]⟩) false).run Tryz.prog w2 = .ok (.int .i64 1) w2 := by
    obtain ⟨_, ns, _, hG, _⟩ := B2.gx
    obtain ⟨c, hr, hat, _⟩ := hG.map.lookup_int law9 Tryz.underlying77 Tryz.underlying3 (Tryz.zeroValue3 _) (key9 [98] (by decide))
    rw [h98] at hat
    cases hat
    exact hr
  have CE : Calls Tryz.prog 63 #[.pointer (some ⟨G, 0, none⟩), .int .i64 1] w2 fun e w' => e = .returned (.int .i64 3) ∧ w' = w2.drew := B2.gx.end_drew (i := 1) (m := 3) (by decide) (by decide) (by decide) rfl rfl
  have BD := B2.sm (wr' := w2.drew) ⟨rfl, rfl, rfl, rfl⟩
  have CT : Calls Tryz.prog 68 #[.pointer (some ⟨G, 0, none⟩), .int .i64 1] w2.drew fun e w' => e = .returned (.agg #[.int .i64 1, .string ⟨#[]⟩, .slice none 0 0]) ∧ BoR lo G b (w.heap.size + 1) w (w'.alloc (Obj.cells #[.string ⟨#[98]⟩, .int .i64 1, .string ⟨#[]⟩, .slice none 0 0] 53)) (.slice (some ⟨g, 0, none⟩) 2 cap) v2 1 (bdI 97) D := by
    refine Calls.mono (typeOf_int BD.gx 1 3 (by decide) (by decide) (by decide) rfl rfl rfl rfl rfl) ?_
    rintro e w' ⟨rfl, hb⟩
    exact ⟨rfl, (BD.step hb).step ((Below.refl _ _).alloc (Nat.le_refl _) _)⟩
  clear BD B2
  skip
  go_upto_region 8 with (first
    | (go_at_call 63; (with_reducible refine Calls.mono CE ?_); rintro e' w5 ⟨rfl, rfl⟩)
    | (go_at_call 68; (with_reducible refine Calls.mono CT ?_); rintro e' w5 ⟨rfl, B5⟩; have hsz5 := B5.bel.size)
    | (at_builtin; refine wpList_append_own _ rfl _ _ 37 rfl w.heap.size 53 i0 _ 4 64 Tryz.underlying37 hi hz0 hz1 hz2 rfl (by decide) v2 1 (bdI 97) rfl B5.own ⟨w5.heap.size, 0, none⟩ 1 1 (bdI 98) rfl rfl (bd_lit w5 98) (bd_one 98) (by unfold maxLen; omega) (by omega) hsz5 ?_; intro v3 w3 ho6 hg6 _))
  have B3 := B5.push hl ho6 hg6
  clear B5 ho6 hg6 CE CT hrun k0 c1 hsz5
  go_wp2_with fail
  rw [rounds_succ]
  go_wp2_with fail
  go_ret
  exact ⟨v3, rfl, B3.own, B3.bel⟩
end Go.Proofs.YthcejnpknjepfaaGreatDoor
