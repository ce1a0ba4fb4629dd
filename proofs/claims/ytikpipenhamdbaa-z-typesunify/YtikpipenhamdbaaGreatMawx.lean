/- The graph: the contract of bounds, at what awake's agree has left. The contract of Unify, at awake's pair. awake's walk: the document's examples are answered. -/
import Derived.Test.YtikpipenhamdbaaGreatGi
import Derived.Test.YtikpipenhamdbaaGreatIt
import Derived.Test.YtikpipenhamdbaaGreatMaex
import Derived.Test.YtikpipenhamdbaaGreatMahx
import Derived.Test.YtikpipenhamdbaaGreatMadx
namespace Go.Proofs.YtikpipenhamdbaaGreat
open Go.RowKit Go.Maps

theorem sort_ab {ss : List (List UInt8)} (h : ss.Perm [[97], [98]]) : ss.mergeSort (fun x y => decide (x ≤ y)) = [[97], [98]] := by
 have h1 := (List.mergeSort_perm ss (fun x y => decide (x ≤ y))).trans h
 have h2 : (ss.mergeSort (fun x y => decide (x ≤ y))).Pairwise (fun a b => decide (a ≤ b) = true) := List.pairwise_mergeSort (fun a b c h k => by
  simp at h k ⊢
  exact List.le_trans h k) (fun a b => by
  simp
  exact List.le_total a b) ss
 generalize ss.mergeSort (fun x y => decide (x ≤ y)) = l at h1 h2
 have hl := h1.length_eq
 match l, hl, h1, h2 with
 | [x, y], _, h1, h2 =>
  have hx : x = [97] ∨ x = [98] := by simpa using h1.subset (List.mem_cons_self (a := x) (l := [y]))
  have hy : y = [97] ∨ y = [98] := by simpa using h1.subset (show y ∈ [x, y] by simp)
  have hxa : [97] ∈ [x, y] := h1.symm.subset (by simp)
  have hxb : [98] ∈ [x, y] := h1.symm.subset (by simp)
  have hle : x ≤ y := by simpa using h2
  rcases hx with rfl | rfl <;> rcases hy with rfl | rfl
  ·simp at hxb
  ·rfl
  ·exact absurd hle (by decide)
  ·simp at hxa
theorem Tryz.info48 : (Tryz.prog.info? 48).map (fun i => (i.zero, i.size, i.bytes)) = some (some (.agg #[.string ⟨#[]⟩, .int .i64 0, .string ⟨#[]⟩, .slice none 0 0]), 4, 64) := by kernel_rfl
abbrev bdI (n : UInt8) : List Value := [.string ⟨#[n]⟩, .int .i64 1, .string ⟨#[]⟩, .slice none 0 0]
theorem bd_lit (w : World) (n : UInt8) : ∀ (j : Nat) (u : Value), (bdI n)[j]? = some u → (w.alloc (Obj.cells #[.string ⟨#[n]⟩, .int .i64 1, .string ⟨#[]⟩, .slice none 0 0] 48)).cell? ((⟨w.heap.size, 0, none⟩ : Addr).add j) = some u :=
 World.news_of_block (cs := #[.string ⟨#[n]⟩, .int .i64 1, .string ⟨#[]⟩, .slice none 0 0]) (t := 48) (fr := (0, 0)) (heap_alloc_new w _)
theorem bd_one (n : UInt8) : ∀ u ∈ bdI n, u.oneCell' = true := by
 intro u hu
 simp at hu
 rcases hu with rfl | rfl | rfl | rfl <;> rfl
/-- A round of bounds: the graph, the names' row, the bounds' row. -/
structure BoR (lo G b kb : Nat) (w wr : World) (kv v : Value) (n : Nat) (ys : List Value) (D : DataW Unit) : Prop where
 gx : GX wr lo G b (fun _ => False) (gA 3 3 4 2) D 2
 bel : Below w.heap.size w wr
 key : wr.ownsRow kb 9 1 kv 2 [.string ⟨#[97]⟩, .string ⟨#[98]⟩]
 own : wr.ownsRow w.heap.size 48 4 v n ys
 kbl : w.heap.size ≤ kb
theorem BoR.step {lo G b kb n : Nat} {w wr wr' : World} {kv v : Value} {ys : List Value} {D : DataW Unit} (h : BoR lo G b kb w wr kv v n ys D) (hb : Below wr.heap.size wr wr') : BoR lo G b kb w wr' kv v n ys D :=
 ⟨h.gx.below hb, h.bel.trans (hb.mono h.bel.size), own_keep h.key fun k hk => hb.block k (h.key.lt k hk).2, own_keep h.own fun k hk => hb.block k (h.own.lt k hk).2, h.kbl⟩
theorem BoR.sm {lo G b kb n : Nat} {w wr wr' : World} {kv v : Value} {ys : List Value} {D : DataW Unit} (h : BoR lo G b kb w wr kv v n ys D) (s : Sm wr wr') : BoR lo G b kb w wr' kv v n ys D := h.step (s.below _)
theorem BoR.push {lo G b kb n : Nat} {w wr wr' : World} {kv v v' : Value} {ys zs : List Value} {D : DataW Unit} (h : BoR lo G b kb w wr kv v n ys D) (hl : lo ≤ w.heap.size ∧ G < w.heap.size ∧ b < w.heap.size) (ho : wr'.ownsRow w.heap.size 48 4 v' (n + 1) zs) (hg : wr.grownBy wr' v.ownBlock) : BoR lo G b kb w wr' kv v' (n + 1) zs D := by
 have hne : ∀ k, v.ownBlock = some k → w.heap.size ≤ k ∧ ∃ cur, wr.heap[k]? = some (.cells cur 48 (0, 0)) := fun k e => by
  rcases h.own.2 with ⟨h0, _⟩ | ⟨g, cap, cur, hv, hb, hh, _⟩
  ·rw [h0] at e; cases e
  ·rw [hv] at e
   cases e
   exact ⟨hb, cur, hh⟩
 have hkeep : ∀ (k : Nat) (o : Obj), wr.heap[k]? = some o → (∀ c fz, o ≠ .cells c 48 fz) → wr'.heap[k]? = some o := fun k o hk hty => by
  rw [hg.block k (lt_of_heap hk) (fun e => ?_)]
  ·exact hk
  ·obtain ⟨_, cur, hc⟩ := hne k e.symm
   rw [hc] at hk
   exact hty _ _ (Option.some.inj hk).symm
 have hlow : ∀ k, k < w.heap.size → wr'.heap[k]? = wr.heap[k]? := fun k hk => hg.block k (by have := h.bel.size; omega) (fun e => by have := (hne k e.symm).1; omega)
 refine ⟨?_, ⟨hg.os.trans h.bel.os, hg.tape.trans h.bel.tape, hg.output.trans h.bel.output, Nat.le_trans h.bel.size hg.size, fun k hk => (hlow k hk).trans (h.bel.block k hk)⟩, own_keep h.key fun k hk => ?_, ho, h.kbl⟩
 ·obtain ⟨vv, ns, e, hG, hr⟩ := h.gx
  refine ⟨vv, ns, e, ⟨(hlow G hl.2.1).trans hG.box, own_keep hG.own fun k hk => ?_, hG.map.kept (row := v.ownBlock) hg (fun e => by have := (hne b e.symm).1; omega), hG.msz, fun m hm => ?_, hG.loG, hG.lob, hG.num⟩, hr⟩
  ·rcases hG.own.2 with ⟨h0, _⟩ | ⟨g', cap', cur, hv, _, hh, _⟩
   ·rw [h0] at hk; cases hk
   ·rw [hv] at hk
    cases hk
    exact (hkeep _ _ hh (by intro c fz e; exact absurd (cells_ty (congrArg some e)) (by decide))).trans hh.symm
  ·rcases hG.arg m hm with h1 | ⟨g', h1, h2, h3⟩
   ·exact .inl h1
   ·exact .inr ⟨g', h1, h2, hkeep _ _ h3 (by intro c fz e; exact absurd (cells_ty (congrArg some e)) (by decide))⟩
 ·rcases h.key.2 with ⟨h0, h1⟩ | ⟨g', cap', cur, hv, _, hh, _⟩
  ·omega
  ·rw [hv] at hk
   cases hk
   exact (hkeep _ _ hh (by intro c fz e; exact absurd (cells_ty (congrArg some e)) (by decide))).trans hh.symm
set_option maxHeartbeats 8000000 in
set_option maxRecDepth 10000 in
theorem bounds_ab {lo G b : Nat} {D : DataW Unit} (hS : strKeys D = [[97], [98]]) (h97 : D.atKey (.string [97]) (.lit (.int .i64 0)) = .lit (.int .i64 0)) (h98 : D.atKey (.string [98]) (.lit (.int .i64 0)) = .lit (.int .i64 1)) (hsz : Maps.size D ≤ 1000) (w : World) (h : GX w lo G b (fun _ => False) (gA 3 3 4 2) D 2) :
  Calls Tryz.prog 30 #[.pointer (some ⟨G, 0, none⟩)] w fun e w' => ∃ v, e = .returned v ∧ w'.ownsRow w.heap.size 48 4 v 2 (bdI 97 ++ bdI 98) ∧ Below w.heap.size w w' := by
 have hl := h.num.2
 obtain ⟨g, cap, ad, _, c1, _⟩ := h.at (i := 0) (by decide)
 have hown : w.ownsMap Tryz.prog 9 (plainElem Tryz.prog 3) b (Maps.size D) D := by
  obtain ⟨v, ns, _, hG, _⟩ := h
  exact hG.map
 have C1 := (callsIn_wide (n := 5)).1 (Tryz.maps_Keys_36 (some b) w)
 have C2 := (callsIn_wide (n := 5)).1 (Tryz.slices_Sorted_keys_35_36 b (Maps.size D) D _ w hown (by unfold maxLen; omega) (by omega))
 have hb0 := (Below.refl w.heap.size w).alloc (Nat.le_refl _) (Obj.cells #[.map (some b)] 63)
 have C3 : Calls Tryz.prog 51 #[.func (.func 72) #[] #[.pointer (some ⟨w.heap.size, 0, none⟩)]] (w.alloc (.cells #[.map (some b)] 63)) fun e w' => ∃ g cap, e = .returned (.slice (some ⟨g, 0, none⟩) 2 cap) ∧ BoR lo G b (w.heap.size + 1) w w' (.slice (some ⟨g, 0, none⟩) 2 cap) (.slice none 0 0) 0 [] D := by
  refine Calls.mono C2 ?_
  rintro e w' ⟨v, ss, rfl, hp, ho, _, hbel⟩
  rw [hS] at hp
  rw [sort_ab hp, hp.length_eq] at ho
  have hs0 : (w.alloc (Obj.cells #[.map (some b)] 63)).heap.size = w.heap.size + 1 := by simp
  rw [hs0] at ho
  obtain ⟨g, cap, rfl, _, _⟩ := ho.form (by decide)
  exact ⟨g, cap, rfl, (h.below hb0).below hbel, hb0.trans (hbel.mono (by simp)), ho, ⟨rfl, .inl ⟨rfl, rfl⟩⟩, by omega⟩
 clear C2 hb0 hown
 go_enter Tryz.func30, Tryz.ntmps30
 go_upto_region 3 with (first
  | (go_at_call 52; (with_reducible refine Calls.mono C1 ?_); rintro e' w0 ⟨rfl, rfl⟩)
  | (go_at_call 51; (with_reducible refine Calls.mono C3 ?_); rintro e' w1 ⟨g, cap, rfl, B1⟩))
 obtain ⟨i0, hi, hz0, hz1, hz2⟩ := info_parts Tryz.info48
 clear C1 C3 h c1
 refine wp_loop_rounds 3 ?_
 rw [rounds_succ]
 have k0 : w1.cell? ⟨g, 0, none⟩ = some (.string ⟨#[97]⟩) := B1.key.cellAt 0 (by decide)
 obtain ⟨_, _, _, _, c1, _⟩ := B1.gx.at (i := 0) (by decide)
 have hrun : (Instr.lookup 63 (.map (some b)) (.string ⟨#[97]⟩) false).run Tryz.prog w1 = .ok (.int .i64 0) w1 := by
  obtain ⟨_, ns, _, hG, _⟩ := B1.gx
  obtain ⟨c, hr, hat, _⟩ := hG.map.lookup_int law9 Tryz.underlying63 Tryz.underlying3 (Tryz.zeroValue3 _) (key9 [97] (by decide))
  rw [h97] at hat
  cases hat
  exact hr
 have CE : Calls Tryz.prog 46 #[.pointer (some ⟨G, 0, none⟩), .int .i64 0] w1 fun e w' => e = .returned (.int .i64 3) ∧ w' = w1.drew := B1.gx.end_drew (i := 0) (m := 3) (by decide) (by decide) (by decide) rfl rfl
 have BD := B1.sm (wr' := w1.drew) ⟨rfl, rfl, rfl, rfl⟩
 have CT : Calls Tryz.prog 53 #[.pointer (some ⟨G, 0, none⟩), .int .i64 0] w1.drew fun e w' => e = .returned (.agg #[.int .i64 1, .string ⟨#[]⟩, .slice none 0 0]) ∧ BoR lo G b (w.heap.size + 1) w (w'.alloc (Obj.cells #[.string ⟨#[97]⟩, .int .i64 1, .string ⟨#[]⟩, .slice none 0 0] 48)) (.slice (some ⟨g, 0, none⟩) 2 cap) (.slice none 0 0) 0 [] D := by
  refine Calls.mono (typeOf_int BD.gx 0 3 (by decide) (by decide) (by decide) rfl rfl rfl rfl rfl) ?_
  rintro e w' ⟨rfl, hb⟩
  exact ⟨rfl, (BD.step hb).step ((Below.refl _ _).alloc (Nat.le_refl _) _)⟩
 clear BD B1
 skip
 go_upto_region 8 with (first
  | (go_at_call 46; (with_reducible refine Calls.mono CE ?_); rintro e' w5 ⟨rfl, rfl⟩)
  | (go_at_call 53; (with_reducible refine Calls.mono CT ?_); rintro e' w5 ⟨rfl, B5⟩; have hsz5 := B5.bel.size)
  | (at_builtin; refine wpList_append_own _ rfl _ _ 23 rfl w.heap.size 48 i0 _ 4 64 Tryz.underlying23 hi hz0 hz1 hz2 rfl (by decide) (.slice none 0 0) 0 [] rfl B5.own ⟨w5.heap.size, 0, none⟩ 1 1 (bdI 97) rfl rfl (bd_lit w5 97) (bd_one 97) (by unfold maxLen; omega) (by omega) hsz5 ?_; intro v2 w2 ho6 hg6 _))
 have B2 := B5.push hl ho6 hg6
 clear B5 ho6 hg6 CE CT hrun k0 c1 hsz5
 go_wp2_with fail
 rw [rounds_succ]
 have k0 : w2.cell? ⟨g, 1, none⟩ = some (.string ⟨#[98]⟩) := B2.key.cellAt 1 (by decide)
 obtain ⟨_, _, _, _, c1, _⟩ := B2.gx.at (i := 0) (by decide)
 have hrun : (Instr.lookup 63 (.map (some b)) (.string ⟨#[98]⟩) false).run Tryz.prog w2 = .ok (.int .i64 1) w2 := by
  obtain ⟨_, ns, _, hG, _⟩ := B2.gx
  obtain ⟨c, hr, hat, _⟩ := hG.map.lookup_int law9 Tryz.underlying63 Tryz.underlying3 (Tryz.zeroValue3 _) (key9 [98] (by decide))
  rw [h98] at hat
  cases hat
  exact hr
 have CE : Calls Tryz.prog 46 #[.pointer (some ⟨G, 0, none⟩), .int .i64 1] w2 fun e w' => e = .returned (.int .i64 3) ∧ w' = w2.drew := B2.gx.end_drew (i := 1) (m := 3) (by decide) (by decide) (by decide) rfl rfl
 have BD := B2.sm (wr' := w2.drew) ⟨rfl, rfl, rfl, rfl⟩
 have CT : Calls Tryz.prog 53 #[.pointer (some ⟨G, 0, none⟩), .int .i64 1] w2.drew fun e w' => e = .returned (.agg #[.int .i64 1, .string ⟨#[]⟩, .slice none 0 0]) ∧ BoR lo G b (w.heap.size + 1) w (w'.alloc (Obj.cells #[.string ⟨#[98]⟩, .int .i64 1, .string ⟨#[]⟩, .slice none 0 0] 48)) (.slice (some ⟨g, 0, none⟩) 2 cap) v2 1 (bdI 97) D := by
  refine Calls.mono (typeOf_int BD.gx 1 3 (by decide) (by decide) (by decide) rfl rfl rfl rfl rfl) ?_
  rintro e w' ⟨rfl, hb⟩
  exact ⟨rfl, (BD.step hb).step ((Below.refl _ _).alloc (Nat.le_refl _) _)⟩
 clear BD B2
 skip
 go_upto_region 8 with (first
  | (go_at_call 46; (with_reducible refine Calls.mono CE ?_); rintro e' w5 ⟨rfl, rfl⟩)
  | (go_at_call 53; (with_reducible refine Calls.mono CT ?_); rintro e' w5 ⟨rfl, B5⟩; have hsz5 := B5.bel.size)
  | (at_builtin; refine wpList_append_own _ rfl _ _ 23 rfl w.heap.size 48 i0 _ 4 64 Tryz.underlying23 hi hz0 hz1 hz2 rfl (by decide) v2 1 (bdI 97) rfl B5.own ⟨w5.heap.size, 0, none⟩ 1 1 (bdI 98) rfl rfl (bd_lit w5 98) (bd_one 98) (by unfold maxLen; omega) (by omega) hsz5 ?_; intro v3 w3 ho6 hg6 _))
 have B3 := B5.push hl ho6 hg6
 clear B5 ho6 hg6 CE CT hrun k0 c1 hsz5
 go_wp2_with fail
 rw [rounds_succ]
 go_wp2_with fail
 go_ret
 exact ⟨v3, rfl, B3.own, B3.bel⟩
end Go.Proofs.YtikpipenhamdbaaGreat

namespace Go.Proofs.YtikpipenhamdbaaGreat
open Go.RowKit Go.Maps

def dA : DataW Unit := (((.map [] : DataW Unit).put (.string [97]) (.lit (.int .i64 (0 : Nat)))).put (.string [98]) (.lit (.int .i64 (1 : Nat))))
def tX : Tn 2 := ((3, []), [((2, [97]), []), ((2, [98]), [])])
def tY : Tn 2 := ((3, []), [((1, []), []), ((2, [97]), [])])
theorem wrong_xy : wrongs [⟨2, tX⟩, ⟨2, tY⟩] = 0 := by decide
theorem dA_keys : strKeys dA = [[97], [98]] := by rfl
theorem dA_97 : dA.atKey (.string [97]) (.lit (.int .i64 0)) = .lit (.int .i64 0) := by rfl
theorem dA_98 : dA.atKey (.string [98]) (.lit (.int .i64 0)) = .lit (.int .i64 1) := by rfl
theorem dA_size : Maps.size dA ≤ 1000 := by decide
theorem dA_some (kl : Lit) (c : Int) (h : ∀ zd, dA.atKey kl zd = .lit (.int .i64 c)) : c = 0 ∨ c = 1 := by
 have h1 := h (.lit (.int .i64 0))
 unfold dA at h1
 by_cases h98 : kl = .string [98]
 ·rw [h98] at h1
  have e : (DataW.lit (.int .i64 1) : DataW Unit) = .lit (.int .i64 c) := h1
  cases e
  exact .inr rfl
 ·rw [Maps.atKey_put_other h98] at h1
  by_cases h97 : kl = .string [97]
  ·rw [h97] at h1
   have e : (DataW.lit (.int .i64 0) : DataW Unit) = .lit (.int .i64 c) := h1
   cases e
   exact .inl rfl
  ·rw [Maps.atKey_put_other h97] at h1
   have e : (DataW.lit (.int .i64 0) : DataW Unit) = .lit (.int .i64 c) := h1
   cases e
   exact .inl rfl
theorem tree_at {w : World} {B q : Nat} (hq : q < B) {k1 k2 : Int} {n1 n2 : List UInt8} {m1 m2 : ByteArray} (e1 : m1 = ⟨n1.toArray⟩) (e2 : m2 = ⟨n2.toArray⟩) (h1 : n1.length < 140737488355328) (h2 : n2.length < 140737488355328) (h : w.heap[q]? = some (.cells #[.int .i64 k1, .string m1, .slice none 0 0, .int .i64 k2, .string m2, .slice none 0 0] 29 (0, 0))) :
  TyAt w B 2 (.agg #[.int .i64 3, .string ⟨#[]⟩, .slice (some ⟨q, 0, none⟩) 2 2]) ((3, []), [((k1, n1), []), ((k2, n2), [])]) := by
 obtain ⟨⟨c0, c1, c2, c3, c4, c5⟩, _⟩ := six_cells h
 subst e1 e2
 refine ⟨_, rfl, show 0 < 140737488355328 by omega, show 2 < 140737488355328 by omega, .inr ⟨q, 0, 2, rfl, List.cons_ne_nil _ _, Nat.le_refl 2, hq, fun j hj => ?_⟩⟩
 match j, hj with
 | 0, _ => exact ⟨k1, _, _, c0, c1, c2, ⟨_, rfl, h1, show 0 < 140737488355328 by omega, .inl ⟨rfl, none, 0, rfl⟩⟩⟩
 | 1, _ => exact ⟨k2, _, _, c3, c4, c5, ⟨_, rfl, h2, show 0 < 140737488355328 by omega, .inl ⟨rfl, none, 0, rfl⟩⟩⟩
/-- The graph, as it is made. -/
theorem GX.made (w : World) : GX ((w.alloc (.map #[] 0)).alloc (.cells #[.slice none 0 0, .map (some w.heap.size), .int .i64 0] 66)) w.heap.size (w.heap.size + 1) w.heap.size (fun _ => False) [] (.map []) 0 := by
 refine ⟨.slice none 0 0, [], rfl, ⟨?_, ⟨rfl, .inl ⟨rfl, rfl⟩⟩, ?_, by decide, by simp, by omega, by omega, by simp⟩, by simp⟩
 ·have := heap_alloc_new (w.alloc (.map #[] 0)) (.cells #[.slice none 0 0, .map (some w.heap.size), .int .i64 0] 66)
  simpa using this
 ·have := (World.ownsMap_made (H := Unit) w Tryz.prog 9 (plainElem Tryz.prog 3)).kept (row := none) (World.grownBy_alloc _ (.cells #[.slice none 0 0, .map (some w.heap.size), .int .i64 0] 66) none) (by simp)
  exact this
theorem own_base {w : World} {B B' e size n : Nat} {v : Value} {xs : List Value} (h : w.ownsRow B e size v n xs) (hB : B' ≤ B) : w.ownsRow B' e size v n xs := by
 refine ⟨h.1, ?_⟩
 rcases h.2 with h0 | ⟨g, cap, cur, h1, h2, h3⟩
 ·exact .inl h0
 ·exact .inr ⟨g, cap, cur, h1, by omega, h3⟩
def gX : List Gx := [⟨2, [97], [], 0, true, 0⟩, ⟨2, [98], [], 1, true, 0⟩, ⟨3, [], [0, 1], 2, false, 0⟩]
theorem lay_x {w : World} {lo G b q : Nat} (h : GX w lo G b (fun _ => False) [] (.map []) 0) (hq : q < lo) (hb : w.heap[q]? = some (.cells #[.int .i64 2, .string ⟨#[97]⟩, .slice none 0 0, .int .i64 2, .string ⟨#[98]⟩, .slice none 0 0] 29 (0, 0))) :
  Calls Tryz.prog 28 #[.pointer (some ⟨G, 0, none⟩), .agg #[.int .i64 3, .string ⟨#[]⟩, .slice (some ⟨q, 0, none⟩) 2 2]] w fun e w' => e = .returned (.int .i64 2) ∧ Gk lo G b w w' ∧ GX w' lo G b (fun _ => False) gX dA 0 := by
 obtain ⟨⟨c0, c1, c2, c3, c4, c5⟩, _⟩ := six_cells hb
 exact lay_fun lo G b 0 2 2 ⟨#[97]⟩ ⟨#[98]⟩ none none 0 0 0 0 q 0 2 [] _ _ (.map []) _ _ 0 1
  (layP_leaf lo G b 0 2 [97] none 0 [] (.map []) (by decide) (.inr rfl) (by decide) rfl (by decide)) (by decide) rfl
  (layP_leaf lo G b 0 2 [98] none 0 _ _ (by decide) (.inr rfl) (by decide) rfl (by decide)) (by decide) rfl rfl (by decide) w h hq c0 c1 c2 c3 c4 c5
theorem lay_y {w : World} {lo G b q : Nat} (h : GX w lo G b (fun _ => False) gX dA 0) (hq : q < lo) (hb : w.heap[q]? = some (.cells #[.int .i64 1, .string ⟨#[]⟩, .slice none 0 0, .int .i64 2, .string ⟨#[97]⟩, .slice none 0 0] 29 (0, 0))) :
  Calls Tryz.prog 28 #[.pointer (some ⟨G, 0, none⟩), .agg #[.int .i64 3, .string ⟨#[]⟩, .slice (some ⟨q, 0, none⟩) 2 2]] w fun e w' => e = .returned (.int .i64 4) ∧ Gk lo G b w w' ∧ GX w' lo G b (fun _ => False) (gA 0 1 2 0) dA 0 := by
 obtain ⟨⟨c0, c1, c2, c3, c4, c5⟩, _⟩ := six_cells hb
 exact lay_fun lo G b 0 1 2 ⟨#[]⟩ ⟨#[97]⟩ none none 0 0 0 0 q 0 2 gX _ _ dA _ _ 3 0
  (layP_leaf lo G b 0 1 [] none 0 gX dA (by decide) (.inl rfl) (by decide) rfl (by decide)) (by decide) rfl
  (layP_old lo G b 0 [97] none 0 0 _ dA (by decide) (by decide) rfl rfl) (by decide) rfl rfl (by decide) w h hq c0 c1 c2 c3 c4 c5
set_option maxHeartbeats 8000000 in
set_option maxRecDepth 10000 in
theorem unify_xy (w : World) (p q r : Nat) (hp : w.heap[p]? = some (.cells #[.int .i64 3, .string ⟨#[]⟩, .slice (some ⟨q, 0, none⟩) 2 2, .int .i64 3, .string ⟨#[]⟩, .slice (some ⟨r, 0, none⟩) 2 2] 34 (0, 0)))
  (hq : w.heap[q]? = some (.cells #[.int .i64 2, .string ⟨#[97]⟩, .slice none 0 0, .int .i64 2, .string ⟨#[98]⟩, .slice none 0 0] 29 (0, 0)))
  (hr : w.heap[r]? = some (.cells #[.int .i64 1, .string ⟨#[]⟩, .slice none 0 0, .int .i64 2, .string ⟨#[97]⟩, .slice none 0 0] 29 (0, 0))) :
  Calls Tryz.prog 10 #[.slice (some ⟨p, 0, none⟩) 1 1] w fun e w' => ∃ v, e = .returned (.tuple #[v, .int .i64 0, .int .i64 0]) ∧ w'.ownsRow w.heap.size 48 4 v 2 (bdI 97 ++ bdI 98) ∧ Below w.heap.size w w' := by
 obtain ⟨⟨c0, c1, c2, c3, c4, c5⟩, _⟩ := six_cells hp
 obtain ⟨W, hW⟩ : ∃ W, W = (w.alloc (.cells #[.int .i64 3, .string ⟨#[]⟩, .slice (some ⟨q, 0, none⟩) 2 2, .int .i64 3, .string ⟨#[]⟩, .slice (some ⟨r, 0, none⟩) 2 2] 34)).alloc (.cells #[.int .i64 3, .string ⟨#[]⟩, .slice (some ⟨q, 0, none⟩) 2 2, .int .i64 3, .string ⟨#[]⟩, .slice (some ⟨r, 0, none⟩) 2 2] 29) := ⟨_, rfl⟩
 have hbW : Below w.heap.size w W := by rw [hW]; exact ((Below.refl _ _).alloc (Nat.le_refl _) _).alloc (by simp) _
 have hsW : W.heap.size = w.heap.size + 2 := by rw [hW]; simp
 have hnW : W.heap[w.heap.size + 1]? = some (.cells #[.int .i64 3, .string ⟨#[]⟩, .slice (some ⟨q, 0, none⟩) 2 2, .int .i64 3, .string ⟨#[]⟩, .slice (some ⟨r, 0, none⟩) 2 2] 29 (0, 0)) := by
  rw [hW]
  have := heap_alloc_new (w.alloc (.cells #[.int .i64 3, .string ⟨#[]⟩, .slice (some ⟨q, 0, none⟩) 2 2, .int .i64 3, .string ⟨#[]⟩, .slice (some ⟨r, 0, none⟩) 2 2] 34)) (.cells #[.int .i64 3, .string ⟨#[]⟩, .slice (some ⟨q, 0, none⟩) 2 2, .int .i64 3, .string ⟨#[]⟩, .slice (some ⟨r, 0, none⟩) 2 2] 29)
  simpa using this
 have CW : Calls Tryz.prog 24 #[.slice (some ⟨w.heap.size + 1, 0, none⟩) 2 2] W fun e w' => e = .returned (.int .i64 0) ∧ Below w.heap.size w w' := by
  have hS : Stk W W.heap.size [(3, ⟨#[]⟩, .slice (some ⟨q, 0, none⟩) 2 2), (3, ⟨#[]⟩, .slice (some ⟨r, 0, none⟩) 2 2)] [⟨2, tX⟩, ⟨2, tY⟩] := by
   refine ⟨rfl, fun j hj hj' => ?_⟩
   match j, hj with
   | 0, _ => exact tree_at (by have := lt_of_heap hq; omega) rfl rfl (by decide) (by decide) ((hbW.block q (lt_of_heap hq)).trans hq)
   | 1, _ => exact tree_at (by have := lt_of_heap hr; omega) rfl rfl (by decide) (by decide) ((hbW.block r (lt_of_heap hr)).trans hr)
  refine Calls.mono (wrong_list [(3, ⟨#[]⟩, .slice (some ⟨q, 0, none⟩) 2 2), (3, ⟨#[]⟩, .slice (some ⟨r, 0, none⟩) 2 2)] [⟨2, tX⟩, ⟨2, tY⟩] (w.heap.size + 1) 2 W W.heap.size (Nat.le_refl _) (by omega) (fun j u hj => ?_) hS ?_ (by show 2 ≤ 1000; omega)) ?_
  ·have := World.news_of_block (cs := #[.int .i64 3, .string ⟨#[]⟩, .slice (some ⟨q, 0, none⟩) 2 2, .int .i64 3, .string ⟨#[]⟩, .slice (some ⟨r, 0, none⟩) 2 2]) hnW j u hj
   rw [show (⟨w.heap.size + 1, 0, none⟩ : Addr).add j = ⟨w.heap.size + 1, j, none⟩ by unfold Addr.add; split <;> simp_all] at this
   exact this
  ·intro u hu
   have : u = ⟨2, tX⟩ ∨ u = ⟨2, tY⟩ := by simpa using hu
   rcases this with rfl | rfl <;> decide
  ·rintro e w' ⟨rfl, hb⟩
   exact ⟨by rw [wrong_xy], hbW.trans (hb.mono (by omega))⟩
 have hmm := @run_makeMap Tryz.prog
 go_enter Tryz.func10, Tryz.ntmps10
 go_upto_region 4 with fail
 refine wp_loop_rounds 2 ?_
 rw [rounds_succ]
 go_upto_region 6 with fail
 have CW' := CW
 rw [hW] at CW'
 clear CW hW
 go_upto_region 9 with (first | (go_at_call 24; (with_reducible refine Calls.mono CW' ?_); rintro e' w2 ⟨rfl, hb2⟩))
 have hp2 := (hb2.block p (lt_of_heap hp)).trans hp
 have hq2 := (hb2.block q (lt_of_heap hq)).trans hq
 have hr2 := (hb2.block r (lt_of_heap hr)).trans hr
 have hlp := lt_of_heap hp2
 have hlq := lt_of_heap hq2
 have hlr := lt_of_heap hr2
 clear CW' hbW hsW hnW c0 c1 c2 c3 c4 c5 hp hq hr
 go_wp2_with fail
 rw [rounds_succ]
 go_upto_region 11 with fail
 have hX := GX.made w2
 have hb3 : Below w2.heap.size w2 ((w2.alloc (.map #[] 0)).alloc (.cells #[.slice none 0 0, .map (some w2.heap.size), .int .i64 0] 66)) := ((Below.refl _ _).alloc (Nat.le_refl _) _).alloc (by simp) _
 have hs3 : ((w2.alloc (.map #[] 0)).alloc (.cells #[.slice none 0 0, .map (some w2.heap.size), .int .i64 0] 66)).heap.size = w2.heap.size + 2 := by simp
 generalize ((w2.alloc (.map #[] 0)).alloc (.cells #[.slice none 0 0, .map (some w2.heap.size), .int .i64 0] 66)) = w3 at *
 have hp3 := (hb3.block p hlp).trans hp2
 have hq3 := (hb3.block q hlq).trans hq2
 have hr3 := (hb3.block r hlr).trans hr2
 have HS3 : Hid (w3.heap.size = w2.heap.size + 2) := hs3
 clear hmm hp2 hq2 hr2 hs3
 obtain ⟨⟨c0, c1, c2, c3, c4, c5⟩, _⟩ := six_cells hp3
 go_upto_region 12 with fail
 refine wp_loop_rounds 2 ?_
 rw [rounds_succ]
 go_upto_region 14 with fail
 obtain ⟨w4, hw4⟩ : ∃ w4, w4 = w3.alloc (.cells #[.int .i64 3, .string ⟨#[]⟩, .slice (some ⟨q, 0, none⟩) 2 2, .int .i64 3, .string ⟨#[]⟩, .slice (some ⟨r, 0, none⟩) 2 2] 34) := ⟨_, rfl⟩
 have hb4 : Below w3.heap.size w3 w4 := by rw [hw4]; exact (Below.refl _ _).alloc (Nat.le_refl _) _
 have hn4 : w4.heap[w3.heap.size]? = some (.cells #[.int .i64 3, .string ⟨#[]⟩, .slice (some ⟨q, 0, none⟩) 2 2, .int .i64 3, .string ⟨#[]⟩, .slice (some ⟨r, 0, none⟩) 2 2] 34 (0, 0)) := by rw [hw4]; exact heap_alloc_new w3 _
 rw [← hw4]
 clear hw4 c0 c1 c2 c3 c4 c5
 have hX4 := (hX.below hb4).sm (w' := w4.drew) ⟨rfl, rfl, rfl, rfl⟩
 have hq4 : w4.drew.heap[q]? = _ := (hb4.block q (lt_of_heap hq3)).trans hq3
 have hr4 : w4.drew.heap[r]? = _ := (hb4.block r (lt_of_heap hr3)).trans hr3
 have hn4' : w4.drew.heap[w3.heap.size]? = _ := hn4
 have k4 : Gk w2.heap.size (w2.heap.size + 1) w2.heap.size w3 w4.drew := Gk.of_below hb4.drew (by have := HS3.out; omega)
 obtain ⟨⟨c0, c1, c2, c3, c4, c5⟩, _⟩ := six_cells hn4
 have KK : Hid (∀ W, Gk w2.heap.size (w2.heap.size + 1) w2.heap.size w4.drew W → W.heap[r]? = some (.cells #[.int .i64 1, .string ⟨#[]⟩, .slice none 0 0, .int .i64 2, .string ⟨#[97]⟩, .slice none 0 0] 29 (0, 0)) ∧ W.heap[w3.heap.size]? = some (.cells #[.int .i64 3, .string ⟨#[]⟩, .slice (some ⟨q, 0, none⟩) 2 2, .int .i64 3, .string ⟨#[]⟩, .slice (some ⟨r, 0, none⟩) 2 2] 34 (0, 0))) := fun W hk => ⟨hk.keep _ _ hr4 (by omega) (by omega) (by intro c fz e; exact absurd (cells_ty (congrArg some e)) (by decide)), hk.keep _ _ hn4' (by have := HS3.out; omega) (by have := HS3.out; omega) (by intro c fz e; exact absurd (cells_ty (congrArg some e)) (by decide))⟩
 have CX := lay_x hX4 hlq hq4
 clear hX hX4 hq4 hr4 hn4' hb4 hq3 hr3 hp3 hn4
 go_cut [11] from 42 to 48 (fun s wx => s = .int .i64 0 ∧ Gk w2.heap.size (w2.heap.size + 1) w2.heap.size w3 wx ∧ GX wx w2.heap.size (w2.heap.size + 1) w2.heap.size (fun _ => False) (gA 3 3 4 2) dA 2)
 case first =>
  go_region_held3 (fun w' => w'.cell? ⟨w3.heap.size, 0, none⟩ = some (.int .i64 3) ∧ w'.cell? ⟨w3.heap.size, 1, none⟩ = some (.string ⟨#[]⟩) ∧ w'.cell? ⟨w3.heap.size, 2, none⟩ = some (.slice (some ⟨q, 0, none⟩) 2 2) ∧ w'.cell? ⟨w3.heap.size, 3, none⟩ = some (.int .i64 3) ∧ w'.cell? ⟨w3.heap.size, 4, none⟩ = some (.string ⟨#[]⟩) ∧ w'.cell? ⟨w3.heap.size, 5, none⟩ = some (.slice (some ⟨r, 0, none⟩) 2 2)) (first | exact ⟨c0, c1, c2, c3, c4, c5⟩ | exact ⟨f0, f1, f2, f3, f4, f5⟩ | exact ⟨e0, e1, e2, e3, e4, e5⟩ | exact ⟨d0, d1, d2, d3, d4, d5⟩ | assumption | go_keep) (first
   | (go_at_call 28; (with_reducible refine Calls.mono CX ?_); rintro e' w5 ⟨rfl, k5, x5⟩; obtain ⟨hr5, hn5⟩ := KK.out _ k5; obtain ⟨⟨d0, d1, d2, d3, d4, d5⟩, _⟩ := six_cells hn5; have CY := lay_y x5 hlr hr5)
   | (go_at_call 28; (with_reducible refine Calls.mono CY ?_); rintro e' w6 ⟨rfl, k6, x6⟩; obtain ⟨hr6, hn6⟩ := KK.out _ (k5.trans k6); obtain ⟨⟨e0, e1, e2, e3, e4, e5⟩, _⟩ := six_cells hn6; have CZ := agree_awake w6 x6)
   | (go_at_call 27; (with_reducible refine Calls.mono CZ ?_); rintro e' w7 ⟨rfl, k7, x7⟩; obtain ⟨hr7, hn7⟩ := KK.out _ ((k5.trans k6).trans k7); obtain ⟨⟨f0, f1, f2, f3, f4, f5⟩, _⟩ := six_cells hn7))
  all_goals
   go_wp2_with fail
   go_meet
   exact ⟨rfl, k4.trans ((k5.trans k6).trans k7), x7⟩
 case rest =>
  obtain ⟨rfl, k7, x7⟩ := hcut
  have CA := fun W => above_no (lo := w2.heap.size) (G := w2.heap.size + 1) (b := w2.heap.size) (D := dA) dA_some W
  have CB := fun W => bounds_ab (lo := w2.heap.size) (G := w2.heap.size + 1) (b := w2.heap.size) (D := dA) dA_keys dA_97 dA_98 dA_size W
  clear CX KK c0 c1 c2 c3 c4 c5
  go_wp2_with fail
  rw [rounds_succ]
  go_wp2_with (first
   | (go_at_call 29; (with_reducible refine Calls.mono (CA _ x7) ?_); rintro e' w8 ⟨rfl, k8, x8⟩)
   | (go_at_call 30; (with_reducible refine Calls.mono (CB _ x8) ?_); rintro e' w9 ⟨v9, rfl, o9, b9⟩))
  refine bodyPost_ret (v := .tuple #[v9, .int .i64 0, .int .i64 0]) (by simp [results, Tryz.results10, go_sem]) rfl ?_
  have hs2 := hb2.size
  have hs3 := hb3.size
  have k78 := k7.trans k8
  have hs8 := k78.size
  refine ⟨v9, rfl, own_base o9 (by omega), ?_⟩
  have hb8 : Below w.heap.size w w8 := hb2.trans ((hb3.mono (by omega)).trans ⟨k78.os, k78.tape, k78.output, k78.size, fun k hk => k78.low k (by omega)⟩)
  exact hb8.trans (b9.mono (by omega))
end Go.Proofs.YtikpipenhamdbaaGreat

namespace Go.Proofs.YtikpipenhamdbaaGreat
open Go.RowKit Go.Maps

set_option maxRecDepth 10000 in
theorem variable_at (n : ByteArray) (w : World) : Calls Tryz.prog 18 #[.string n] w fun e w' => e = .returned (.agg #[.int .i64 2, .string n, .slice none 0 0]) ∧ Below w.heap.size w w' := by
 go_enter Tryz.func18, Tryz.ntmps18
 go_wp2
 obtain ⟨W, hW, hbW, _, s0, s1, s2⟩ := cells_box w (.int .i64 2) (.string n) (.slice none 0 0) 29
 rw [← hW]
 refine bodyPost_ret (v := .agg #[.int .i64 2, .string n, .slice none 0 0]) (by simp [results, Tryz.results18, go_sem, s0, s1, s2]) rfl ?_
 exact ⟨rfl, hbW⟩
set_option maxRecDepth 10000 in
theorem integer_at (w : World) : Calls Tryz.prog 19 #[] w fun e w' => e = .returned (.agg #[.int .i64 1, .string ⟨#[]⟩, .slice none 0 0]) ∧ Below w.heap.size w w' := by
 go_enter Tryz.func19, Tryz.ntmps19
 go_wp2
 obtain ⟨W, hW, hbW, _, s0, s1, s2⟩ := cells_box w (.int .i64 1) (.string ⟨#[]⟩) (.slice none 0 0) 29
 rw [← hW]
 refine bodyPost_ret (v := .agg #[.int .i64 1, .string ⟨#[]⟩, .slice none 0 0]) (by simp [results, Tryz.results19, go_sem, s0, s1, s2]) rfl ?_
 exact ⟨rfl, hbW⟩
set_option maxRecDepth 10000 in
theorem function_at (k1 k2 : Int) (n1 n2 : ByteArray) (w : World) : Calls Tryz.prog 17 #[.agg #[.int .i64 k1, .string n1, .slice none 0 0], .agg #[.int .i64 k2, .string n2, .slice none 0 0]] w fun e w' => ∃ q, e = .returned (.agg #[.int .i64 3, .string ⟨#[]⟩, .slice (some ⟨q, 0, none⟩) 2 2]) ∧ w'.heap[q]? = some (.cells #[.int .i64 k1, .string n1, .slice none 0 0, .int .i64 k2, .string n2, .slice none 0 0] 29 (0, 0)) ∧ Below w.heap.size w w' := by
 go_enter Tryz.func17, Tryz.ntmps17
 go_wp2
 obtain ⟨V, hV⟩ : ∃ V, V = (w.alloc (Obj.cells #[.int .i64 k1, .string n1, .slice none 0 0] 29)).alloc (Obj.cells #[.int .i64 k2, .string n2, .slice none 0 0] 29) := ⟨_, rfl⟩
 have hbV : Below w.heap.size w V := by rw [hV]; exact ((Below.refl _ _).alloc (Nat.le_refl _) _).alloc (by simp) _
 have hsV : V.heap.size = w.heap.size + 1 + 1 := by rw [hV]; simp
 rw [← hV]
 clear hV
 rw [← hsV]
 have hs0 : w.heap.size ≤ V.heap.size := hbV.size
 obtain ⟨W, hW⟩ : ∃ W, W = (V.alloc (Obj.cells #[.int .i64 3, .string ⟨#[]⟩, .slice (some ⟨V.heap.size + 1, 0, none⟩) 2 2] 29)).alloc (Obj.cells #[.int .i64 k1, .string n1, .slice none 0 0, .int .i64 k2, .string n2, .slice none 0 0] 29) := ⟨_, rfl⟩
 have hbW : Below V.heap.size V W := by rw [hW]; exact ((Below.refl _ _).alloc (Nat.le_refl _) _).alloc (by simp) _
 have hx : W.heap[V.heap.size]? = some (.cells #[.int .i64 3, .string ⟨#[]⟩, .slice (some ⟨V.heap.size + 1, 0, none⟩) 2 2] 29 (0, 0)) := by rw [hW, Below.heap_alloc _ _ _ (by simp)]; exact heap_alloc_new V _
 have hy : W.heap[V.heap.size + 1]? = some (.cells #[.int .i64 k1, .string n1, .slice none 0 0, .int .i64 k2, .string n2, .slice none 0 0] 29 (0, 0)) := by
  rw [hW]
  have := heap_alloc_new (V.alloc (Obj.cells #[.int .i64 3, .string ⟨#[]⟩, .slice (some ⟨V.heap.size + 1, 0, none⟩) 2 2] 29)) (Obj.cells #[.int .i64 k1, .string n1, .slice none 0 0, .int .i64 k2, .string n2, .slice none 0 0] 29)
  simpa using this
 rw [← hW]
 obtain ⟨s0, s1, s2⟩ := heap_cells hx
 refine bodyPost_ret (v := .agg #[.int .i64 3, .string ⟨#[]⟩, .slice (some ⟨V.heap.size + 1, 0, none⟩) 2 2]) (by simp [results, Tryz.results17, go_sem, s0, s1, s2]) rfl ?_
 exact ⟨_, rfl, hy, hbV.trans (hbW.mono hs0)⟩
def bsA : List Bd := [([97], ⟨1, ((1, []), [])⟩), ([98], ⟨1, ((1, []), [])⟩)]
theorem bd_at {W : World} {B : Nat} {v : Value} (h : W.ownsRow B 48 4 v 2 (bdI 97 ++ bdI 98)) : BdAt W W.heap.size v bsA := by
 obtain ⟨g, cap, rfl, hg, hlt⟩ := h.form (by decide)
 have hcap : 2 ≤ cap := by
  rcases h.2 with ⟨h0, _⟩ | ⟨g', cap', cur, hv, _, _, hc, _⟩
  ·cases h0
  ·cases hv; exact hc
 refine ⟨some ⟨g, 0, none⟩, cap, rfl, show 2 < 140737488355328 by omega, fun _ => ⟨g, 0, rfl, hcap, hlt, fun j hj => ?_⟩⟩
 have hT : TyAt W W.heap.size 1 (.agg #[.int .i64 1, .string ⟨#[]⟩, .slice none 0 0]) ((1, []), []) := ⟨_, rfl, show 0 < 140737488355328 by omega, show 0 < 140737488355328 by omega, .inl ⟨rfl, none, 0, rfl⟩⟩
 have hk : ∀ w', Below W.heap.size W w' → w'.ownsRow B 48 4 (.slice (some ⟨g, 0, none⟩) 2 cap) 2 (bdI 97 ++ bdI 98) := fun w' hb => own_keep h fun k hk => by
  cases hk
  exact hb.block _ hlt
 match j, hj with
 | 0, _ => exact ⟨show 1 < 140737488355328 by omega, 1, ⟨#[]⟩, none, 0, 0, fun w' hb => ⟨(hk w' hb).cellAt 0 (by decide), (hk w' hb).cellAt 1 (by decide), (hk w' hb).cellAt 2 (by decide), (hk w' hb).cellAt 3 (by decide)⟩, hT⟩
 | 1, _ => exact ⟨show 1 < 140737488355328 by omega, 1, ⟨#[]⟩, none, 0, 0, fun w' hb => ⟨(hk w' hb).cellAt 4 (by decide), (hk w' hb).cellAt 5 (by decide), (hk w' hb).cellAt 6 (by decide), (hk w' hb).cellAt 7 (by decide)⟩, hT⟩
theorem print_x : printV 2 tX = .tuple #[.string ⟨#[40, 97, 32, 45, 62, 32, 98, 41]⟩, .int .i64 0] := by rfl
theorem text_x : textT 2 tX = [40, 97, 32, 45, 62, 32, 98, 41] := by rfl
theorem form_x : formB 2 tX = true := by rfl
set_option maxHeartbeats 8000000 in
set_option maxRecDepth 10000 in
theorem wakes_of (hR : Reads 21) : Wakes := by
 intro w
 have CV := variable_at
 have CF := function_at 2 2 ⟨#[97]⟩ ⟨#[98]⟩
 go_enter Tryz.func7, Tryz.ntmps7
 go_upto_region 2 with (first
  | (go_at_call 18; (with_reducible refine Calls.mono (CV ⟨#[97]⟩ _) ?_); rintro e' w1 ⟨rfl, b1⟩)
  | (go_at_call 18; (with_reducible refine Calls.mono (CV ⟨#[98]⟩ _) ?_); rintro e' w2 ⟨rfl, b2⟩)
  | (go_at_call 17; (with_reducible refine Calls.mono (CF _) ?_); rintro e' w3 ⟨q, rfl, hq, b3⟩))
 clear CF
 have B3 : Below w.heap.size w w3 := (b1.trans (b2.mono b1.size)).trans (b3.mono (by have := b1.size; have := b2.size; omega))
 obtain ⟨w4, hw4, hb4, hs4, _, _, _⟩ := cells_box w3 (.int .i64 3) (.string ⟨#[]⟩) (.slice (some ⟨q, 0, none⟩) 2 2) 29
 have hz4 : w4.heap[w3.heap.size]? = some (.cells #[.int .i64 3, .string ⟨#[]⟩, .slice (some ⟨q, 0, none⟩) 2 2] 29 (0, 0)) := by rw [hw4]; exact heap_alloc_new w3 _
 rw [← hw4]
 have B4 : Below w.heap.size w w4 := B3.trans (hb4.mono B3.size)
 have hq4 := (hb4.block q (lt_of_heap hq)).trans hq
 have KZ : Hid (∀ W, Below w4.heap.size w4 W → W.heap[w3.heap.size]? = some (.cells #[.int .i64 3, .string ⟨#[]⟩, .slice (some ⟨q, 0, none⟩) 2 2] 29 (0, 0)) ∧ W.heap[q]? = some (.cells #[.int .i64 2, .string ⟨#[97]⟩, .slice none 0 0, .int .i64 2, .string ⟨#[98]⟩, .slice none 0 0] 29 (0, 0))) := fun W hb => ⟨(hb.block _ (lt_of_heap hz4)).trans hz4, (hb.block _ (lt_of_heap hq4)).trans hq4⟩
 have HS : Hid (w.heap.size ≤ w4.heap.size ∧ q < w4.heap.size ∧ w3.heap.size < w4.heap.size) := ⟨B4.size, lt_of_heap hq4, lt_of_heap hz4⟩
 clear hw4 hs4 hb4 hq hq4 B3 b1 b2 b3
 obtain ⟨c0, c1, c2⟩ := heap_cells hz4
 generalize w3.heap.size = z at *
 have CI := integer_at
 have CG := function_at 1 2 ⟨#[]⟩ ⟨#[97]⟩
 go_cut [2, 3, 4] from 14 to 24 (fun a b c wx => ∃ v, a = v ∧ b = .int .i64 0 ∧ c = .int .i64 0 ∧ wx.ownsRow w.heap.size 48 4 v 2 (bdI 97 ++ bdI 98) ∧ Below w4.heap.size w4 wx)
 case first =>
  go_region_held3 (fun w' => w'.cell? ⟨z, 0, none⟩ = some (.int .i64 3) ∧ w'.cell? ⟨z, 1, none⟩ = some (.string ⟨#[]⟩) ∧ w'.cell? ⟨z, 2, none⟩ = some (.slice (some ⟨q, 0, none⟩) 2 2)) (first | exact ⟨c0, c1, c2⟩ | exact ⟨h0, h1, h2⟩ | exact ⟨alloc_keep f0 _, alloc_keep f1 _, alloc_keep f2 _⟩ | exact ⟨f0, f1, f2⟩ | exact ⟨e0, e1, e2⟩ | exact ⟨d0, d1, d2⟩ | assumption | go_keep) (first
   | (go_at_call 19; (with_reducible refine Calls.mono (CI _) ?_); rintro e' w5 ⟨rfl, b5⟩; have B5 : Below w4.heap.size w4 w5 := (Below.refl _ w4).drew.trans b5; obtain ⟨d0, d1, d2⟩ := heap_cells (KZ.out _ B5).1)
   | (go_at_call 18; (with_reducible refine Calls.mono (CV ⟨#[97]⟩ _) ?_); rintro e' w6 ⟨rfl, b6⟩; have B6 : Below w4.heap.size w4 w6 := B5.trans (b6.mono B5.size); obtain ⟨e0, e1, e2⟩ := heap_cells (KZ.out _ B6).1)
   | (go_at_call 17; (with_reducible refine Calls.mono (CG _) ?_); rintro e' w7 ⟨r, rfl, hr7, b7⟩; have B7 : Below w4.heap.size w4 w7 := B6.trans (b7.mono B6.size); obtain ⟨f0, f1, f2⟩ := heap_cells (KZ.out _ B7).1; have bp : Below w7.heap.size w7 (w7.alloc (.cells #[.int .i64 3, .string ⟨#[]⟩, .slice (some ⟨q, 0, none⟩) 2 2, .int .i64 3, .string ⟨#[]⟩, .slice (some ⟨r, 0, none⟩) 2 2] 34)) := (Below.refl _ _).alloc (Nat.le_refl _) _; have CU := unify_xy _ w7.heap.size q r (heap_alloc_new w7 _) ((bp.block _ (lt_of_heap (KZ.out _ B7).2)).trans (KZ.out _ B7).2) ((bp.block _ (lt_of_heap hr7)).trans hr7))
   | (go_at_call 10; (with_reducible refine Calls.mono CU ?_); rintro e' w8 ⟨v8, rfl, o8, b8⟩; have B8 : Below w4.heap.size w4 w8 := (B7.trans (bp.mono B7.size)).trans (b8.mono (by have := B7.size; simp; omega)); obtain ⟨h0, h1, h2⟩ := heap_cells (KZ.out _ B8).1))
  all_goals
   go_wp2_with fail
   go_meet
   exact ⟨v8, rfl, rfl, rfl, own_base o8 (by have := HS.out.1; have := B7.size; simp; omega), B8⟩
 case rest =>
  obtain ⟨v8, rfl, rfl, rfl, o8, B8⟩ := hcut
  generalize wc = w8 at *
  have CP : Calls Tryz.prog 20 #[.agg #[.int .i64 3, .string ⟨#[]⟩, .slice (some ⟨q, 0, none⟩) 2 2]] w8 fun r w' => r = .returned (.tuple #[.string ⟨#[40, 97, 32, 45, 62, 32, 98, 41]⟩, .int .i64 0]) ∧ Below w8.heap.size w8 w' := by
   have := print_any 2 _ tX w8 w8.heap.size (Nat.le_refl _) (tree_at (lt_of_heap (KZ.out _ B8).2) rfl rfl (by decide) (by decide) (KZ.out _ B8).2) (by decide)
   rw [print_x] at this
   exact this
  obtain ⟨h0, h1, h2⟩ := heap_cells (KZ.out _ B8).1
  have CR : ∀ W, Calls Tryz.prog 21 #[.string ⟨#[40, 97, 32, 45, 62, 32, 98, 41]⟩] W (ReadPost W [40, 97, 32, 45, 62, 32, 98, 41]) := fun W => hR _ W (by decide)
  clear CG CV c0 c1 c2
  go_upto_region 5 with (first
   | (go_at_call 20; (with_reducible refine Calls.mono CP ?_); rintro e' w9 ⟨rfl, b9⟩)
   | (go_at_call 21; (with_reducible refine Calls.mono (CR _) ?_); intro e' w10 hpost; obtain ⟨b10, k4, n4, ad4, l4, cp4, e4, d4, t4, rfl, T4, N4, P4, Q4⟩ := hpost.tree))
  have he4 : e4 = 0 := Q4 2 tX form_x text_x (by decide) (by decide)
  subst he4
  have hf4 : flat d4 t4 = flat 2 tX := (text_inj d4 t4 2 tX [] [] (P4 rfl).1 form_x ends_nil ends_nil (by rw [(P4 rfl).2.1, text_x])).1
  have B10 : Below w4.heap.size w4 w10 := (B8.trans (b9.mono B8.size)).trans (b10.mono (by have := B8.size; have := b9.size; omega))
  have o10 : w10.ownsRow w.heap.size 48 4 u2 2 (bdI 97 ++ bdI 98) := own_keep o8 fun k hk => by
   have := (o8.lt k hk).2
   rw [b10.block k (by have := b9.size; omega), b9.block k this]
  obtain ⟨w11, hw11, b11, hs11, _, _, _⟩ := cells_box w10 (.int .i64 k4) (.string n4) (.slice ad4 l4 cp4) 29
  have hz11 : w11.heap[w10.heap.size]? = some (.cells #[.int .i64 k4, .string n4, .slice ad4 l4 cp4] 29 (0, 0)) := by rw [hw11]; exact heap_alloc_new w10 _
  rw [← hw11]
  have B11 : Below w4.heap.size w4 w11 := B10.trans (b11.mono B10.size)
  have o11 : w11.ownsRow w.heap.size 48 4 u2 2 (bdI 97 ++ bdI 98) := own_keep o10 fun k hk => b11.block k (o10.lt k hk).2
  have T11 := TyAt.below b11 b11.size _ _ _ T4
  have HK : Hid (∀ W, Below w11.heap.size w11 W → (W.heap[w10.heap.size]? = some (.cells #[.int .i64 k4, .string n4, .slice ad4 l4 cp4] 29 (0, 0)) ∧ W.heap[z]? = some (.cells #[.int .i64 3, .string ⟨#[]⟩, .slice (some ⟨q, 0, none⟩) 2 2] 29 (0, 0))) ∧ (TyAt W W.heap.size d4 (.agg #[.int .i64 k4, .string n4, .slice ad4 l4 cp4]) t4 ∧ TyAt W W.heap.size 2 (.agg #[.int .i64 3, .string ⟨#[]⟩, .slice (some ⟨q, 0, none⟩) 2 2]) tX) ∧ W.ownsRow w.heap.size 48 4 u2 2 (bdI 97 ++ bdI 98) ∧ Below w.heap.size w W) := fun W hb => by
   have BW := B11.trans (hb.mono B11.size)
   obtain ⟨k1, k2⟩ := KZ.out _ BW
   exact ⟨⟨(hb.block _ (lt_of_heap hz11)).trans hz11, k1⟩, ⟨TyAt.below hb hb.size _ _ _ T11, tree_at (lt_of_heap k2) rfl rfl (by decide) (by decide) k2⟩, own_keep o11 fun k hk => hb.block k (o11.lt k hk).2, B4.trans (BW.mono HS.out.1)⟩
  clear hw11 hs11 b11 hz11 B11 o11 T11 o10 B10 T4 N4 P4 Q4 hpost b9 b10 CP CR h0 h1 h2 o8 B8 hR KZ HS hz4
  generalize w10.heap.size = z5 at *
  have CJ : ∀ W0, Below w11.heap.size w11 W0 → Calls Tryz.prog 22 #[u2, .slice (some ⟨W0.heap.size, 0, none⟩) 2 2] (W0.alloc (.cells #[.string ⟨#[97]⟩, .int .i64 1, .string ⟨#[]⟩, .slice none 0 0, .string ⟨#[98]⟩, .int .i64 1, .string ⟨#[]⟩, .slice none 0 0] 48)) fun r w' => r = .returned (.bool true) ∧ Below w11.heap.size w11 w' := fun W0 hb => by
   have hbl := hb.alloc hb.size (.cells #[.string ⟨#[97]⟩, .int .i64 1, .string ⟨#[]⟩, .slice none 0 0, .string ⟨#[98]⟩, .int .i64 1, .string ⟨#[]⟩, .slice none 0 0] 48)
   have ol := World.ownsRow_lit (base := 0) (e := 48) (size := 4) W0 #[.string ⟨#[97]⟩, .int .i64 1, .string ⟨#[]⟩, .slice none 0 0, .string ⟨#[98]⟩, .int .i64 1, .string ⟨#[]⟩, .slice none 0 0] 2 (by omega) (by decide) rfl
   refine Calls.mono (sameBounds_true _ _ bsA bsA _ _ (Nat.le_refl _) (bd_at (HK.out _ hbl).2.2.1) (bd_at ol) rfl) ?_
   rintro e w' ⟨rfl, hb'⟩
   exact ⟨rfl, hbl.trans (hb'.mono hbl.size)⟩
  go_upto_region 6 with (first
   | (go_at_call 19; (with_reducible refine Calls.mono (CI w11) ?_); rintro e' w12 ⟨rfl, b12⟩)
   | (go_at_call 19; (with_reducible refine Calls.mono (CI w12) ?_); rintro e' w13 ⟨rfl, b13⟩; have b13' := b12.trans (b13.mono b12.size))
   | (go_at_call 22; (with_reducible refine Calls.mono (CJ w13 b13') ?_); rintro e' w14 ⟨rfl, b14⟩))
  obtain ⟨⟨hz1, hz2⟩, ⟨T1, T2⟩, _, _⟩ := HK.out _ b14
  obtain ⟨x0, x1, x2⟩ := heap_cells hz1
  obtain ⟨y0, y1, y2⟩ := heap_cells hz2
  have CS := same_any d4 2 _ _ t4 tX w14 w14.heap.size (Nat.le_refl _) T1 T2
  rw [hf4, decide_eq_true rfl] at CS
  clear T1 T2 CJ CI
  go_wp2_with (first
   | (go_at_call 9; (with_reducible refine Calls.mono CS ?_); rintro e' w15 ⟨rfl, b15⟩))
  go_ret
  exact ⟨rfl, (HK.out _ (b14.trans (b15.mono b14.size))).2.2.2⟩
end Go.Proofs.YtikpipenhamdbaaGreat
