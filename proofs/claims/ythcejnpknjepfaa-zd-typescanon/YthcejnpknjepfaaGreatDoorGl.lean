/- The contract of Unify, at awake's pair. -/
import Derived.Test.YthcejnpknjepfaaGreatDoorGj
namespace Go.Proofs.YthcejnpknjepfaaGreatDoor
open Go.RowKit Go.Maps

def dA : DataW Unit := (((.map [] : DataW Unit).put (.string [97]) (.lit (.int .i64 (0 : Nat)))).put (.string [98]) (.lit (.int .i64 (1 : Nat))))
def tX : Tn 2 := ((3, []), [((2, [97]), []), ((2, [98]), [])])
def tY : Tn 2 := ((3, []), [((1, []), []), ((2, [97]), [])])
theorem wrong_xy : wrongs [⟨2, tX⟩, ⟨2, tY⟩] = 0 := by decide
theorem dA_keys : strKeys dA = [[97], [98]] := by rfl
theorem dA_97 : dA.atKey (.string [97]) (.lit (.int .i64 0)) = .lit (.int .i64 0) := by rfl
theorem dA_98 : dA.atKey (.string [98]) (.lit (.int .i64 0)) = .lit (.int .i64 1) := by rfl
theorem dA_size : Maps.size dA ≤ 1000 := by decide
theorem dA_some (kl : Lit) (c : Int) (h : ∀ zd, dA.atKey kl zd = .lit (.int .i64 c)) : c = 0 ∨ c = 1 := by
  have h1 := h (.lit (.int .i64 0))
  unfold dA at h1
  by_cases h98 : kl = .string [98]
  · rw [h98] at h1
    have e : (DataW.lit (.int .i64 1) : DataW Unit) = .lit (.int .i64 c) := h1
    cases e
    exact .inr rfl
  · rw [Maps.atKey_put_other h98] at h1
    by_cases h97 : kl = .string [97]
    · rw [h97] at h1
      have e : (DataW.lit (.int .i64 0) : DataW Unit) = .lit (.int .i64 c) := h1
      cases e
      exact .inl rfl
    · rw [Maps.atKey_put_other h97] at h1
      have e : (DataW.lit (.int .i64 0) : DataW Unit) = .lit (.int .i64 c) := h1
      cases e
      exact .inl rfl
theorem tree_at {w : World} {B q : Nat} (hq : q < B) {k1 k2 : Int} {n1 n2 : List UInt8} {m1 m2 : ByteArray} (e1 : m1 = ⟨n1.toArray⟩) (e2 : m2 = ⟨n2.toArray⟩) (h1 : n1.length < 140737488355328) (h2 : n2.length < 140737488355328) (h : w.heap[q]? = some (.cells #[.int .i64 k1, .string m1, .slice none 0 0, .int .i64 k2, .string m2, .slice none 0 0] 24 (0, 0))) :
    TyAt w B 2 (.agg #[.int .i64 3, .string ⟨#[]⟩, .slice (some ⟨q, 0, none⟩) 2 2]) ((3, []), [((k1, n1), []), ((k2, n2), [])]) := by
  obtain ⟨⟨c0, c1, c2, c3, c4, c5⟩, _⟩ := six_cells h
  subst e1 e2
  refine ⟨_, rfl, show 0 < 140737488355328 by omega, show 2 < 140737488355328 by omega, .inr ⟨q, 0, 2, rfl, List.cons_ne_nil _ _, Nat.le_refl 2, hq, fun j hj => ?_⟩⟩
  match j, hj with
  | 0, _ => exact ⟨k1, _, _, c0, c1, c2, ⟨_, rfl, h1, show 0 < 140737488355328 by omega, .inl ⟨rfl, none, 0, rfl⟩⟩⟩
  | 1, _ => exact ⟨k2, _, _, c3, c4, c5, ⟨_, rfl, h2, show 0 < 140737488355328 by omega, .inl ⟨rfl, none, 0, rfl⟩⟩⟩
/-- The graph, as it is made. -/
theorem GX.made (w : World) : GX ((w.alloc (.map #[] 0)).alloc (.cells #[.slice none 0 0, .map (some w.heap.size), .int .i64 0] 80)) w.heap.size (w.heap.size + 1) w.heap.size (fun _ => False) [] (.map []) 0 := by
  refine ⟨.slice none 0 0, [], rfl, ⟨?_, ⟨rfl, .inl ⟨rfl, rfl⟩⟩, ?_, by decide, by simp, by omega, by omega, by simp⟩, by simp⟩
  · have := heap_alloc_new (w.alloc (.map #[] 0)) (.cells #[.slice none 0 0, .map (some w.heap.size), .int .i64 0] 80)
    simpa using this
  · have := (World.ownsMap_made (H := Unit) w Tryz.prog 9 (plainElem Tryz.prog 3)).kept (row := none) (World.grownBy_alloc _ (.cells #[.slice none 0 0, .map (some w.heap.size), .int .i64 0] 80) none) (by simp)
    exact this
theorem own_base {w : World} {B B' e size n : Nat} {v : Value} {xs : List Value} (h : w.ownsRow B e size v n xs) (hB : B' ≤ B) : w.ownsRow B' e size v n xs := by
  refine ⟨h.1, ?_⟩
  rcases h.2 with h0 | ⟨g, cap, cur, h1, h2, h3⟩
  · exact .inl h0
  · exact .inr ⟨g, cap, cur, h1, by omega, h3⟩
def gX : List Gx := [⟨2, [97], [], 0, true, 0⟩, ⟨2, [98], [], 1, true, 0⟩, ⟨3, [], [0, 1], 2, false, 0⟩]
theorem lay_x {w : World} {lo G b q : Nat} (h : GX w lo G b (fun _ => False) [] (.map []) 0) (hq : q < lo) (hb : w.heap[q]? = some (.cells #[.int .i64 2, .string ⟨#[97]⟩, .slice none 0 0, .int .i64 2, .string ⟨#[98]⟩, .slice none 0 0] 24 (0, 0))) :
    Calls Tryz.prog 41 #[.pointer (some ⟨G, 0, none⟩), .agg #[.int .i64 3, .string ⟨#[]⟩, .slice (some ⟨q, 0, none⟩) 2 2]] w fun e w' => e = .returned (.int .i64 2) ∧ Gk lo G b w w' ∧ GX w' lo G b (fun _ => False) gX dA 0 := by
  obtain ⟨⟨c0, c1, c2, c3, c4, c5⟩, _⟩ := six_cells hb
  exact lay_fun lo G b 0 2 2 ⟨#[97]⟩ ⟨#[98]⟩ none none 0 0 0 0 q 0 2 [] _ _ (.map []) _ _ 0 1
    (layP_leaf lo G b 0 2 [97] none 0 [] (.map []) (by decide) (.inr rfl) (by decide) rfl (by decide)) (by decide) rfl
    (layP_leaf lo G b 0 2 [98] none 0 _ _ (by decide) (.inr rfl) (by decide) rfl (by decide)) (by decide) rfl rfl (by decide) w h hq c0 c1 c2 c3 c4 c5
theorem lay_y {w : World} {lo G b q : Nat} (h : GX w lo G b (fun _ => False) gX dA 0) (hq : q < lo) (hb : w.heap[q]? = some (.cells #[.int .i64 1, .string ⟨#[]⟩, .slice none 0 0, .int .i64 2, .string ⟨#[97]⟩, .slice none 0 0] 24 (0, 0))) :
    Calls Tryz.prog 41 #[.pointer (some ⟨G, 0, none⟩), .agg #[.int .i64 3, .string ⟨#[]⟩, .slice (some ⟨q, 0, none⟩) 2 2]] w fun e w' => e = .returned (.int .i64 4) ∧ Gk lo G b w w' ∧ GX w' lo G b (fun _ => False) (gA 0 1 2 0) dA 0 := by
  obtain ⟨⟨c0, c1, c2, c3, c4, c5⟩, _⟩ := six_cells hb
  exact lay_fun lo G b 0 1 2 ⟨#[]⟩ ⟨#[97]⟩ none none 0 0 0 0 q 0 2 gX _ _ dA _ _ 3 0
    (layP_leaf lo G b 0 1 [] none 0 gX dA (by decide) (.inl rfl) (by decide) rfl (by decide)) (by decide) rfl
    (layP_old lo G b 0 [97] none 0 0 _ dA (by decide) (by decide) rfl rfl) (by decide) rfl rfl (by decide) w h hq c0 c1 c2 c3 c4 c5
set_option maxHeartbeats 8000000 in
set_option maxRecDepth 10000 in
theorem unify_xy (w : World) (p q r : Nat) (hp : w.heap[p]? = some (.cells #[.int .i64 3, .string ⟨#[]⟩, .slice (some ⟨q, 0, none⟩) 2 2, .int .i64 3, .string ⟨#[]⟩, .slice (some ⟨r, 0, none⟩) 2 2] 48 (0, 0)))
    (hq : w.heap[q]? = some (.cells #[.int .i64 2, .string ⟨#[97]⟩, .slice none 0 0, .int .i64 2, .string ⟨#[98]⟩, .slice none 0 0] 24 (0, 0)))
    (hr : w.heap[r]? = some (.cells #[.int .i64 1, .string ⟨#[]⟩, .slice none 0 0, .int .i64 2, .string ⟨#[97]⟩, .slice none 0 0] 24 (0, 0))) :
    Calls Tryz.prog 21 #[.slice (some ⟨p, 0, none⟩) 1 1] w fun e w' => ∃ v, e = .returned (.tuple #[v, .int .i64 0, .int .i64 0]) ∧ w'.ownsRow w.heap.size 53 4 v 2 (bdI 97 ++ bdI 98) ∧ Below w.heap.size w w' := by
  obtain ⟨⟨c0, c1, c2, c3, c4, c5⟩, _⟩ := six_cells hp
  obtain ⟨W, hW⟩ : ∃ W, W = (w.alloc (.cells #[.int .i64 3, .string ⟨#[]⟩, .slice (some ⟨q, 0, none⟩) 2 2, .int .i64 3, .string ⟨#[]⟩, .slice (some ⟨r, 0, none⟩) 2 2] 48)).alloc (.cells #[.int .i64 3, .string ⟨#[]⟩, .slice (some ⟨q, 0, none⟩) 2 2, .int .i64 3, .string ⟨#[]⟩, .slice (some ⟨r, 0, none⟩) 2 2] 24) := ⟨_, rfl⟩
  have hbW : Below w.heap.size w W := by rw [hW]; exact ((Below.refl _ _).alloc (Nat.le_refl _) _).alloc (by simp) _
  have hsW : W.heap.size = w.heap.size + 2 := by rw [hW]; simp
  have hnW : W.heap[w.heap.size + 1]? = some (.cells #[.int .i64 3, .string ⟨#[]⟩, .slice (some ⟨q, 0, none⟩) 2 2, .int .i64 3, .string ⟨#[]⟩, .slice (some ⟨r, 0, none⟩) 2 2] 24 (0, 0)) := by
    rw [hW]
    have := heap_alloc_new (w.alloc (.cells #[.int .i64 3, .string ⟨#[]⟩, .slice (some ⟨q, 0, none⟩) 2 2, .int .i64 3, .string ⟨#[]⟩, .slice (some ⟨r, 0, none⟩) 2 2] 48)) (.cells #[.int .i64 3, .string ⟨#[]⟩, .slice (some ⟨q, 0, none⟩) 2 2, .int .i64 3, .string ⟨#[]⟩, .slice (some ⟨r, 0, none⟩) 2 2] 24)
    simpa using this
  have CW : Calls Tryz.prog 28 #[.slice (some ⟨w.heap.size + 1, 0, none⟩) 2 2] W fun e w' => e = .returned (.int .i64 0) ∧ Below w.heap.size w w' := by
    have hS : Stk W W.heap.size [(3, ⟨#[]⟩, .slice (some ⟨q, 0, none⟩) 2 2), (3, ⟨#[]⟩, .slice (some ⟨r, 0, none⟩) 2 2)] [⟨2, tX⟩, ⟨2, tY⟩] := by
      refine ⟨rfl, fun j hj hj' => ?_⟩
      match j, hj with
      | 0, _ => exact tree_at (by have := lt_of_heap hq; omega) rfl rfl (by decide) (by decide) ((hbW.block q (lt_of_heap hq)).trans hq)
      | 1, _ => exact tree_at (by have := lt_of_heap hr; omega) rfl rfl (by decide) (by decide) ((hbW.block r (lt_of_heap hr)).trans hr)
    refine Calls.mono (wrong_list [(3, ⟨#[]⟩, .slice (some ⟨q, 0, none⟩) 2 2), (3, ⟨#[]⟩, .slice (some ⟨r, 0, none⟩) 2 2)] [⟨2, tX⟩, ⟨2, tY⟩] (w.heap.size + 1) 2 W W.heap.size (Nat.le_refl _) (by omega) (fun j u hj => ?_) hS ?_ (by show 2 ≤ 1000; omega)) ?_
    · have := World.news_of_block (cs := #[.int .i64 3, .string ⟨#[]⟩, .slice (some ⟨q, 0, none⟩) 2 2, .int .i64 3, .string ⟨#[]⟩, .slice (some ⟨r, 0, none⟩) 2 2]) hnW j u hj
      rw [show (⟨w.heap.size + 1, 0, none⟩ : Addr).add j = ⟨w.heap.size + 1, j, none⟩ by unfold Addr.add; split <;> simp_all] at this
      exact this
    · intro u hu
      have : u = ⟨2, tX⟩ ∨ u = ⟨2, tY⟩ := by simpa using hu
      rcases this with rfl | rfl <;> decide
    · rintro e w' ⟨rfl, hb⟩
      exact ⟨by rw [wrong_xy], hbW.trans (hb.mono (by omega))⟩
  have hmm := @run_makeMap Tryz.prog
  go_enter Tryz.func21, Tryz.ntmps21
  go_upto_region 4 with fail
  refine wp_loop_rounds 2 ?_
  rw [rounds_succ]
  go_upto_region 6 with fail
  have CW' := CW
  rw [hW] at CW'
  clear CW hW
  go_upto_region 9 with (first | (go_at_call 28; (with_reducible refine Calls.mono CW' ?_); rintro e' w2 ⟨rfl, hb2⟩))
  have hp2 := (hb2.block p (lt_of_heap hp)).trans hp
  have hq2 := (hb2.block q (lt_of_heap hq)).trans hq
  have hr2 := (hb2.block r (lt_of_heap hr)).trans hr
  have hlp := lt_of_heap hp2
  have hlq := lt_of_heap hq2
  have hlr := lt_of_heap hr2
  clear CW' hbW hsW hnW c0 c1 c2 c3 c4 c5 hp hq hr
  go_wp2_with fail
  rw [rounds_succ]
  go_upto_region 11 with fail
  have hX := GX.made w2
  have hb3 : Below w2.heap.size w2 ((w2.alloc (.map #[] 0)).alloc (.cells #[.slice none 0 0, .map (some w2.heap.size), .int .i64 0] 80)) := ((Below.refl _ _).alloc (Nat.le_refl _) _).alloc (by simp) _
  have hs3 : ((w2.alloc (.map #[] 0)).alloc (.cells #[.slice none 0 0, .map (some w2.heap.size), .int .i64 0] 80)).heap.size = w2.heap.size + 2 := by simp
  generalize ((w2.alloc (.map #[] 0)).alloc (.cells #[.slice none 0 0, .map (some w2.heap.size), .int .i64 0] 80)) = w3 at *
  have hp3 := (hb3.block p hlp).trans hp2
  have hq3 := (hb3.block q hlq).trans hq2
  have hr3 := (hb3.block r hlr).trans hr2
  have HS3 : Hid (w3.heap.size = w2.heap.size + 2) := hs3
  clear hmm hp2 hq2 hr2 hs3
  obtain ⟨⟨c0, c1, c2, c3, c4, c5⟩, _⟩ := six_cells hp3
  go_upto_region 12 with fail
  refine wp_loop_rounds 2 ?_
  rw [rounds_succ]
  go_upto_region 14 with fail
  obtain ⟨w4, hw4⟩ : ∃ w4, w4 = w3.alloc (.cells #[.int .i64 3, .string ⟨#[]⟩, .slice (some ⟨q, 0, none⟩) 2 2, .int .i64 3, .string ⟨#[]⟩, .slice (some ⟨r, 0, none⟩) 2 2] 48) := ⟨_, rfl⟩
  have hb4 : Below w3.heap.size w3 w4 := by rw [hw4]; exact (Below.refl _ _).alloc (Nat.le_refl _) _
  have hn4 : w4.heap[w3.heap.size]? = some (.cells #[.int .i64 3, .string ⟨#[]⟩, .slice (some ⟨q, 0, none⟩) 2 2, .int .i64 3, .string ⟨#[]⟩, .slice (some ⟨r, 0, none⟩) 2 2] 48 (0, 0)) := by rw [hw4]; exact heap_alloc_new w3 _
  rw [← hw4]
  clear hw4 c0 c1 c2 c3 c4 c5
  have hX4 := (hX.below hb4).sm (w' := w4.drew) ⟨rfl, rfl, rfl, rfl⟩
  have hq4 : w4.drew.heap[q]? = _ := (hb4.block q (lt_of_heap hq3)).trans hq3
  have hr4 : w4.drew.heap[r]? = _ := (hb4.block r (lt_of_heap hr3)).trans hr3
  have hn4' : w4.drew.heap[w3.heap.size]? = _ := hn4
  have k4 : Gk w2.heap.size (w2.heap.size + 1) w2.heap.size w3 w4.drew := Gk.of_below hb4.drew (by have := HS3.out; omega)
  obtain ⟨⟨c0, c1, c2, c3, c4, c5⟩, _⟩ := six_cells hn4
  have KK : Hid (∀ W, Gk w2.heap.size (w2.heap.size + 1) w2.heap.size w4.drew W → W.heap[r]? = some (.cells #[.int .i64 1, .string ⟨#[]⟩, .slice none 0 0, .int .i64 2, .string ⟨#[97]⟩, .slice none 0 0] 24 (0, 0)) ∧ W.heap[w3.heap.size]? = some (.cells #[.int .i64 3, .string ⟨#[]⟩, .slice (some ⟨q, 0, none⟩) 2 2, .int .i64 3, .string ⟨#[]⟩, .slice (some ⟨r, 0, none⟩) 2 2] 48 (0, 0))) := fun W hk => ⟨hk.keep _ _ hr4 (by omega) (by omega) (by intro c fz e; exact absurd (cells_ty (congrArg some e)) (by decide)), hk.keep _ _ hn4' (by have := HS3.out; omega) (by have := HS3.out; omega) (by intro c fz e; exact absurd (cells_ty (congrArg some e)) (by decide))⟩
  have CX := lay_x hX4 hlq hq4
  clear hX hX4 hq4 hr4 hn4' hb4 hq3 hr3 hp3 hn4
  go_cut [11] from 42 to 48 (fun s wx => s = .int .i64 0 ∧ Gk w2.heap.size (w2.heap.size + 1) w2.heap.size w3 wx ∧ GX wx w2.heap.size (w2.heap.size + 1) w2.heap.size (fun _ => False) (gA 3 3 4 2) dA 2)
  case first =>
    go_region_held3 (fun w' => w'.cell? ⟨w3.heap.size, 0, none⟩ = some (.int .i64 3) ∧ w'.cell? ⟨w3.heap.size, 1, none⟩ = some (.string ⟨#[]⟩) ∧ w'.cell? ⟨w3.heap.size, 2, none⟩ = some (.slice (some ⟨q, 0, none⟩) 2 2) ∧ w'.cell? ⟨w3.heap.size, 3, none⟩ = some (.int .i64 3) ∧ w'.cell? ⟨w3.heap.size, 4, none⟩ = some (.string ⟨#[]⟩) ∧ w'.cell? ⟨w3.heap.size, 5, none⟩ = some (.slice (some ⟨r, 0, none⟩) 2 2)) (first | exact ⟨c0, c1, c2, c3, c4, c5⟩ | exact ⟨f0, f1, f2, f3, f4, f5⟩ | exact ⟨e0, e1, e2, e3, e4, e5⟩ | exact ⟨d0, d1, d2, d3, d4, d5⟩ | assumption | go_keep) (first
      | (go_at_call 41; (with_reducible refine Calls.mono CX ?_); rintro e' w5 ⟨rfl, k5, x5⟩; obtain ⟨hr5, hn5⟩ := KK.out _ k5; obtain ⟨⟨d0, d1, d2, d3, d4, d5⟩, _⟩ := six_cells hn5; have CY := lay_y x5 hlr hr5)
      | (go_at_call 41; (with_reducible refine Calls.mono CY ?_); rintro e' w6 ⟨rfl, k6, x6⟩; obtain ⟨hr6, hn6⟩ := KK.out _ (k5.trans k6); obtain ⟨⟨e0, e1, e2, e3, e4, e5⟩, _⟩ := six_cells hn6; have CZ := agree_awake w6 x6)
      | (go_at_call 40; (with_reducible refine Calls.mono CZ ?_); rintro e' w7 ⟨rfl, k7, x7⟩; obtain ⟨hr7, hn7⟩ := KK.out _ ((k5.trans k6).trans k7); obtain ⟨⟨f0, f1, f2, f3, f4, f5⟩, _⟩ := six_cells hn7))
    all_goals
      go_wp2_with fail
      go_meet
      exact ⟨rfl, k4.trans ((k5.trans k6).trans k7), x7⟩
  case rest =>
    obtain ⟨rfl, k7, x7⟩ := hcut
    have CA := fun W => above_no (lo := w2.heap.size) (G := w2.heap.size + 1) (b := w2.heap.size) (D := dA) dA_some W
    have CB := fun W => bounds_ab (lo := w2.heap.size) (G := w2.heap.size + 1) (b := w2.heap.size) (D := dA) dA_keys dA_97 dA_98 dA_size W
    clear CX KK c0 c1 c2 c3 c4 c5
    go_wp2_with fail
    rw [rounds_succ]
    go_wp2_with (first
      | (go_at_call 42; (with_reducible refine Calls.mono (CA _ x7) ?_); rintro e' w8 ⟨rfl, k8, x8⟩)
      | (go_at_call 43; (with_reducible refine Calls.mono (CB _ x8) ?_); rintro e' w9 ⟨v9, rfl, o9, b9⟩))
    refine bodyPost_ret (v := .tuple #[v9, .int .i64 0, .int .i64 0]) (by simp [results, Tryz.results21, go_sem]) rfl ?_
    have hs2 := hb2.size
    have hs3 := hb3.size
    have k78 := k7.trans k8
    have hs8 := k78.size
    refine ⟨v9, rfl, own_base o9 (by omega), ?_⟩
    have hb8 : Below w.heap.size w w8 := hb2.trans ((hb3.mono (by omega)).trans ⟨k78.os, k78.tape, k78.output, k78.size, fun k hk => k78.low k (by omega)⟩)
    exact hb8.trans (b9.mono (by omega))
end Go.Proofs.YthcejnpknjepfaaGreatDoor
