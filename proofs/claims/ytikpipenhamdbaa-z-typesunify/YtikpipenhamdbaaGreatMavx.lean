/- The board: the contract of board. The board: the contract of board, its walk. -/
import Derived.Test.YtikpipenhamdbaaGreatMaqx
import Derived.Test.YtikpipenhamdbaaGreatMarx
import Derived.Test.YtikpipenhamdbaaGreatMaux
namespace Go.Proofs.YtikpipenhamdbaaGreat
open Go.RowKit Go.Maps

/-- All names of some pairs. -/
def pnames (ps : List Pr) : List (List UInt8) := ps.flatMap fun p => vnm (flat p.1.1 p.1.2) ++ vnm (flat p.2.1 p.2.2)
theorem pnames_take {ps : List Pr} {j : Nat} (h : j < ps.length) : pnames (ps.take (j + 1)) = (pnames (ps.take j) ++ vnm (flat ps[j].1.1 ps[j].1.2)) ++ vnm (flat ps[j].2.1 ps[j].2.2) := by
 unfold pnames
 rw [List.take_succ_eq_append_getElem h, List.flatMap_append]
 simp
theorem pnames_len {ps : List Pr} (h : ∀ p ∈ ps, (flat p.1.1 p.1.2).length ≤ 500 ∧ (flat p.2.1 p.2.2).length ≤ 500) : (pnames ps).length ≤ 1000 * ps.length := by
 induction ps with
 | nil => simp [pnames]
 | cons p ps ih =>
  have h1 := h p List.mem_cons_self
  have h2 := ih fun q hq => h q (List.mem_cons_of_mem _ hq)
  have h3 := vnm_len (flat p.1.1 p.1.2)
  have h4 := vnm_len (flat p.2.1 p.2.2)
  unfold pnames at h2 ⊢
  rw [List.flatMap_cons, List.length_append, List.length_append, List.length_cons]
  omega
/-- The cells of a variable. -/
def varC (n : List UInt8) : List Value := [.int .i64 2, .string ⟨n.toArray⟩, .slice none 0 0, .int .i64 (-1), .int .i64 0, .int .i64 0]
/-- The board while its variables are laid. -/
structure BQ (w : World) (lo G : Nat) (v nv vv : Value) (N : List (List UInt8)) (m m' : Nat) : Prop where
 box : w.heap[G]? = some (.cells #[v, nv, vv, .int .i64 0] 110 (0, 0))
 own : w.ownsRow lo 128 6 v m ((N.take m).flatMap varC)
 nam : w.ownsRow lo 9 1 nv N.length (N.map encStr)
 var : w.ownsRow lo 3 1 vv m' (intsV (List.range m'))
 loG : lo ≤ G
theorem rows_apart {w : World} {lo e s lo' e' s' : Nat} {v v' : Value} {n n' : Nat} {xs xs' : List Value} (h : w.ownsRow lo e s v n xs) (h' : w.ownsRow lo' e' s' v' n' xs') (he : e ≠ e') {k : Nat} (hk : v'.ownBlock = some k) : v.ownBlock ≠ some k := fun q => by
 obtain ⟨_, _, c, hc⟩ := row_ty h q
 obtain ⟨_, _, c', hc'⟩ := row_ty h' hk
 rw [hc] at hc'
 exact he (cells_ty hc')
theorem row_box {w : World} {lo e s G : Nat} {v : Value} {n : Nat} {xs : List Value} {c : Array Value} {t : TypeId} {fz : Nat × Nat} (h : w.ownsRow lo e s v n xs) (hb : w.heap[G]? = some (.cells c t fz)) (he : e ≠ t) : v.ownBlock ≠ some G := fun q => by
 obtain ⟨_, _, c, hc⟩ := row_ty h q
 rw [hb] at hc
 exact he (cells_ty hc).symm
/-- A row grows and the box tells of it: what else lies there stays. -/
theorem grown_tell {w w5 : World} {G i : Nat} {v u : Value} {o : Obj} {c : Array Value} {t : TypeId} (hb : w.heap[G]? = some (.cells c t (0, 0))) (hv : v.ownBlock ≠ some G) (hg : (w.alloc o).grownBy w5 v.ownBlock) :
  w5.heap[G]? = some (.cells c t (0, 0)) ∧ (w5.setCell ⟨G, i, none⟩ u).heap[G]? = some (.cells (c.setIfInBounds i u) t (0, 0)) ∧ ∀ {lo e s : Nat} {x : Value} {n : Nat} {xs : List Value}, w.ownsRow lo e s x n xs → (∀ k, x.ownBlock = some k → v.ownBlock ≠ some k) → x.ownBlock ≠ some G → (w5.setCell ⟨G, i, none⟩ u).ownsRow lo e s x n xs := by
 have kb : ∀ k, k < w.heap.size → v.ownBlock ≠ some k → w5.heap[k]? = w.heap[k]? := fun k hk hne => by
  rw [hg.block k (by simp; omega) (fun e => hne e.symm)]
  exact Below.heap_alloc _ _ _ hk
 have hG5 := (kb G (lt_of_heap hb) hv).trans hb
 refine ⟨hG5, setCell_block hG5, fun hr h1 h2 => own_keep hr fun k hk => ?_⟩
 rw [Below.heap_setCell _ _ _ _ (show k ≠ G from fun e => h2 (by rw [← e]; exact hk)), kb k (hr.lt k hk).2 (h1 k hk)]
theorem BQ.putP {w w5 : World} {lo G g cap m : Nat} {v nv vv : Value} {N : List (List UInt8)} {o : Obj} (h : BQ w lo G v nv vv N m m) (hm : m < N.length)
  (hown : w5.ownsRow lo 128 6 (.slice (some ⟨g, 0, none⟩) (m + 1) cap) (m + 1) ((N.take m).flatMap varC ++ varC N[m])) (hg : (w.alloc o).grownBy w5 v.ownBlock) :
  w5.heap[G]? = some (.cells #[v, nv, vv, .int .i64 0] 110 (0, 0)) ∧ BQ (w5.setCell ⟨G, 0, none⟩ (.slice (some ⟨g, 0, none⟩) (m + 1) cap)) lo G (.slice (some ⟨g, 0, none⟩) (m + 1) cap) nv vv N (m + 1) m := by
 obtain ⟨g1, g2, g3⟩ := grown_tell (i := 0) (u := .slice (some ⟨g, 0, none⟩) (m + 1) cap) h.box (row_box h.own h.box (by decide)) hg
 refine ⟨g1, g2.trans rfl, ?_, g3 h.nam (fun k hk => rows_apart h.own h.nam (by decide) hk) (row_box h.nam h.box (by decide)), g3 h.var (fun k hk => rows_apart h.own h.var (by decide) hk) (row_box h.var h.box (by decide)), h.loG⟩
 have e : (N.take (m + 1)).flatMap varC = (N.take m).flatMap varC ++ varC N[m] := by
  rw [List.take_succ_eq_append_getElem hm, List.flatMap_append]
  simp
 rw [e]
 refine own_keep hown fun k hk => Below.heap_setCell _ _ _ _ fun q => ?_
 exact row_box hown g1 (by decide) (by rw [hk, q])
theorem BQ.putV {w w5 : World} {lo G g cap m : Nat} {v nv vv : Value} {N : List (List UInt8)} {o : Obj} (h : BQ w lo G v nv vv N (m + 1) m)
  (hown : w5.ownsRow lo 3 1 (.slice (some ⟨g, 0, none⟩) (m + 1) cap) (m + 1) (intsV (List.range m) ++ [.int .i64 (m : Nat)])) (hg : (w.alloc o).grownBy w5 vv.ownBlock) :
  w5.heap[G]? = some (.cells #[v, nv, vv, .int .i64 0] 110 (0, 0)) ∧ BQ (w5.setCell ⟨G, 2, none⟩ (.slice (some ⟨g, 0, none⟩) (m + 1) cap)) lo G v nv (.slice (some ⟨g, 0, none⟩) (m + 1) cap) N (m + 1) (m + 1) := by
 obtain ⟨g1, g2, g3⟩ := grown_tell (i := 2) (u := .slice (some ⟨g, 0, none⟩) (m + 1) cap) h.box (row_box h.var h.box (by decide)) hg
 refine ⟨g1, g2.trans rfl, g3 h.own (fun k hk => rows_apart h.var h.own (by decide) hk) (row_box h.own h.box (by decide)), g3 h.nam (fun k hk => rows_apart h.var h.nam (by decide) hk) (row_box h.nam h.box (by decide)), ?_, h.loG⟩
 have e : intsV (List.range (m + 1)) = intsV (List.range m) ++ [.int .i64 (m : Nat)] := by
  unfold intsV
  rw [List.range_succ, List.map_append]
  rfl
 rw [e]
 refine own_keep hown fun k hk => Below.heap_setCell _ _ _ _ fun q => ?_
 exact row_box hown g1 (by decide) (by rw [hk, q])
/-- The places of the variables. -/
def varsX (N : List (List UInt8)) : List Px := N.map fun n => { kd := 2, nm := n, ar := [], lk := none, mrk := 0, sz := 0 }
theorem BQ.done {w : World} {lo G : Nat} {v nv vv : Value} {N : List (List UInt8)} (h : BQ w lo G v nv vv N N.length N.length) (hl : N.length ≤ 200000000) : BX w lo G (varsX N) N 0 := by
 refine ⟨v, nv, vv, N.map fun n => { kd := 2, nm := n, av := .slice none 0 0, ar := [], lk := none, mrk := 0, sz := 0 }, ?_, ⟨h.box, ?_, h.nam, h.var, fun p hp => ?_, h.loG, by simpa using hl⟩⟩
 ·unfold varsX
  rw [List.map_map]
  rfl
 ·have := h.own
  rw [List.take_length] at this
  rw [List.length_map, List.flatMap_map]
  exact this
 ·obtain ⟨n, _, rfl⟩ := List.mem_map.1 hp
  exact World.ownsRow_nil _ _ _ _
theorem varsX_at (N : List (List UInt8)) : (varsX N).length = N.length ∧ (∀ i (h : i < N.length), lbP (varsX N) i = (2, N[i])) ∧ (∀ i, arP (varsX N) i = []) ∧ (∀ i, loP (varsX N) i = none) ∧ (∀ i, mrP (varsX N) i = 0) ∧ ∀ i, szQ (varsX N) i = 0 := by
 have key : ∀ i, (varsX N).getD i pz = match N[i]? with | some n => { kd := 2, nm := n, ar := [], lk := none, mrk := 0, sz := 0 } | none => pz := fun i => by
  unfold varsX
  rw [List.getD_eq_getElem?_getD, List.getElem?_map]
  cases N[i]? <;> rfl
 refine ⟨by simp [varsX], fun i h => ?_, fun i => ?_, fun i => ?_, fun i => ?_, fun i => ?_⟩
 ·unfold lbP
  rw [key, List.getElem?_eq_getElem h]
 ·unfold arP
  rw [key]
  cases N[i]? <;> rfl
 ·unfold loP
  rw [key]
  cases N[i]? <;> rfl
 ·unfold mrP
  rw [key]
  cases N[i]? <;> rfl
 ·unfold szQ
  rw [key]
  cases N[i]? <;> rfl
/-- The board of variables alone: each stands for itself. -/
theorem Bn.made {N : List (List UInt8)} (hs : N.Pairwise (fun a b => a < b)) : Bn (varsX N) N 0 (fun i => [(2, (lbP (varsX N) i).2, 0)]) (fun i => i) (fun _ => 0) (fun i => [(2, (lbP (varsX N) i).2, 0)]) [] := by
 obtain ⟨e1, e2, e3, e4, e5, e6⟩ := varsX_at N
 have htg : ∀ i, tgP (varsX N) i = i := fun i => by unfold tgP; rw [e4]; rfl
 refine ⟨⟨⟨⟨⟨fun i _ a ha => ?_, fun i hi => by rw [htg]; exact hi, fun i hi _ => ⟨rfl, ?_⟩, fun i _ q => absurd (htg i) q, fun i _ _ => e3 i, fun i j hi hj _ _ q => ?_⟩, id, fun _ _ h => h, fun k _ => (ren_id _).symm⟩, fun i => by rw [e4]; exact fun q => (by cases q), fun i => by rw [e3]; simp⟩, fun k => by rw [e5]; exact Nat.le_refl _, ?_⟩, by rw [e1]; exact Nat.le_refl _, fun i hi _ => by rw [e1] at hi; exact hi, e2, fun i hi => ?_, e6⟩
 ·rw [e3] at ha
  simp at ha
 ·rw [e1] at hi
  rw [e3, e2 i hi]
  rfl
 ·rw [e1] at hi hj
  rw [e2 i hi, e2 j hj] at q
  have q : N[i] = N[j] := q
  rcases Nat.lt_trichotomy i j with p | p | p
  ·have := List.pairwise_iff_getElem.1 hs i j hi hj p
   rw [q] at this
   exact absurd this (List.lt_irrefl _)
  ·exact p
  ·have := List.pairwise_iff_getElem.1 hs j i hj hi p
   rw [q] at this
   exact absurd this (List.lt_irrefl _)
 ·have : ∀ n, cv (lbP (varsX N)) (fun i => i) n ≤ n := fun n => by
   induction n with
   | zero => exact Nat.le_refl _
   | succ n ih =>
    show cv _ _ n + _ ≤ _
    split <;> omega
  have := this (varsX N).length
  omega
 ·show [((2, (lbP (varsX N) i).2, 0) : Nd)] = _
  rw [e2 i hi]
  rfl
end Go.Proofs.YtikpipenhamdbaaGreat

namespace Go.Proofs.YtikpipenhamdbaaGreat
open Go.RowKit Go.Maps

/-- What board answers. -/
def BoardP (ps : List Pr) (w : World) (e : Ending) (w' : World) : Prop :=
 ∃ (G : Nat) (N : List (List UInt8)), e = .returned (.pointer (some ⟨G, 0, none⟩)) ∧ Below w.heap.size w w' ∧ Srt (pnames ps) N ∧ N.length ≤ 1000 * ps.length ∧ BX w' w.heap.size G (varsX N) N 0
/-- While the variables are laid. -/
structure BqW (w wr : World) (G : Nat) (N : List (List UInt8)) (j : Nat) : Prop where
 bel : Below w.heap.size w wr
 ex : ∃ v nv vv, BQ wr w.heap.size G v nv vv N j j
set_option maxHeartbeats 16000000 in
set_option maxRecDepth 10000 in
theorem board_any (ps : List Pr) (v : Value) (w : World) (B : Nat) (hB : B ≤ w.heap.size) (hv : PrAt w B v ps) (hl : ps.length ≤ 100000) (hok : ∀ p ∈ ps, (formB p.1.1 p.1.2 = true ∧ (flat p.1.1 p.1.2).length ≤ 500) ∧ formB p.2.1 p.2.2 = true ∧ (flat p.2.1 p.2.2).length ≤ 500) :
  Calls Tryz.prog 55 #[v] w (BoardP ps w) := by
 have hpl := pnames_len fun p hp => ⟨(hok p hp).1.2, (hok p hp).2.2⟩
 obtain ⟨ad, cap, rfl, hpl2, hcl⟩ := hv
 have HCL : Hid (ps ≠ [] → ∃ g o, ad = some ⟨g, o, none⟩ ∧ ps.length ≤ cap ∧ g < B ∧
  ∀ j (h : j < ps.length), ∃ k n ad1 l1 c1 k' n' ad2 l2 c2, (∀ w', Below B w w' → w'.cell? ⟨g, o + j * 6, none⟩ = some (.int .i64 k) ∧ w'.cell? ⟨g, o + j * 6 + 1, none⟩ = some (.string n) ∧ w'.cell? ⟨g, o + j * 6 + 2, none⟩ = some (.slice ad1 l1 c1) ∧ w'.cell? ⟨g, o + j * 6 + 3, none⟩ = some (.int .i64 k') ∧ w'.cell? ⟨g, o + j * 6 + 4, none⟩ = some (.string n') ∧ w'.cell? ⟨g, o + j * 6 + 5, none⟩ = some (.slice ad2 l2 c2)) ∧
   TyAt w B ps[j].1.1 (.agg #[.int .i64 k, .string n, .slice ad1 l1 c1]) ps[j].1.2 ∧ TyAt w B ps[j].2.1 (.agg #[.int .i64 k', .string n', .slice ad2 l2 c2]) ps[j].2.2) := hcl
 have HOK : Hid ((∀ p ∈ ps, (formB p.1.1 p.1.2 = true ∧ (flat p.1.1 p.1.2).length ≤ 500) ∧ formB p.2.1 p.2.2 = true ∧ (flat p.2.1 p.2.2).length ≤ 500) ∧ (pnames ps).length ≤ 1000 * ps.length ∧ B ≤ w.heap.size) := ⟨hok, hpl, hB⟩
 have H0 : Hid (Nl w w w.heap.size (.slice none 0 0) (.slice none 0 0) (pnames (ps.take 0))) := Nl.refl (World.ownsRow_nil _ _ _ _)
 clear hok hcl hpl hB
 go_enter Tryz.func55, Tryz.ntmps55
 go_upto_region 2 with fail
 go_wp2
 go_loopw [3, 4] (fun sv iv wr => ∃ (j : Nat) (sa : Option Addr) (sn sc : Nat), j ≤ ps.length ∧ iv = .int .i64 j ∧ sv = .slice sa sn sc ∧ Hid (Nl w wr w.heap.size (.slice none 0 0) (.slice sa sn sc) (pnames (ps.take j)))) (fun _ iv _ => ps.length - (intOf iv).toNat)
 case atStart => exact ⟨0, none, 0, 0, by omega, by go_num, rfl, H0.out⟩
 case round =>
  obtain ⟨j, sa, sn, sc, hj, rfl, rfl, HP⟩ := hrel
  clear H0
  have hN := HP.out
  obtain ⟨hok, hpl, hB⟩ := HOK.out
  have hbel : Below w.heap.size w wr := hN.from (L := []) (Nat.le_refl _) (World.ownsRow_nil _ _ _ _)
  by_cases hlt : j < ps.length
  ·have hlt' : (j : Int) < (ps.length : Int) := by omega
   have j1 : (0 : Int) ≤ (j : Int) := by omega
   obtain ⟨g0, o0, hadr, hcapt, hgB, hcell⟩ := HCL.out (by intro e; rw [e] at hlt; simp at hlt)
   subst hadr
   obtain ⟨k1, n1, a1, l1, c1, k2, n2, a2, l2, c2, hcel, T1, T2⟩ := hcell j hlt
   obtain ⟨p0, p1, p2, -, -, -⟩ := hcel wr (hbel.mono hB)
   obtain ⟨⟨f1, f2⟩, f3, f4⟩ := hok ps[j] (List.getElem_mem hlt)
   have hpj : (pnames (ps.take j)).length ≤ 1000 * j := by
    have := pnames_len (ps := ps.take j) fun p hp => ⟨(hok p (List.mem_of_mem_take hp)).1.2, (hok p (List.mem_of_mem_take hp)).2.2⟩
    rw [List.length_take] at this
    have e : min j ps.length = j := by omega
    rw [e] at this
    exact this
   have hv1 := vnm_len (flat ps[j].1.1 ps[j].1.2)
   have C1 : Calls Tryz.prog 76 #[.slice sa sn sc, .agg #[.int .i64 k1, .string n1, .slice a1 l1 c1]] wr fun r w' => ∃ (ga' : Option Addr) (gn' gc' : Nat), r = .returned (.slice ga' gn' gc') ∧ (w'.cell? ⟨g0, o0 + j * 6 + 3, none⟩ = some (.int .i64 k2) ∧ w'.cell? ⟨g0, o0 + j * 6 + 4, none⟩ = some (.string n2) ∧ w'.cell? ⟨g0, o0 + j * 6 + 5, none⟩ = some (.slice a2 l2 c2)) ∧ Hid (Nl w w' w.heap.size (.slice none 0 0) (.slice ga' gn' gc') (pnames (ps.take j) ++ vnm (flat ps[j].1.1 ps[j].1.2)) ∧ Below w.heap.size w w') := by
    refine Calls.mono (names_any _ _ ps[j].1.2 wr w.heap.size (.slice sa sn sc) _ hbel.size (TyAt.below (hbel.mono hB) hB _ _ _ T1) f1 hN.own (by omega)) ?_
    rintro r w' ⟨v', rfl, hN'⟩
    obtain ⟨ga', gc', rfl⟩ := hN'.form
    have hNN := hN.trans hN'
    have hb2 : Below w.heap.size w w' := hNN.from (L := []) (Nat.le_refl _) (World.ownsRow_nil _ _ _ _)
    obtain ⟨-, -, -, q3, q4, q5⟩ := hcel w' (hb2.mono hB)
    exact ⟨ga', _, gc', rfl, ⟨q3, q4, q5⟩, hNN, hb2⟩
   have C2 : ∀ (w' : World) (ga' : Option Addr) (gn' gc' : Nat), Hid (Nl w w' w.heap.size (.slice none 0 0) (.slice ga' gn' gc') (pnames (ps.take j) ++ vnm (flat ps[j].1.1 ps[j].1.2)) ∧ Below w.heap.size w w') → Calls Tryz.prog 76 #[.slice ga' gn' gc', .agg #[.int .i64 k2, .string n2, .slice a2 l2 c2]] w' fun r w2 => ∃ (ga : Option Addr) (gn gc : Nat), r = .returned (.slice ga gn gc) ∧ Hid (Nl w w2 w.heap.size (.slice none 0 0) (.slice ga gn gc) (pnames (ps.take (j + 1)))) := fun w' ga' gn' gc' H => by
    obtain ⟨h1, h2⟩ := H.out
    refine Calls.mono (names_any _ _ ps[j].2.2 w' w.heap.size (.slice ga' gn' gc') _ h2.size (TyAt.below (h2.mono hB) hB _ _ _ T2) f3 h1.own (by rw [List.length_append]; omega)) ?_
    rintro r w2 ⟨v', rfl, hN'⟩
    obtain ⟨ga, gc, rfl⟩ := hN'.form
    refine ⟨ga, _, gc, rfl, ?_⟩
    rw [pnames_take hlt]
    exact h1.trans hN'
   have HLT : Hid (j < ps.length) := hlt
   clear HP hN hok hpl hbel hcell hcel T1 T2 f1 f2 f3 f4 hpj hv1
   go_wp2_with (first
    | (go_at_call 76; (with_reducible refine Calls.mono C1 ?_); rintro e' w4 ⟨ga4, gn4, gc4, rfl, ⟨q3, q4, q5⟩, H4⟩)
    | (go_at_call 76; (with_reducible refine Calls.mono (C2 _ _ _ _ H4) ?_); rintro e' w5 ⟨ga5, gn5, gc5, rfl, H5⟩))
   go_roundw
   case rel => exact ⟨j + 1, ga5, gn5, gc5, HLT.out, by go_num, rfl, H5.out⟩
   case measure => have := HLT.out; simp [intOf]; omega
  ·have hlt' : ¬ (j : Int) < (ps.length : Int) := by omega
   have HE : Hid (Nl w wr w.heap.size (.slice none 0 0) (.slice sa sn sc) (pnames ps) ∧ Below w.heap.size w wr) := by
    have e : j = ps.length := by omega
    rw [e, List.take_length] at hN
    exact ⟨hN, hbel⟩
   clear HP hN hok hpl hbel
   have hGb : ∃ W0, W0 = wr.alloc (Obj.cells #[.slice none 0 0, .slice none 0 0, .slice none 0 0, .int .i64 0] 110) := ⟨_, rfl⟩
   obtain ⟨W0, hW0⟩ := hGb
   have hb0 : Below wr.heap.size wr W0 := by rw [hW0]; exact (Below.refl _ _).alloc (Nat.le_refl _) _
   have hbx0 : W0.heap[wr.heap.size]? = some (.cells #[.slice none 0 0, .slice none 0 0, .slice none 0 0, .int .i64 0] 110 (0, 0)) := by rw [hW0]; exact heap_alloc_new wr _
   have CS : Calls Tryz.prog 77 #[.slice sa sn sc] W0 fun e w' => ∃ (na : Option Addr) (nn nc : Nat), e = .returned (.slice na nn nc) ∧ nn ≤ 100000000 ∧ w'.cell? ⟨wr.heap.size, 1, none⟩ = some (.slice none 0 0) ∧ w'.frozen? ⟨wr.heap.size, 1, none⟩ = false ∧ Hid (∃ N : List (List UInt8), nn = N.length ∧ Srt (pnames ps) N ∧ N.length ≤ 1000 * ps.length ∧ BqW w (w'.setCell ⟨wr.heap.size, 1, none⟩ (.slice na nn nc)) wr.heap.size N 0) := by
    obtain ⟨hN, hbel⟩ := HE.out
    have hpl := HOK.out.2.1
    have hs0 := own_strAt hN.own
    have own0 : W0.ownsRow w.heap.size 9 1 (.slice sa sn sc) (pnames ps).length ((pnames ps).map encStr) := own_keep hN.own fun k hk => hb0.block k (hN.own.lt k hk).2
    refine Calls.mono (sorted_any _ (pnames ps) _ W0 wr.heap.size (Nat.le_refl _) hb0.size (hs0.below hb0 (Nat.le_refl _)) (by omega)) ?_
    rintro e w' ⟨v', N, rfl, hb1, hS, hNl, hcase⟩
    have hown : w'.ownsRow w.heap.size 9 1 v' N.length (N.map encStr) := by
     rcases hcase with ⟨_, rfl, rfl⟩ | ⟨_, ho⟩
     ·exact own_keep own0 fun k hk => hb1.block k (own0.lt k hk).2
     ·exact ho.mono (Nat.le_trans hbel.size hb0.size)
    have hbx1 : w'.heap[wr.heap.size]? = some (.cells #[.slice none 0 0, .slice none 0 0, .slice none 0 0, .int .i64 0] 110 (0, 0)) := (hb1.block _ (lt_of_heap hbx0)).trans hbx0
    obtain ⟨na, nc, rfl⟩ : ∃ na nc, v' = .slice na N.length nc := by
     rcases hown.2 with ⟨e1, e2⟩ | ⟨g, cap, _, e1, _⟩
     ·exact ⟨none, 0, by rw [e1, e2]⟩
     ·exact ⟨_, _, e1⟩
    have hbb : Below w.heap.size w w' := (hbel.trans (hb0.mono hbel.size)).trans (hb1.mono (Nat.le_trans hbel.size hb0.size))
    refine ⟨na, _, nc, rfl, by omega, (four_cells hbx1).2.1, heap_frozen hbx1, N, rfl, hS, by omega, ⟨hbb.os, hbb.tape, hbb.output, by simpa [World.setCell] using hbb.size, fun k hk => ?_⟩, .slice none 0 0, .slice na N.length nc, .slice none 0 0, (setCell_block hbx1).trans rfl, World.ownsRow_nil _ _ _ _, own_keep hown fun k hk => Below.heap_setCell _ _ _ _ fun q => ?_, World.ownsRow_nil _ _ _ _, hbel.size⟩
    ·rw [Below.heap_setCell _ _ _ _ (show k ≠ wr.heap.size by have := hbel.size; omega)]
     exact hbb.block k hk
    ·exact row_box hown hbx1 (by decide) (by rw [hk, q])
   clear hb0 hbx0 HE
   go_upto_region 8 with fail
   rw [← hW0]
   clear hW0
   generalize wr.heap.size = G at *
   go_upto_region 9 with (first | (go_at_call 77; (with_reducible refine Calls.mono CS ?_); rintro e' w6 ⟨na, nn, nc, rfl, hnn, x1, x2, H6⟩))
   obtain ⟨N, hnN, hSrt, hNle, hBq⟩ := H6.out
   have HN : Hid (nn = N.length ∧ Srt (pnames ps) N ∧ N.length ≤ 1000 * ps.length) := ⟨hnN, hSrt, hNle⟩
   have HQ : Hid (BqW w (w6.setCell ⟨G, 1, none⟩ (.slice na nn nc)) G N 0) := hBq
   have hNl : N.length ≤ 100000000 := by omega
   clear hnN hSrt hNle hBq H6 CS
   go_wp2
   go_loopw [6] (fun iv wq => ∃ j : Nat, j ≤ N.length ∧ iv = .int .i64 j ∧ Hid (BqW w wq G N j)) (fun iv _ => N.length - (intOf iv).toNat)
   case atStart => exact ⟨0, by omega, by go_num, HQ.out⟩
   case round =>
    obtain ⟨j, hj, rfl, HP⟩ := hrel
    clear HQ x1 x2
    obtain ⟨hbel, v, nv, vv, hQ⟩ := HP.out
    obtain ⟨va, vc, rfl⟩ : ∃ va vc, v = .slice va j vc := by
     rcases hQ.own.2 with ⟨e1, e2⟩ | ⟨g, cap, _, e1, _⟩
     ·exact ⟨none, 0, by rw [e1, e2]⟩
     ·exact ⟨_, _, e1⟩
    obtain ⟨wa, wc, rfl⟩ : ∃ wa wc, vv = .slice wa j wc := by
     rcases hQ.var.2 with ⟨e1, e2⟩ | ⟨g, cap, _, e1, _⟩
     ·exact ⟨none, 0, by rw [e1, e2]⟩
     ·exact ⟨_, _, e1⟩
    obtain ⟨ma, mc, rfl⟩ : ∃ ma mc, nv = .slice ma N.length mc := by
     rcases hQ.nam.2 with ⟨e1, e2⟩ | ⟨g, cap, _, e1, _⟩
     ·exact ⟨none, 0, by rw [e1, e2]⟩
     ·exact ⟨_, _, e1⟩
    obtain ⟨d0, d1, d2, d3⟩ := four_cells hQ.box
    by_cases hlt : j < N.length
    ·have hlt' : (j : Int) < (N.length : Int) := by omega
     have j1 : (0 : Int) ≤ (j : Int) := by omega
     obtain ⟨gn, hgn, hmc, cnj⟩ : ∃ gn, ma = some ⟨gn, 0, none⟩ ∧ N.length ≤ mc ∧ wr.cell? ⟨gn, j, none⟩ = some (.string ⟨N[j].toArray⟩) := by
      rcases id hQ.nam.2 with ⟨h0, h1⟩ | ⟨g, cap, cur, hv, hg, hh, hrest⟩
      ·omega
      ·simp only [Value.slice.injEq] at hv
       obtain ⟨rfl, _, rfl⟩ := hv
       refine ⟨g, rfl, hrest.1, ?_⟩
       have := hQ.nam.cellAt j (by omega)
       rw [List.getElem?_map, List.getElem?_eq_getElem hlt] at this
       exact this
     subst hgn
     obtain ⟨k0, ki, kz0, kz1, kz2⟩ := info_parts Tryz.info128
     obtain ⟨i0, hi, hz0, hz1, hz2⟩ := info_parts Tryz.info3
     have FIN : Hid (∀ g' cap' w5, w5.ownsRow w.heap.size 128 6 (.slice (some ⟨g', 0, none⟩) (j + 1) cap') (j + 1) ((N.take j).flatMap varC ++ [.int .i64 2, .string ⟨N[j].toArray⟩, .slice none 0 0, .int .i64 (-1), .int .i64 0, .int .i64 0]) → ((wr.alloc (Obj.cells #[.int .i64 2, .string ⟨N[j].toArray⟩, .slice none 0 0, .int .i64 (-1), .int .i64 0, .int .i64 0] 128)).drew).grownBy w5 (Value.slice va j vc).ownBlock → w5.heap[G]? = some (.cells #[.slice va j vc, .slice (some ⟨gn, 0, none⟩) N.length mc, .slice wa j wc, .int .i64 0] 110 (0, 0)) ∧ ∃ U, U = w5.setCell ⟨G, 0, none⟩ (.slice (some ⟨g', 0, none⟩) (j + 1) cap') ∧ (U.cell? ⟨G, 2, none⟩ = some (.slice wa j wc) ∧ U.frozen? ⟨G, 2, none⟩ = false ∧ U.ownsRow w.heap.size 3 1 (.slice wa j wc) j (intsV (List.range j)) ∧ w.heap.size ≤ U.heap.size) ∧ Hid (Below w.heap.size w U ∧ BQ U w.heap.size G (.slice (some ⟨g', 0, none⟩) (j + 1) cap') (.slice (some ⟨gn, 0, none⟩) N.length mc) (.slice wa j wc) N (j + 1) j)) := fun g' cap' w5 ho hg => by
      have hg2 : (wr.alloc (Obj.cells #[.int .i64 2, .string ⟨N[j].toArray⟩, .slice none 0 0, .int .i64 (-1), .int .i64 0, .int .i64 0] 128)).grownBy w5 (Value.slice va j vc).ownBlock := ⟨hg.os, hg.tape, hg.output, hg.size, hg.block⟩
      obtain ⟨q1, q2⟩ := hQ.putP hlt ho hg2
      have hbw5 : Below w.heap.size w w5 := Below.of_grown2 hbel.size hbel hQ.own hg2
      have hbU : Below w.heap.size w (w5.setCell ⟨G, 0, none⟩ (.slice (some ⟨g', 0, none⟩) (j + 1) cap')) := ⟨hbw5.os, hbw5.tape, hbw5.output, by simpa [World.setCell] using hbw5.size, fun k hk => by
       rw [Below.heap_setCell _ _ _ _ (show k ≠ G by have := hQ.loG; omega)]
       exact hbw5.block k hk⟩
      exact ⟨q1, _, rfl, ⟨(four_cells q2.box).2.2.1, heap_frozen q2.box, q2.var, hbU.size⟩, hbU, q2⟩
     have hown3 := hQ.own
     have HNX : Hid (∀ (U : World) (g1 c1 g2 c2 : Nat) (W3 : World) (o : Obj), Hid (Below w.heap.size w U ∧ BQ U w.heap.size G (.slice (some ⟨g1, 0, none⟩) (j + 1) c1) (.slice (some ⟨gn, 0, none⟩) N.length mc) (.slice wa j wc) N (j + 1) j) → W3.ownsRow w.heap.size 3 1 (.slice (some ⟨g2, 0, none⟩) (j + 1) c2) (j + 1) (intsV (List.range j) ++ [.int .i64 (j : Nat)]) → (U.alloc o).grownBy W3 (Value.slice wa j wc).ownBlock → (W3.cell? ⟨G, 2, none⟩ = some (.slice wa j wc) ∧ W3.frozen? ⟨G, 2, none⟩ = false) ∧ BqW w (W3.setCell ⟨G, 2, none⟩ (.slice (some ⟨g2, 0, none⟩) (j + 1) c2)) G N (j + 1)) := fun U g1 c1 g2 c2 W3 o H ho hg => by
      obtain ⟨hbU, hQU⟩ := H.out
      obtain ⟨q1, q2⟩ := hQU.putV ho hg
      have hbw5 : Below w.heap.size w W3 := Below.of_grown2 hbU.size hbU hQU.var hg
      exact ⟨⟨(four_cells q1).2.2.1, heap_frozen q1⟩, ⟨hbw5.os, hbw5.tape, hbw5.output, by simpa [World.setCell] using hbw5.size, fun k hk => by
       rw [Below.heap_setCell _ _ _ _ (show k ≠ G by have := hQU.loG; omega)]
       exact hbw5.block k hk⟩, _, _, _, q2⟩
     have hGw := lt_of_heap hQ.box
     have hbz := hbel.size
     have nG : ¬ G = wr.heap.size := by omega
     have nG' : ¬ wr.heap.size = G := by omega
     have HLT : Hid (j < N.length) := hlt
     have hjn : j ≤ 100000000 := by omega
     clear hQ HP hbel
     generalize N[j] = nj at *
     go_upto_region 12 with fail
     go_region_law ((refine step_append_lies _ (by rfl) _ _ _ (by rfl) w.heap.size 128 k0 _ 6 72 Tryz.underlying108 ki kz0 kz1 kz2 rfl (by omega) (.slice va j vc) j ((N.take j).flatMap varC) (by rfl) ((hown3.alloc _).drew) ⟨wr.heap.size, 0, none⟩ 1 1 [.int .i64 2, .string ⟨nj.toArray⟩, .slice none 0 0, .int .i64 (-1), .int .i64 0, .int .i64 0] (by rfl) (by rfl) (World.news_of_block (cs := #[.int .i64 2, .string ⟨nj.toArray⟩, .slice none 0 0, .int .i64 (-1), .int .i64 0, .int .i64 0]) (t := 128) (fr := (0, 0)) (heap_alloc_new wr _)) (by simp [Value.oneCell']) (by omega) (by unfold maxLen; omega) (by omega) (by simp; omega) (wr.heap.size + 1) (by simp) ?_; intro g' cap' w5 hown5 hgrow hat hlt5; obtain ⟨hG5, U, hU, ⟨y2, y3, y4, y5⟩, HU⟩ := FIN.out g' cap' w5 hown5 hgrow; obtain ⟨e0, e1, e2, e3⟩ := four_cells hG5; have fG := heap_frozen (o := 0) hG5))
     all_goals
      rw [← hU]
      clear hU hG5 e0 e1 e2 e3 fG hgrow hown5 hlt
      go_wp2_with (at_builtin; refine wpList_append_lies _ rfl _ _ 72 rfl w.heap.size 3 i0 _ 1 8 Tryz.underlying72 hi hz0 hz1 hz2 rfl (by decide) _ _ _ rfl (y4.alloc _) ⟨U.heap.size, 0, none⟩ 1 1 [.int .i64 (j : Nat)] rfl rfl (World.news_of_block (heap_alloc_new U _)) (by intro u hu; simp at hu; subst hu; rfl) (by omega) (by unfold maxLen; omega) (by omega) (by simp; omega) (U.heap.size + 1) (by simp) ?_; intro g2 cap2 W3 hown6 hgr6 hat6 hlt6; obtain ⟨⟨z1, z2⟩, HX⟩ := HNX.out U _ _ g2 cap2 W3 _ HU hown6 hgr6)
      go_roundw
      case rel => exact ⟨j + 1, HLT.out, by go_num, HX⟩
      case measure => have := HLT.out; simp [intOf]; omega
    ·have hlt' : ¬ (j : Int) < (N.length : Int) := by omega
     have HF : Hid (BoardP ps w (.returned (.pointer (some ⟨G, 0, none⟩))) wr) := by
      obtain ⟨h1, h2, h3⟩ := HN.out
      have e : j = N.length := by omega
      rw [e] at hQ
      exact ⟨G, N, rfl, hbel, h2, h3, hQ.done (by omega)⟩
     clear hQ HP hbel
     go_wp2
     go_ret
     exact HF.out
end Go.Proofs.YtikpipenhamdbaaGreat
