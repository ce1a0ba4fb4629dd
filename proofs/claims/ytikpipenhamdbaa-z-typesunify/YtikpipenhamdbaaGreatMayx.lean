/- The reference's Unify: its contract. The reference's Unify: its walk. unifies: the program's Unify and the reference's answer the same; what comes out is its owner's. -/
import Derived.Test.YtikpipenhamdbaaGreatMavx
import Derived.Test.YtikpipenhamdbaaGreatMaox
import Derived.Test.YtikpipenhamdbaaGreatZq
import Derived.Test.YtikpipenhamdbaaGreatMaxx
import Derived.Test.YtikpipenhamdbaaGreatMadx
import Derived.Test.YtikpipenhamdbaaGreatMaix
namespace Go.Proofs.YtikpipenhamdbaaGreat
open Go.RowKit Go.Maps

/-- So many pairs are laid and agree. -/
def BuS (lo G : Nat) (N : List (List UInt8)) (w3 wr : World) (rows : List (List Nd × List Nd)) (X : Sum (Nat × Int) (List (List UInt8 × List Nd))) (i : Nat) : Prop :=
 ∃ (tn : Nat) (xs : List Px) (dn : Nat → List Nd) (rt rk : Nat → Nat) (dp : Nat → List Nd) (L : List (List UInt8 × List Nd)), BX wr lo G xs N tn ∧ Bn xs N tn dn rt rk dp L ∧ Prs (rows.drop i) L i X ∧ Lok L ∧ xs.length ≤ 100000000 + 1000 * i ∧ Bk lo G w3 wr
/-- The first of two is laid besides. -/
def BuA (lo G : Nat) (N : List (List UInt8)) (w3 wr : World) (rows : List (List Nd × List Nd)) (X : Sum (Nat × Int) (List (List UInt8 × List Nd))) (i : Nat) (A : List Nd) (p : Nat) : Prop :=
 ∃ (tn : Nat) (xs : List Px) (dn : Nat → List Nd) (rt rk : Nat → Nat) (dp : Nat → List Nd) (L : List (List UInt8 × List Nd)), BX wr lo G xs N tn ∧ Bn xs N tn dn rt rk dp L ∧ Prs (rows.drop i) L i X ∧ Lok L ∧ xs.length ≤ 100000000 + 1000 * i + 500 ∧ Bk lo G w3 wr ∧ p < xs.length ∧ dp p = subL L A
/-- Both are. -/
def BuB (lo G : Nat) (N : List (List UInt8)) (w3 wr : World) (rows : List (List Nd × List Nd)) (X : Sum (Nat × Int) (List (List UInt8 × List Nd))) (i : Nat) (A B : List Nd) (p q : Nat) : Prop :=
 ∃ (tn : Nat) (xs : List Px) (dn : Nat → List Nd) (rt rk : Nat → Nat) (dp : Nat → List Nd) (L : List (List UInt8 × List Nd)), BX wr lo G xs N tn ∧ Bn xs N tn dn rt rk dp L ∧ Prs (rows.drop i) L i X ∧ Lok L ∧ xs.length ≤ 100000000 + 1000 * i + 1000 ∧ Bk lo G w3 wr ∧ p < xs.length ∧ dp p = subL L A ∧ q < xs.length ∧ dp q = subL L B
theorem blay_first {lo G : Nat} {N : List (List UInt8)} (hs : N.Pairwise (fun a b => a < b)) {w3 W : World} {rows : List (List Nd × List Nd)} {X : Sum (Nat × Int) (List (List UInt8 × List Nd))} {i d : Nat} {x : Value} {t : Tn d} (h : BuS lo G N w3 W rows X i) (hx : TyAt w3 lo d x t) (hf : formB d t = true) (h5 : (flat d t).length ≤ 500) (hi : i < 100000) (hN : ∀ n, ((2, n, 0) : Nd) ∈ flat d t → n ∈ N) :
  Calls Tryz.prog 56 #[.pointer (some ⟨G, 0, none⟩), x] W fun e w' => ∃ p : Nat, e = .returned (.int .i64 p) ∧ Below lo w3 w' ∧ BuA lo G N w3 w' rows X i (flat d t) p := by
 obtain ⟨tn, xs, dn, rt, rk, dp, L, hX, hM, hP, hL, hn, hk⟩ := h
 refine Calls.mono (blay_any hs w3 d x t hx hf W (fun _ => False) tn xs dn rt rk dp hk.below (fun _ q => q.elim) hX.r hM (by omega) hN) ?_
 rintro e w' ⟨p, rfl, hk2, ys, dn', rt', rk', dp', hX2, hM2, hp, hdn, hl1, hl2, ho⟩
 exact ⟨p, rfl, (hk.trans hk2).below, tn, ys, dn', rt', rk', dp', L, hX2.bx, hM2, hP, hL, by omega, hk.trans hk2, hp, hdn⟩
theorem blay_second {lo G : Nat} {N : List (List UInt8)} (hs : N.Pairwise (fun a b => a < b)) {w3 W : World} {rows : List (List Nd × List Nd)} {X : Sum (Nat × Int) (List (List UInt8 × List Nd))} {i d p : Nat} {A : List Nd} {x : Value} {t : Tn d} (h : BuA lo G N w3 W rows X i A p) (hx : TyAt w3 lo d x t) (hf : formB d t = true) (h5 : (flat d t).length ≤ 500) (hi : i < 100000) (hN : ∀ n, ((2, n, 0) : Nd) ∈ flat d t → n ∈ N) :
  Calls Tryz.prog 56 #[.pointer (some ⟨G, 0, none⟩), x] W fun e w' => ∃ q : Nat, e = .returned (.int .i64 q) ∧ BuB lo G N w3 w' rows X i A (flat d t) p q := by
 obtain ⟨tn, xs, dn, rt, rk, dp, L, hX, hM, hP, hL, hn, hk, hp, hdp⟩ := h
 refine Calls.mono (blay_any hs w3 d x t hx hf W (fun _ => False) tn xs dn rt rk dp hk.below (fun _ q => q.elim) hX.r hM (by omega) hN) ?_
 rintro e w' ⟨q, rfl, hk2, ys, dn', rt', rk', dp', hX2, hM2, hq, hdn, hl1, hl2, ho⟩
 exact ⟨q, rfl, tn, ys, dn', rt', rk', dp', L, hX2.bx, hM2, hP, hL, by omega, hk.trans hk2, by omega, by rw [ho p hp]; exact hdp, hq, hdn⟩
theorem bagree_two {lo G : Nat} {N : List (List UInt8)} {w3 W : World} {rows : List (List Nd × List Nd)} {X : Sum (Nat × Int) (List (List UInt8 × List Nd))} {i p q : Nat} {A B : List Nd} (h : BuB lo G N w3 W rows X i A B p q) (hi : i < rows.length) (hr : rows[i] = (A, B)) (hok : pok (A, B)) :
  Calls Tryz.prog 57 #[.pointer (some ⟨G, 0, none⟩), .int .i64 p, .int .i64 q] W fun e w' => ∃ c : Int, e = .returned (.int .i64 c) ∧ ((c ≠ 0 ∧ X = .inl (i, c) ∧ Bk lo G w3 w') ∨ (c = 0 ∧ BuS lo G N w3 w' rows X (i + 1))) := by
 obtain ⟨tn, xs, dn, rt, rk, dp, L, hX, hM, hP, hL, hn, hk, hp, hdp, hq, hdq⟩ := h
 rw [List.drop_eq_getElem_cons hi, hr] at hP
 rcases hP with ⟨c, ⟨f, hu⟩, rfl⟩ | ⟨l, ⟨f, hu⟩, hP⟩
 ·have hg := Good.of hL hok ⟨f, hu⟩
  have hc0 : c ≠ 0 := by
   have := hg.1
   omega
  refine Calls.mono (agree_all (f + 1) f (by omega) W tn xs dn rt rk dp p q (.inl c) hX hM.bm hp hq (by rw [hdp, hdq]; exact hu)) ?_
  rintro e w' ⟨hk2, ⟨c', e1, rfl⟩ | ⟨l, e1, _⟩⟩
  ·injection e1 with e1
   exact ⟨c, by rw [e1], .inl ⟨hc0, rfl, hk.trans hk2⟩⟩
  ·cases e1
 ·have hg := Good.of hL hok ⟨f, hu⟩
  refine Calls.mono (agree_all (f + 1) f (by omega) W tn xs dn rt rk dp p q (.inr l) hX hM.bm hp hq (by rw [hdp, hdq]; exact hu)) ?_
  rintro e w' ⟨hk2, ⟨c', e1, _⟩ | ⟨l', e1, rfl, tn', ys, dn', rt', rk', hX', hM', hS, _⟩⟩
  ·cases e1
  ·injection e1 with e1
   subst e1
   have hlen : ys.length ≤ 100000000 + 1000 * (i + 1) := by have := hS.len; omega
   have hbn : Bn ys N tn' dn' rt' rk' (fun k => subL l (dp k)) (L ++ l) := ⟨hM', by rw [hS.len]; exact hM.nv, fun k hk q => hM.isv k (by rw [← hS.len]; exact hk) (by rw [← hS.lb]; exact q), fun k hk => by rw [hS.lb]; exact hM.nam k hk, fun k hk => by rw [subL_two, ← hM.val k hk], fun k => by rw [hS.sz]; exact hM.siz k⟩
   exact ⟨0, rfl, .inr ⟨rfl, tn', ys, dn', rt', rk', _, L ++ l, hX', hbn, hP, hL.more hok.1.2 hok.2.2 hg, hlen, hk.trans hk2⟩⟩
/-- While sizes are looked at: all so far may be. -/
structure BzW (lo G : Nat) (N : List (List UInt8)) (tn : Nat) (xs : List Px) (dn : Nat → List Nd) (w3 wr : World) (j : Nat) : Prop where
 bk : Bk lo G w3 wr
 ex : ∃ ys, Ez dn xs ys ∧ BX wr lo G ys N tn
 le : ∀ i, i < j → (dn i).length ≤ 500
theorem pnames_mem {ps : List Pr} {p : Pr} (hp : p ∈ ps) {n : List UInt8} (h : n ∈ vnm (flat p.1.1 p.1.2) ∨ n ∈ vnm (flat p.2.1 p.2.2)) : n ∈ pnames ps := List.mem_flatMap.2 ⟨p, hp, List.mem_append.2 h⟩
end Go.Proofs.YtikpipenhamdbaaGreat

namespace Go.Proofs.YtikpipenhamdbaaGreat
open Go.RowKit Go.Maps

theorem wrongs_first {u v : Sigma Tn} (h : wrongT u.1 u.2 ≠ 0) : wrongs [u, v] = wrongT u.1 u.2 := by
 unfold wrongs
 rw [if_neg h]
theorem wrongs_then {u v : Sigma Tn} (h : wrongT u.1 u.2 = 0) : wrongs [u, v] = wrongT v.1 v.2 := by
 unfold wrongs
 rw [if_pos h]
 unfold wrongs
 split
 ·rename_i q
  rw [q]
  rfl
 ·rfl
set_option maxHeartbeats 16000000 in
set_option maxRecDepth 10000 in
theorem ref_unify (ps : List Pr) (v : Value) (w : World) (B : Nat) (hB : B ≤ w.heap.size) (hv : PrAt w B v ps) (hN : ∀ p ∈ ps, (flat p.1.1 p.1.2).length ≤ 4194304 ∧ (flat p.2.1 p.2.2).length ≤ 4194304) :
  Calls Tryz.prog 33 #[v] w (UnifyP ps w) := by
 have HPR : Hid (PrAt w B v ps) := hv
 obtain ⟨ad, cap, rfl, hpl, hcl⟩ := hv
 by_cases hmm : 100000 < ps.length
 ·have HF : Hid (UnifyP ps w (.returned (.tuple #[.slice none 0 0, .int .i64 0, .int .i64 2])) w) := ⟨Below.refl _ _, _, 0, 2, rfl, .inl ⟨rfl, .inl ⟨hmm, rfl, rfl⟩⟩⟩
  have hmm' : (100000 : Int) < (ps.length : Int) := by omega
  clear HPR hcl hN hmm
  go_enter Tryz.func33, Tryz.ntmps33
  go_wp2
  refine bodyPost_ret (v := .tuple #[.slice none 0 0, .int .i64 0, .int .i64 2]) (by simp [results, Tryz.results33, go_sem]) rfl ?_
  exact HF.out
 ·have hmm' : ¬ (100000 : Int) < (ps.length : Int) := by omega
  have hp5 : ps.length ≤ 100000 := by omega
  have HCL : Hid (ps ≠ [] → ∃ g o, ad = some ⟨g, o, none⟩ ∧ ps.length ≤ cap ∧ g < B ∧
   ∀ j (h : j < ps.length), ∃ k n ad1 l1 c1 k' n' ad2 l2 c2, (∀ w', Below B w w' → w'.cell? ⟨g, o + j * 6, none⟩ = some (.int .i64 k) ∧ w'.cell? ⟨g, o + j * 6 + 1, none⟩ = some (.string n) ∧ w'.cell? ⟨g, o + j * 6 + 2, none⟩ = some (.slice ad1 l1 c1) ∧ w'.cell? ⟨g, o + j * 6 + 3, none⟩ = some (.int .i64 k') ∧ w'.cell? ⟨g, o + j * 6 + 4, none⟩ = some (.string n') ∧ w'.cell? ⟨g, o + j * 6 + 5, none⟩ = some (.slice ad2 l2 c2)) ∧
    TyAt w B ps[j].1.1 (.agg #[.int .i64 k, .string n, .slice ad1 l1 c1]) ps[j].1.2 ∧ TyAt w B ps[j].2.1 (.agg #[.int .i64 k', .string n', .slice ad2 l2 c2]) ps[j].2.2) := hcl
  have HNN : Hid ((∀ p ∈ ps, (flat p.1.1 p.1.2).length ≤ 4194304 ∧ (flat p.2.1 p.2.2).length ≤ 4194304) ∧ B ≤ w.heap.size) := ⟨hN, hB⟩
  clear hcl hN hmm
  go_enter Tryz.func33, Tryz.ntmps33
  go_upto_region 3 with fail
  go_wp2
  go_loopw [5] (fun iv wr => ∃ j : Nat, j ≤ ps.length ∧ iv = .int .i64 j ∧ Hid (Below w.heap.size w wr ∧ ∀ i (h : i < ps.length), i < j → wrongs [ps[i].1, ps[i].2] = 0)) (fun iv _ => ps.length - (intOf iv).toNat)
  case atStart => exact ⟨0, by omega, by go_num, Below.refl _ _, fun i _ h => by omega⟩
  case round =>
   obtain ⟨j, hj, rfl, HP⟩ := hrel
   obtain ⟨hbel, hz⟩ := HP.out
   obtain ⟨hN, hB⟩ := HNN.out
   by_cases hlt : j < ps.length
   ·have hlt' : (j : Int) < (ps.length : Int) := by omega
    have j1 : (0 : Int) ≤ (j : Int) := by omega
    obtain ⟨g0, o0, hadr, hcapt, hgB, hcell⟩ := HCL.out (by intro e; rw [e] at hlt; simp at hlt)
    subst hadr
    obtain ⟨k1, n1, a1, l1, c1, k2, n2, a2, l2, c2, hcel, T1, T2⟩ := hcell j hlt
    obtain ⟨p0, p1, p2, -, -, -⟩ := hcel wr (hbel.mono hB)
    obtain ⟨f1, f2⟩ := hN ps[j] (List.getElem_mem hlt)
    have C1 : Calls Tryz.prog 54 #[.agg #[.int .i64 k1, .string n1, .slice a1 l1 c1]] wr fun r w' => r = .returned (.int .i64 (wrongT ps[j].1.1 ps[j].1.2)) ∧ (w'.cell? ⟨g0, o0 + j * 6 + 3, none⟩ = some (.int .i64 k2) ∧ w'.cell? ⟨g0, o0 + j * 6 + 4, none⟩ = some (.string n2) ∧ w'.cell? ⟨g0, o0 + j * 6 + 5, none⟩ = some (.slice a2 l2 c2)) ∧ Hid (Below w.heap.size w w') := by
     refine Calls.mono (wrong_any _ _ _ wr B (Nat.le_trans hB hbel.size) (TyAt.on T1 (hbel.mono hB)) f1) ?_
     rintro r w' ⟨rfl, hb⟩
     have hb2 : Below w.heap.size w w' := hbel.trans (hb.mono hbel.size)
     obtain ⟨-, -, -, q3, q4, q5⟩ := hcel w' (hb2.mono hB)
     exact ⟨rfl, ⟨q3, q4, q5⟩, hb2⟩
    have C2 : ∀ w', Hid (Below w.heap.size w w') → Calls Tryz.prog 54 #[.agg #[.int .i64 k2, .string n2, .slice a2 l2 c2]] w' fun r w2 => r = .returned (.int .i64 (wrongT ps[j].2.1 ps[j].2.2)) ∧ Hid (Below w.heap.size w w2) := fun w' H => by
     refine Calls.mono (wrong_any _ _ _ w' B (Nat.le_trans hB H.out.size) (TyAt.on T2 (H.out.mono hB)) f2) ?_
     rintro r w2 ⟨rfl, hb⟩
     exact ⟨rfl, H.out.trans (hb.mono H.out.size)⟩
    by_cases hw1 : wrongT ps[j].1.1 ps[j].1.2 = 0
    ·have hwt := wrongs_then (v := ps[j].2) hw1
     by_cases hw2 : wrongT ps[j].2.1 ps[j].2.2 = 0
     ·have HNX : Hid (∀ i (h : i < ps.length), i < j + 1 → wrongs [ps[i].1, ps[i].2] = 0) := fun i h hi => by
       by_cases e : i = j
       ·subst e
        exact hwt.trans hw2
       ·exact hz i h (by omega)
      rw [hw1] at C1
      rw [hw2] at C2
      have HLT : Hid (j < ps.length) := hlt
      clear HP hbel hz hN hcell hcel T1 T2 f1 f2 hw1 hw2 hwt
      go_wp2_with (first
       | (go_at_call 54; (with_reducible refine Calls.mono C1 ?_); rintro e' w4 ⟨rfl, ⟨q3, q4, q5⟩, H4⟩)
       | (go_at_call 54; (with_reducible refine Calls.mono (C2 _ H4) ?_); rintro e' w5 ⟨rfl, H5⟩))
      go_roundw
      case rel => exact ⟨j + 1, HLT.out, by go_num, H5.out, HNX.out⟩
      case measure => have := HLT.out; simp [intOf]; omega
     ·have HER : Hid (∀ w', Below w.heap.size w w' → UnifyP ps w (.returned (.tuple #[.slice none 0 0, .int .i64 j, .int .i64 (wrongT ps[j].2.1 ps[j].2.2)])) w') := fun w' hb => ⟨hb, _, j, _, rfl, .inl ⟨rfl, .inr (.inl ⟨hp5, j, hlt, rfl, hwt.symm, hw2, fun i h hi => hz i h hi⟩)⟩⟩
      have hwb : (wrongT ps[j].2.1 ps[j].2.2 == 0) = false := by simpa using hw2
      have hwn : (wrongT ps[j].2.1 ps[j].2.2 != 0) = true := by simpa using hw2
      rw [hw1] at C1
      clear HP hbel hz hN hcell hcel T1 T2 f1 f2 hw1 hwt
      generalize wrongT ps[j].2.1 ps[j].2.2 = cc at *
      go_wp2_with (first
       | (go_at_call 54; (with_reducible refine Calls.mono C1 ?_); rintro e' w4 ⟨rfl, ⟨q3, q4, q5⟩, H4⟩)
       | (go_at_call 54; (with_reducible refine Calls.mono (C2 _ H4) ?_); rintro e' w5 ⟨rfl, H5⟩))
      refine bodyPost_ret (v := .tuple #[.slice none 0 0, .int .i64 j, .int .i64 cc]) (by simp [results, Tryz.results33, go_sem]) rfl ?_
      exact HER.out _ H5.out
    ·have hwt := wrongs_first (v := ps[j].2) hw1
     have HER : Hid (∀ w', Below w.heap.size w w' → UnifyP ps w (.returned (.tuple #[.slice none 0 0, .int .i64 j, .int .i64 (wrongT ps[j].1.1 ps[j].1.2)])) w') := fun w' hb => ⟨hb, _, j, _, rfl, .inl ⟨rfl, .inr (.inl ⟨hp5, j, hlt, rfl, hwt.symm, hw1, fun i h hi => hz i h hi⟩)⟩⟩
     have hwb : (wrongT ps[j].1.1 ps[j].1.2 == 0) = false := by simpa using hw1
     have hwn : (wrongT ps[j].1.1 ps[j].1.2 != 0) = true := by simpa using hw1
     clear HP hbel hz hN hcell hcel T1 T2 f1 f2 hwt C2
     generalize wrongT ps[j].1.1 ps[j].1.2 = cc at *
     go_wp2_with (go_at_call 54; (with_reducible refine Calls.mono C1 ?_); rintro e' w4 ⟨rfl, ⟨q3, q4, q5⟩, H4⟩)
     refine bodyPost_ret (v := .tuple #[.slice none 0 0, .int .i64 j, .int .i64 cc]) (by simp [results, Tryz.results33, go_sem]) rfl ?_
     exact HER.out _ H4.out
   ·have hlt' : ¬ (j : Int) < (ps.length : Int) := by omega
    have hPS : PsOk ps := ⟨hp5, fun p hp => by
     obtain ⟨i, hi, rfl⟩ := List.getElem_of_mem hp
     exact hz i hi (by omega)⟩
    have hrok : ∀ p ∈ ps, (formB p.1.1 p.1.2 = true ∧ (flat p.1.1 p.1.2).length ≤ 500) ∧ formB p.2.1 p.2.2 = true ∧ (flat p.2.1 p.2.2).length ≤ 500 := fun p hp => by
     obtain ⟨h1, h2⟩ := wrongs_two (hPS.2 p hp)
     exact ⟨wrong_zero h1, wrong_zero h2⟩
    have hpok : ∀ p ∈ ps.map prow, pok p := fun p hp => by
     obtain ⟨q, hq, rfl⟩ := List.mem_map.1 hp
     obtain ⟨⟨h1, _⟩, h2, _⟩ := hrok q hq
     exact ⟨⟨eats_flat _ _, ((ok_flat _ _).1 h1).vok⟩, eats_flat _ _, ((ok_flat _ _).1 h2).vok⟩
    have hokr : ∀ p ∈ ps.map prow, Okr p.1 ∧ Okr p.2 := fun p hp => by
     obtain ⟨q, hq, rfl⟩ := List.mem_map.1 hp
     obtain ⟨⟨h1, _⟩, h2, _⟩ := hrok q hq
     exact ⟨(ok_flat _ _).1 h1, (ok_flat _ _).1 h2⟩
    obtain ⟨X, hXP⟩ := Prs.total (ps.map prow) [] 0 Lok.nil hpok
    have CBO : Calls Tryz.prog 55 #[.slice ad ps.length cap] wr fun e w3 => ∃ G : Nat, e = .returned (.pointer (some ⟨G, 0, none⟩)) ∧ Hid (∃ N : List (List UInt8), Below wr.heap.size wr w3 ∧ Srt (pnames ps) N ∧ N.length ≤ 100000000 ∧ BX w3 wr.heap.size G (varsX N) N 0) := by
     refine Calls.mono (board_any ps _ wr B (Nat.le_trans hB hbel.size) (HPR.out.below (hbel.mono hB) (Nat.le_refl _)) hp5 hrok) ?_
     rintro e w3 ⟨G, N, rfl, h1, h2, h3, h4⟩
     exact ⟨G, rfl, N, h1, h2, by omega, h4⟩
    have HRK : Hid ((∀ p ∈ ps, (formB p.1.1 p.1.2 = true ∧ (flat p.1.1 p.1.2).length ≤ 500) ∧ formB p.2.1 p.2.2 = true ∧ (flat p.2.1 p.2.2).length ≤ 500) ∧ (∀ p ∈ ps.map prow, pok p) ∧ (∀ p ∈ ps.map prow, Okr p.1 ∧ Okr p.2) ∧ Prs (ps.map prow) [] 0 X ∧ PsOk ps) := ⟨hrok, hpok, hokr, hXP, hPS⟩
    have HBW : Hid (Below w.heap.size w wr) := hbel
    clear HP hz hN hPS hrok hpok hokr hXP hbel
    go_upto_region 12 with (first | (go_at_call 55; (with_reducible refine Calls.mono CBO ?_); rintro e' w3 ⟨G, rfl, H3⟩))
    clear CBO
    obtain ⟨N, hb3, hSrt, hNl, hX3⟩ := H3.out
    have HSR : Hid (Srt (pnames ps) N) := hSrt
    have HB3 : Hid (Below w.heap.size w w3 ∧ w.heap.size ≤ wr.heap.size ∧ B ≤ wr.heap.size) := ⟨HBW.out.trans (hb3.mono HBW.out.size), HBW.out.size, Nat.le_trans hB HBW.out.size⟩
    have H0 : Hid (BuS wr.heap.size G N w3 w3 (ps.map prow) X 0) := by
     refine ⟨0, varsX N, _, _, _, _, [], hX3, Bn.made hSrt.1, HRK.out.2.2.2.1, Lok.nil, ?_, Bk.refl _ _ _⟩
     rw [(varsX_at N).1]
     omega
    clear H3 hb3 hSrt hX3
    generalize wr.heap.size = lo at *
    go_wp2
    go_loopw [8] (fun iv wq => ∃ j : Nat, j ≤ ps.length ∧ iv = .int .i64 j ∧ Hid (BuS lo G N w3 wq (ps.map prow) X j)) (fun iv _ => ps.length - (intOf iv).toNat)
    case atStart => exact ⟨0, by omega, by go_num, H0.out⟩
    case round =>
     obtain ⟨j, hj, rfl, HP⟩ := hrel
     clear H0
     obtain ⟨hb3, hlow, hBlo⟩ := HB3.out
     have hbk : Bk lo G w3 wr := by
      obtain ⟨_, _, _, _, _, _, _, _, _, _, _, _, hk⟩ := HP.out
      exact hk
     have hbq : Below w.heap.size w wr := hb3.trans (hbk.below.mono hlow)
     by_cases hlt : j < ps.length
     ·have hlt' : (j : Int) < (ps.length : Int) := by omega
      have j1 : (0 : Int) ≤ (j : Int) := by omega
      obtain ⟨g0, o0, hadr, hcapt, hgB, hcell⟩ := HCL.out (by intro e; rw [e] at hlt; simp at hlt)
      subst hadr
      obtain ⟨k1, n1, a1, l1, c1, k2, n2, a2, l2, c2, hcel, T1, T2⟩ := hcell j hlt
      obtain ⟨p0, p1, p2, -, -, -⟩ := hcel wr (hbq.mono hB)
      have T1' := TyAt.below (hb3.mono hB) hBlo _ _ _ T1
      have T2' := TyAt.below (hb3.mono hB) hBlo _ _ _ T2
      obtain ⟨⟨f1, f2⟩, f3, f4⟩ := HRK.out.1 ps[j] (List.getElem_mem hlt)
      have hjm : j < (ps.map prow).length := by simpa using hlt
      have hrow : (ps.map prow)[j] = (flat ps[j].1.1 ps[j].1.2, flat ps[j].2.1 ps[j].2.2) := by simp [prow]
      have hpok : pok (flat ps[j].1.1 ps[j].1.2, flat ps[j].2.1 ps[j].2.2) := by
       have := HRK.out.2.1 (ps.map prow)[j] (List.getElem_mem hjm)
       rw [hrow] at this
       exact this
      have hj5 : j < 100000 := by omega
      have hnA : ∀ n, ((2, n, 0) : Nd) ∈ flat ps[j].1.1 ps[j].1.2 → n ∈ N := fun n h => (HSR.out.2 n).2 (pnames_mem (List.getElem_mem hlt) (.inl (vnm_low h)))
      have hnB : ∀ n, ((2, n, 0) : Nd) ∈ flat ps[j].2.1 ps[j].2.2 → n ∈ N := fun n h => (HSR.out.2 n).2 (pnames_mem (List.getElem_mem hlt) (.inr (vnm_low h)))
      have CX : Calls Tryz.prog 56 #[.pointer (some ⟨G, 0, none⟩), .agg #[.int .i64 k1, .string n1, .slice a1 l1 c1]] wr fun e w' => ∃ p : Nat, e = .returned (.int .i64 p) ∧ (w'.cell? ⟨g0, o0 + j * 6 + 3, none⟩ = some (.int .i64 k2) ∧ w'.cell? ⟨g0, o0 + j * 6 + 4, none⟩ = some (.string n2) ∧ w'.cell? ⟨g0, o0 + j * 6 + 5, none⟩ = some (.slice a2 l2 c2)) ∧ Hid (BuA lo G N w3 w' (ps.map prow) X j (flat ps[j].1.1 ps[j].1.2) p) := by
       refine Calls.mono (blay_first HSR.out.1 HP.out T1' f1 f2 hj5 hnA) ?_
       rintro e w' ⟨p, rfl, hb, hU⟩
       obtain ⟨-, -, -, q3, q4, q5⟩ := hcel w' ((hb3.trans (hb.mono hlow)).mono hB)
       exact ⟨p, rfl, ⟨q3, q4, q5⟩, hU⟩
      have CY : ∀ W p, Hid (BuA lo G N w3 W (ps.map prow) X j (flat ps[j].1.1 ps[j].1.2) p) → Calls Tryz.prog 56 #[.pointer (some ⟨G, 0, none⟩), .agg #[.int .i64 k2, .string n2, .slice a2 l2 c2]] W fun e w' => ∃ q : Nat, e = .returned (.int .i64 q) ∧ Hid (BuB lo G N w3 w' (ps.map prow) X j (flat ps[j].1.1 ps[j].1.2) (flat ps[j].2.1 ps[j].2.2) p q) := fun W p hU => by
       refine Calls.mono (blay_second HSR.out.1 hU.out T2' f3 f4 hj5 hnB) ?_
       rintro e w' ⟨q, rfl, hU2⟩
       exact ⟨q, rfl, hU2⟩
      have CZ : ∀ W (p q : Nat), Hid (BuB lo G N w3 W (ps.map prow) X j (flat ps[j].1.1 ps[j].1.2) (flat ps[j].2.1 ps[j].2.2) p q) → Calls Tryz.prog 57 #[.pointer (some ⟨G, 0, none⟩), .int .i64 p, .int .i64 q] W fun e w' => ∃ c : Int, e = .returned (.int .i64 c) ∧ Hid ((c ≠ 0 ∧ X = .inl (j, c) ∧ Bk lo G w3 w') ∨ (c = 0 ∧ BuS lo G N w3 w' (ps.map prow) X (j + 1))) := fun W p q hU => by
       refine Calls.mono (bagree_two hU.out hjm hrow hpok) ?_
       rintro e w' ⟨c, rfl, hU2⟩
       exact ⟨c, rfl, hU2⟩
      have HLT : Hid (j < ps.length) := hlt
      clear HP hbk hbq hcell hcel T1 T2 T1' T2' f1 f2 f3 f4 hjm hrow hpok hnA hnB
      go_upto_region 18 with (first
       | (go_at_call 56; (with_reducible refine Calls.mono CX ?_); rintro e' w5 ⟨p5, rfl, ⟨q3, q4, q5⟩, H5⟩)
       | (go_at_call 56; (with_reducible refine Calls.mono (CY _ _ H5) ?_); rintro e' w6 ⟨p6, rfl, H6⟩)
       | (go_at_call 57; (with_reducible refine Calls.mono (CZ _ _ _ H6) ?_); rintro e' w7 ⟨cc, rfl, H7⟩))
      clear CX CY CZ
      by_cases hc0 : cc = 0
      ·subst hc0
       have HN : Hid (BuS lo G N w3 w7 (ps.map prow) X (j + 1)) := by
        rcases H7.out with ⟨q, _⟩ | ⟨_, q⟩
        ·exact absurd rfl q
        ·exact q
       clear H7
       go_wp2
       go_roundw
       case rel => exact ⟨j + 1, HLT.out, by go_num, HN.out⟩
       case measure => have := HLT.out; simp [intOf]; omega
      ·have HER : Hid (UnifyP ps w (.returned (.tuple #[.slice none 0 0, .int .i64 j, .int .i64 cc])) w7) := by
        rcases H7.out with ⟨q1, q2, q3⟩ | ⟨q, _⟩
        ·obtain ⟨_, _, _, r4, r5⟩ := HRK.out
         refine ⟨hb3.trans (q3.below.mono hlow), _, j, cc, rfl, .inl ⟨rfl, .inr (.inr (.inl ⟨r5, q1, j, ?_, rfl⟩))⟩⟩
         rw [← q2]
         exact r4
        ·exact absurd q hc0
       have hcb : (cc == 0) = false := by simpa using hc0
       have hcn : (cc != 0) = true := by simpa using hc0
       clear H7
       go_wp2
       refine bodyPost_ret (v := .tuple #[.slice none 0 0, .int .i64 j, .int .i64 cc]) (by simp [results, Tryz.results33, go_sem]) rfl ?_
       exact HER.out
     ·have hlt' : ¬ (j : Int) < (ps.length : Int) := by omega
      have hjl : j = ps.length := by omega
      obtain ⟨tn, xs, dn, rt, rk, dp, M, hX, hM, hP, hL, hn, hk⟩ := HP.out
      have hP : X = .inr M := by
       rw [hjl, show ps.length = (ps.map prow).length by simp, List.drop_length] at hP
       exact hP
      obtain ⟨-, r2, r3, r4, r5⟩ := HRK.out
      rw [hP] at r4
      have hO : Okl M := Prs.ok _ [] 0 Okl.nil r3 r4
      have hLs : Lss M := Prs.least _ [] 0 Lok.nil Lss.nil r2 r4
      have hLow : Low N M := Prs.low N _ [] 0 Lok.nil (fun b hb => by simp at hb) r2 (fun p hp => by
       obtain ⟨q, hq, rfl⟩ := List.mem_map.1 hp
       exact ⟨fun n h => (HSR.out.2 n).2 (pnames_mem hq (.inl (vnm_low h))), fun n h => (HSR.out.2 n).2 (pnames_mem hq (.inr (vnm_low h)))⟩) r4
      have hvN : ∀ n ∈ N, varB n = true := fun n hn => by
       obtain ⟨p, hp, hpn⟩ := List.mem_flatMap.1 ((HSR.out.2 n).1 hn)
       obtain ⟨k1, k2⟩ := r3 _ (List.mem_map.2 ⟨p, hp, rfl⟩)
       rcases List.mem_append.1 hpn with q | q
       ·exact vnm_ok k1 q
       ·exact vnm_ok k2 q
      have hlen : ∀ i (h : i < N.length), (dn i).length = (subL M [(2, N[i], 0)]).length := fun i h => by
       rw [← hM.val i h]
       exact (hM.bm.bx.bs.tree (by have := hM.nv; omega)).2.2.symm
      have HZ0 : Hid (BzW lo G N tn xs dn w3 wr 0) := ⟨hk, ⟨xs, Ez.refl _ _, hX⟩, fun i h => by omega⟩
      have HMM : Hid (Bn xs N tn dn rt rk dp M ∧ Prs (ps.map prow) [] 0 (.inr M) ∧ PsOk ps ∧ Okl M ∧ Lss M ∧ Low N M ∧ (∀ n ∈ N, varB n = true) ∧ Lok M ∧ (∀ i (h : i < N.length), (dn i).length = (subL M [(2, N[i], 0)]).length)) := ⟨hM, r4, r5, hO, hLs, hLow, hvN, hL, hlen⟩
      have hNx : N.length ≤ xs.length := hM.nv
      clear HP hX hM hP hL hn hk hO hLs hLow hvN hlen r2 r3 r4 r5 hbk hbq
      go_upto_region 20 with fail
      go_wp2
      go_loopw [12] (fun iv wq => ∃ j : Nat, j ≤ N.length ∧ iv = .int .i64 j ∧ Hid (BzW lo G N tn xs dn w3 wq j)) (fun iv _ => N.length - (intOf iv).toNat)
      case atStart => exact ⟨0, by omega, by go_num, HZ0.out⟩
      case round =>
       obtain ⟨j, hj, rfl, HP⟩ := hrel
       clear HZ0
       obtain ⟨hbk, ⟨ys, hE, hY⟩, hle⟩ := HP.out
       obtain ⟨hM, r4, r5, hO, hLs, hLow, hvN, hL, hlen⟩ := HMM.out
       obtain ⟨va, vc, c2, hvars⟩ := hY.vars
       have hSz : SzOk xs dn := fun k => .inl (hM.siz k)
       have hbW : Below w.heap.size w wr := hb3.trans (hbk.below.mono hlow)
       by_cases hlt : j < N.length
       ·have hlt' : (j : Int) < (N.length : Int) := by omega
        have j1 : (0 : Int) ≤ (j : Int) := by omega
        have hne : N ≠ [] := by intro e; rw [e] at hlt; simp at hlt
        obtain ⟨gv, rfl, hvc, hvcell⟩ := hvars hne
        have cvj := hvcell j hlt
        have CS := size_any (lo := lo) (G := G) (tn := tn) (N := N) _ wr ys j hY (hM.bm.bx.ez hE) (hSz.ez hE) (by rw [hE.len]; omega) (Nat.le_refl _)
        by_cases h5 : (dn j).length ≤ 500
        ·have C1 : Calls Tryz.prog 58 #[.pointer (some ⟨G, 0, none⟩), .int .i64 (j : Nat)] wr fun e w' => e = .returned (.int .i64 ((dn j).length : Nat)) ∧ Hid (BzW lo G N tn xs dn w3 w' (j + 1)) := by
          refine Calls.mono CS ?_
          rintro e w' ⟨rfl, hk2, zs, hE2, hZ⟩
          refine ⟨by unfold capN; rw [if_pos h5], hbk.trans hk2, ⟨zs, hE.trans hE2, hZ⟩, fun i hi => ?_⟩
          by_cases e : i = j
          ·rw [e]
           exact h5
          ·exact hle i (by omega)
         have h5' : ¬ (500 : Int) < ((dn j).length : Int) := by omega
         have HLT : Hid (j < N.length) := hlt
         clear CS HP hbk hE hY hle hM r4 r5 hO hLs hLow hvN hL hlen hvars hvcell hSz hbW h5
         generalize (dn j).length = dj at *
         go_wp2_with (go_at_call 58; (with_reducible refine Calls.mono C1 ?_); rintro e' w8 ⟨rfl, H8⟩)
         go_roundw
         case rel => exact ⟨j + 1, HLT.out, by go_num, H8.out⟩
         case measure => have := HLT.out; simp [intOf]; omega
        ·have C1 : Calls Tryz.prog 58 #[.pointer (some ⟨G, 0, none⟩), .int .i64 (j : Nat)] wr fun e w' => e = .returned (.int .i64 501) ∧ Hid (UnifyP ps w (.returned (.tuple #[.slice none 0 0, .int .i64 ps.length, .int .i64 4])) w') := by
          refine Calls.mono CS ?_
          rintro e w' ⟨rfl, hk2, zs, hE2, hZ⟩
          refine ⟨by unfold capN; rw [if_neg h5]; rfl, hbW.trans (hk2.below.mono (by have := hbk.size; have := hb3.size; omega)), _, ps.length, 4, rfl, .inl ⟨rfl, .inr (.inr (.inr ⟨r5, rfl, rfl, M, r4, N[j], ?_⟩))⟩⟩
          rw [← hlen j hlt]
          omega
         clear CS HP hbk hE hY hle hM r4 r5 hO hLs hLow hvN hL hlen hvars hvcell hSz hbW h5
         go_wp2_with (go_at_call 58; (with_reducible refine Calls.mono C1 ?_); rintro e' w8 ⟨rfl, H8⟩)
         refine bodyPost_ret (v := .tuple #[.slice none 0 0, .int .i64 ps.length, .int .i64 4]) (by simp [results, Tryz.results33, go_sem]) rfl ?_
         exact H8.out
       ·have hlt' : ¬ (j : Int) < (N.length : Int) := by omega
        have hjN : j = N.length := by omega
        have CB : Calls Tryz.prog 59 #[.pointer (some ⟨G, 0, none⟩)] wr fun e w' => ∃ v, e = .returned v ∧ Hid (UnifyP ps w (.returned (.tuple #[v, .int .i64 0, .int .i64 0])) w') := by
         refine Calls.mono (bbounds_any hY (hM.bm.bx.ez hE) (by rw [hE.len]; exact hNx) (fun i hi q => hM.isv i (by rw [← hE.len]; exact hi) (by rw [← hE.lb]; exact q)) hM.val HSR.out.1 hL hLs hLow hvN hO (fun i hi => by
          have h1 := (hM.bm.bx.bs.tree (show i < xs.length by omega)).2.2
          rw [h1]
          exact hle i (by omega))) ?_
         rintro e w' ⟨v, es, bs, rss, rfl, hR, n1, n2, hb⟩
         refine ⟨v, rfl, hbW.trans (hb.mono hbW.size), v, 0, 0, rfl, .inr ⟨rfl, rfl, r5, es, bs, rss, M, N, hR.low hbW.size, r4, ?_, ?_, n1, n2, fun y hy => (hLow y hy).1, fun n hn => ?_, by omega⟩⟩
         ·show List.Pairwise (· ≠ ·) N
          exact HSR.out.1.imp fun {a b} h => by
           intro e
           subst e
           exact List.lt_irrefl _ h
         ·exact HSR.out.1.imp fun h => List.le_of_lt h
         ·obtain ⟨i, hi, rfl⟩ := List.getElem_of_mem hn
          refine ⟨hvN _ hn, ?_⟩
          rw [← hlen i hi]
          exact hle i (by omega)
        clear HP hbk hE hY hle hM r4 r5 hO hLs hLow hvN hL hlen hvars hSz hbW
        go_wp2_with (go_at_call 59; (with_reducible refine Calls.mono CB ?_); rintro e' w9 ⟨v9, rfl, H9⟩)
        refine bodyPost_ret (v := .tuple #[v9, .int .i64 0, .int .i64 0]) (by simp [results, Tryz.results33, go_sem]) rfl ?_
        exact H9.out
end Go.Proofs.YtikpipenhamdbaaGreat

namespace Go.Proofs.YtikpipenhamdbaaGreat
open Go.RowKit Go.Maps

/-- A row of bounds that is its owner's, in blocks from lo to hi. -/
structure Rx (U : World) (lo hi : Nat) (v : Value) (es : List Bl4) (bs : List Bd) (rss : List (List (Value × Nat))) : Prop where
 own : U.ownsRow lo 48 4 v es.length (es.flatMap bCells)
 len : es.length = bs.length
 rlen : rss.length = bs.length
 each : ∀ j (h : j < bs.length) (h1 : j < es.length) (h2 : j < rss.length), TyO U lo bs[j].2.1 (elV es[j].2) bs[j].2.2 rss[j]
 sep : SepB lo hi rss.flatten
 away : ∀ p ∈ rss.flatten, p.1.ownBlock ≠ v.ownBlock
 row : ∀ g, v.ownBlock = some g → lo ≤ g ∧ g < hi
 hi : hi ≤ U.heap.size
 num : bs.length ≤ 200000000 ∧ rss.flatten.length ≤ bs.length * 500 ∧ ∀ p ∈ rss.flatten, p.2 ≤ 6
theorem Rx.on {U U' : World} {lo hi : Nat} {v : Value} {es : List Bl4} {bs : List Bd} {rss : List (List (Value × Nat))} (h : Rx U lo hi v es bs rss) (hb : ∀ g, lo ≤ g → g < hi → U'.heap[g]? = U.heap[g]?) (hs : U.heap.size ≤ U'.heap.size) : Rx U' lo hi v es bs rss := by
 refine ⟨own_keep h.own fun k hk => hb k (h.row k hk).1 (h.row k hk).2, h.len, h.rlen, fun j a b c => TyO.on _ _ _ _ (fun p hp g hg => ?_) (h.each j a b c), h.sep, h.away, h.row, Nat.le_trans h.hi hs, h.num⟩
 obtain ⟨g', e1, e2, e3⟩ := h.sep.1 p (List.mem_flatten.2 ⟨_, List.getElem_mem c, hp⟩)
 rw [hg] at e1
 have := Option.some.inj e1
 exact hb g (by omega) (by omega)
theorem flat_len_le {α : Type} : ∀ (l : List (List α)) (M : Nat), (∀ x ∈ l, x.length ≤ M) → l.flatten.length ≤ l.length * M
 | [], _, _ => by simp
 | a :: l, M, h => by
  rw [List.flatten_cons, List.length_append, List.length_cons]
  have h1 := h a (by simp)
  have h2 := flat_len_le l M fun x hx => h x (by simp [hx])
  have : (l.length + 1) * M = l.length * M + M := by rw [Nat.add_mul, Nat.one_mul]
  omega
theorem Rx.of {w w' : World} {v : Value} {es : List Bl4} {bs : List Bd} {rss : List (List (Value × Nat))} (h : RowB w' w.heap.size v es bs rss) (hn : bs.length ≤ 200000000) (hf : ∀ x ∈ bs, formB x.2.1 x.2.2 = true ∧ (flat x.2.1 x.2.2).length ≤ 500) : Rx w' w.heap.size w'.heap.size v es bs rss := by
 have hl := h.len
 have hr := h.rlen
 have hc : ∀ j (_ : j < bs.length) (h2 : j < rss.length), rss[j].length ≤ 500 ∧ ∀ p ∈ rss[j], p.2 ≤ 6 := fun j h1 h2 => by
  have := own_count _ _ _ _ (h.each j h1 (by omega) h2)
  obtain ⟨f1, f2⟩ := hf _ (List.getElem_mem h1)
  exact ⟨Nat.le_trans this.1 f2, this.2 f1⟩
 refine ⟨h.own, hl, hr, h.each, h.sep, h.away, fun g hg => h.own.lt g hg, Nat.le_refl _, hn, ?_, fun p hp => ?_⟩
 ·have h9 := flat_len_le rss 500 fun x hx => by
   obtain ⟨j, hj, rfl⟩ := List.getElem_of_mem hx
   exact (hc j (by omega) hj).1
  rw [← hr]
  exact h9
 ·obtain ⟨l, hl', hpl⟩ := List.mem_flatten.1 hp
  obtain ⟨j, hj, rfl⟩ := List.getElem_of_mem hl'
  exact (hc j (by omega) hj).2 p hpl
/-- What is told of a name is told of one that is bound. -/
theorem pL_bound {M : List (List UInt8 × List Nd)} {n : List UInt8} (h : pL M n = true) : ∃ b ∈ M, b.1 = n := Decidable.byContradiction fun q => by
 have := subL_stays (L := M) (n := n) fun b hb e => q ⟨b, hb, e⟩
 unfold pL at h
 exact absurd this (of_decide_eq_true h)
theorem filt_one {M : List (List UInt8 × List Nd)} {a b : List (List UInt8)} (ha : a.Nodup) (sa : a.Pairwise (fun x y => x ≤ y)) (ma : ∀ y ∈ M, y.1 ∈ a) (hb : b.Nodup) (sb : b.Pairwise (fun x y => x ≤ y)) (mb : ∀ y ∈ M, y.1 ∈ b) : a.filter (pL M) = b.filter (pL M) := by
 have key : ∀ {l : List (List UInt8)}, l.Nodup → l.Pairwise (fun x y => x ≤ y) → (l.filter (pL M)).Pairwise (fun x y => x < y) := fun {l} h1 h2 => by
  have h3 : l.Pairwise (fun x y => x < y) := by
   have h4 : l.Pairwise (fun x y => x ≠ y ∧ x ≤ y) := by
    have h1 : l.Pairwise (fun x y => x ≠ y) := h1
    exact List.pairwise_and_iff.2 ⟨h1, h2⟩
   exact h4.imp fun h => by
    rcases lt_or_eq_le h.2 with q | q
    ·exact q
    ·exact absurd q h.1
  exact h3.filter _
 refine srt_one (key ha sa) (key hb sb) fun x => ?_
 simp only [List.mem_filter]
 constructor
 ·rintro ⟨_, h⟩
  obtain ⟨y, hy, rfl⟩ := pL_bound h
  exact ⟨mb y hy, h⟩
 ·rintro ⟨_, h⟩
  obtain ⟨y, hy, rfl⟩ := pL_bound h
  exact ⟨ma y hy, h⟩
theorem err_one {ps : List Pr} {n c n' c' : Int} (h : UErr ps n c) (k : UErr ps n' c') : n = n' ∧ c = c' := by
 rcases h with ⟨a1, a2, a3⟩ | ⟨a1, i, hi, a2, a3, a4, a5⟩ | ⟨a1, a2, i, a3, a4⟩ | ⟨a1, a2, a3, M, a4, m, a5⟩ <;> rcases k with ⟨b1, b2, b3⟩ | ⟨b1, j, hj, b2, b3, b4, b5⟩ | ⟨b1, b2, j, b3, b4⟩ | ⟨b1, b2, b3, M', b4, m', b5⟩
 ·exact ⟨by rw [a2, b2], by rw [a3, b3]⟩
 ·omega
 ·have := b1.1; omega
 ·have := b1.1; omega
 ·omega
 ·have e : i = j := by
   rcases Nat.lt_trichotomy i j with q | q | q
   ·have := b5 i hi q
    rw [a3] at a4
    exact absurd this a4
   ·exact q
   ·have := a5 j hj q
    rw [b3] at b4
    exact absurd this b4
  subst e
  exact ⟨by rw [a2, b2], by rw [a3, b3]⟩
 ·rw [a3] at a4
  exact absurd (b1.2 _ (List.getElem_mem hi)) a4
 ·rw [a3] at a4
  exact absurd (b1.2 _ (List.getElem_mem hi)) a4
 ·have := a1.1; omega
 ·rw [b3] at b4
  exact absurd (a1.2 _ (List.getElem_mem hj)) b4
 ·have := Prs.one _ _ _ a3 b3
  injection this with this
  injection this with e1 e2
  exact ⟨by rw [a4, b4, e1], e2⟩
 ·have := Prs.one _ _ _ a3 b4
  cases this
 ·have := a1.1; omega
 ·rw [b3] at b4
  exact absurd (a1.2 _ (List.getElem_mem hj)) b4
 ·have := Prs.one _ _ _ a4 b3
  cases this
 ·exact ⟨by rw [a2, b2], by rw [a3, b3]⟩
theorem err_none {ps : List Pr} {n c : Int} (h : UErr ps n c) (hp : PsOk ps) {M : List (List UInt8 × List Nd)} {ns : List (List UInt8)} (hP : Prs (ps.map prow) [] 0 (.inr M)) (hm : ∀ y ∈ M, y.1 ∈ ns) (h5 : ∀ n ∈ ns, varB n = true ∧ (subL M [(2, n, 0)]).length ≤ 500) : False := by
 rcases h with ⟨a1, a2, a3⟩ | ⟨a1, i, hi, a2, a3, a4, a5⟩ | ⟨a1, a2, i, a3, a4⟩ | ⟨a1, a2, a3, M', a4, m, a5⟩
 ·have := hp.1; omega
 ·rw [a3] at a4
  exact a4 (hp.2 _ (List.getElem_mem hi))
 ·cases Prs.one _ _ _ a3 hP
 ·have e := Prs.one _ _ _ a4 hP
  injection e with e
  subst e
  by_cases q : m ∈ ns
  ·have := (h5 m q).2
   omega
  ·rw [subL_stays fun b hb e => q (by rw [← e]; exact hm b hb)] at a5
   simp at a5
/-- Two answers of Unify are one. -/
theorem unify_one {ps : List Pr} {w1 w1' w2 w2' : World} {v1 v2 : Value} {n1 c1 n2 c2 : Int} (h : UnifyP ps w1 (.returned (.tuple #[v1, .int .i64 n1, .int .i64 c1])) w1') (k : UnifyP ps w2 (.returned (.tuple #[v2, .int .i64 n2, .int .i64 c2])) w2') :
  n1 = n2 ∧ c1 = c2 ∧ ∃ (es1 es2 : List Bl4) (bs1 bs2 : List Bd) (rss1 rss2 : List (List (Value × Nat))), RowB w1' w1.heap.size v1 es1 bs1 rss1 ∧ RowB w2' w2.heap.size v2 es2 bs2 rss2 ∧ bs1.map bdF = bs2.map bdF ∧ (bs1.length ≤ 200000000 ∧ bs2.length ≤ 200000000) ∧ ∀ x ∈ bs2, formB x.2.1 x.2.2 = true ∧ (flat x.2.1 x.2.2).length ≤ 500 := by
 obtain ⟨_, v, n, c, e, h⟩ := h
 obtain ⟨_, v', n', c', e', k⟩ := k
 simp only [Ending.returned.injEq, Value.tuple.injEq, Array.mk.injEq, List.cons.injEq, Value.int.injEq, true_and, and_true] at e e'
 obtain ⟨rfl, rfl, rfl⟩ := e
 obtain ⟨rfl, rfl, rfl⟩ := e'
 rcases h with ⟨rfl, hE⟩ | ⟨rfl, rfl, hp, es, bs, rss, M, ns, hR, hP, hd, hs, hf, hv, hm, h5, hl⟩
 ·rcases k with ⟨rfl, kE⟩ | ⟨rfl, rfl, kp, es', bs', rss', M', ns', kR, kP, kd, ks, kf, kv, km, k5, kl⟩
  ·obtain ⟨e1, e2⟩ := err_one hE kE
   exact ⟨e1, e2, [], [], [], [], [], [], RowB.nil _ _, RowB.nil _ _, rfl, by simp, fun x hx => by simp at hx⟩
  ·exact (err_none hE kp kP km k5).elim
 ·rcases k with ⟨rfl, kE⟩ | ⟨rfl, rfl, kp, es', bs', rss', M', ns', kR, kP, kd, ks, kf, kv, km, k5, kl⟩
  ·exact (err_none kE hp hP hm h5).elim
  ·have e := Prs.one _ _ _ hP kP
   injection e with e
   subst e
   have hnm : bs.map (·.1) = bs'.map (·.1) := by rw [hf, kf]; exact filt_one hd hs hm kd ks km
   have hln : bs.length = bs'.length := by have := congrArg List.length hnm; simpa using this
   have hO : Okl M := Prs.ok _ [] 0 Okl.nil (fun p hp' => by
    obtain ⟨q, hq, rfl⟩ := List.mem_map.1 hp'
    obtain ⟨h1, h2⟩ := wrongs_two (hp.2 q hq)
    exact ⟨(ok_flat _ _).1 (wrong_zero h1).1, (ok_flat _ _).1 (wrong_zero h2).1⟩) hP
   have hle : ∀ {bs : List Bd} {ns : List (List UInt8)}, bs.map (·.1) = ns.filter (pL M) → ns.length ≤ 200000000 → bs.length ≤ 200000000 := fun {bs ns} h1 h2 => by
    have := congrArg List.length h1
    rw [List.length_map] at this
    have := List.length_filter_le (pL M) ns
    omega
   refine ⟨rfl, rfl, es, es', bs, bs', rss, rss', hR, kR, ?_, ⟨hle hf hl, hle kf kl⟩, fun x hx => ?_⟩
   ·apply List.ext_getElem
    ·simpa using hln
    ·intro j h1 h2
     have j1 : j < bs.length := by simpa using h1
     have j2 : j < bs'.length := by simpa using h2
     have e1 : bs[j].1 = bs'[j].1 := by
      have : (bs.map (·.1))[j]'(by simpa using j1) = (bs'.map (·.1))[j]'(by simpa using j2) := by simp only [hnm]
      simpa using this
     simp only [List.getElem_map, bdF, Prod.mk.injEq]
     refine ⟨e1, ?_⟩
     rw [hv _ (List.getElem_mem j1), kv _ (List.getElem_mem j2), e1]
   ·have hx' : x.1 ∈ ns' := by
     have : x.1 ∈ bs'.map (·.1) := List.mem_map.2 ⟨x, hx, rfl⟩
     rw [kf] at this
     exact (List.mem_filter.1 this).1
    obtain ⟨q1, q2⟩ := k5 _ hx'
    refine ⟨(ok_flat _ _).2 ?_, ?_⟩
    ·rw [kv x hx]
     exact hO.subL _ (Okr.cons.2 ⟨ok_two q1, Okr.nil⟩)
    ·rw [kv x hx]
     exact q2
/-- What unifies answers. -/
def UsP (w : World) (e : Ending) (w' : World) : Prop := Below w.heap.size w w' ∧ ∃ (va : Option Addr) (vl vc lo : Nat) (es : List Bl4) (bs : List Bd) (rss : List (List (Value × Nat))), e = .returned (.tuple #[.slice va vl vc, .bool true]) ∧ w.heap.size ≤ lo ∧ Rx w' lo w'.heap.size (.slice va vl vc) es bs rss
set_option maxHeartbeats 16000000 in
set_option maxRecDepth 10000 in
theorem unifies_any (ps : List Pr) (v v' : Value) (w : World) (B : Nat) (hB : B ≤ w.heap.size) (hv : PrAt w B v ps) (hv' : PrAt w B v' ps) (hN : ∀ p ∈ ps, (flat p.1.1 p.1.2).length ≤ 4194304 ∧ (flat p.2.1 p.2.2).length ≤ 4194304) :
  Calls Tryz.prog 13 #[v, v'] w (UsP w) := by
 have C1 : Calls Tryz.prog 33 #[v'] w fun e w1 => ∃ (va : Option Addr) (vl vc : Nat) (n c : Int), e = .returned (.tuple #[.slice va vl vc, .int .i64 n, .int .i64 c]) ∧ Hid (Below w.heap.size w w1 ∧ UnifyP ps w (.returned (.tuple #[.slice va vl vc, .int .i64 n, .int .i64 c])) w1) := by
  refine Calls.mono (ref_unify ps v' w B hB hv' hN) ?_
  intro e w1 h
  obtain ⟨hb, v1, n, c, rfl, h'⟩ := id h
  have : ∃ va vl vc, v1 = .slice va vl vc := by
   rcases h' with ⟨rfl, _⟩ | ⟨_, _, _, es, bs, rss, M, ns, hR, _⟩
   ·exact ⟨_, _, _, rfl⟩
   ·obtain ⟨va, vc, e⟩ := row_len4 hR
    exact ⟨va, _, vc, e⟩
  obtain ⟨va, vl, vc, rfl⟩ := this
  exact ⟨va, vl, vc, n, c, rfl, hb, h⟩
 have C2 : ∀ (w1 : World) (va : Option Addr) (vl vc : Nat) (n c : Int), Hid (Below w.heap.size w w1 ∧ UnifyP ps w (.returned (.tuple #[.slice va vl vc, .int .i64 n, .int .i64 c])) w1) → Calls Tryz.prog 10 #[v] w1 fun e w2 => ∃ (va2 : Option Addr) (vl2 vc2 : Nat), e = .returned (.tuple #[.slice va2 vl2 vc2, .int .i64 n, .int .i64 c]) ∧ Hid (Below w.heap.size w w2 ∧ ∃ (al bs : List Bd) (es : List Bl4) (rss : List (List (Value × Nat))), BdAt w2 w2.heap.size (.slice va vl vc) al ∧ BdAt w2 w2.heap.size (.slice va2 vl2 vc2) bs ∧ bs.map bdF = al.map bdF ∧ ∃ lo, w.heap.size ≤ lo ∧ Rx w2 lo w2.heap.size (.slice va2 vl2 vc2) es bs rss) := fun w1 va vl vc n c H => by
  obtain ⟨hb1, hU1⟩ := H.out
  refine Calls.mono (unify_any ps v w1 B (Nat.le_trans hB hb1.size) (hv.below (hb1.mono hB) (Nat.le_refl _)) hN) ?_
  intro e w2 h
  obtain ⟨hb2, v2, n2, c2, rfl, h'⟩ := id h
  obtain ⟨e1, e2, es1, es2, bs1, bs2, rss1, rss2, hR1, hR2, hF, hl, hf⟩ := unify_one hU1 h
  subst e1 e2
  have hR1' := hR1.on (w' := w2) hb2.size fun g _ hg => hb2.block g hg
  have hA := hR1'.at (by omega)
  have hB2 := hR2.at (by omega)
  have hRx := Rx.of hR2 hl.2 hf
  obtain ⟨va2, vc2, rfl⟩ := row_len4 hR2
  exact ⟨va2, _, vc2, rfl, hb1.trans (hb2.mono hb1.size), bs1, bs2, es2, rss2, hA, hB2, hF.symm, w1.heap.size, hb1.size, hRx⟩
 have C3 : ∀ (w2 : World) (va va2 : Option Addr) (vl vc vl2 vc2 : Nat), Hid (Below w.heap.size w w2 ∧ ∃ (al bs : List Bd) (es : List Bl4) (rss : List (List (Value × Nat))), BdAt w2 w2.heap.size (.slice va vl vc) al ∧ BdAt w2 w2.heap.size (.slice va2 vl2 vc2) bs ∧ bs.map bdF = al.map bdF ∧ ∃ lo, w.heap.size ≤ lo ∧ Rx w2 lo w2.heap.size (.slice va2 vl2 vc2) es bs rss) → Calls Tryz.prog 22 #[.slice va2 vl2 vc2, .slice va vl vc] w2 fun e w3 => e = .returned (.bool true) ∧ Hid (UsP w (.returned (.tuple #[.slice va2 vl2 vc2, .bool true])) w3) := fun w2 va va2 vl vc vl2 vc2 H => by
  obtain ⟨hb2, al, bs, es, rss, hA, hB2, hF, lo, hlo, hR⟩ := H.out
  refine Calls.mono (sameBounds_true _ _ bs al w2 w2.heap.size (Nat.le_refl _) hB2 hA hF) ?_
  rintro e w3 ⟨rfl, hb3⟩
  have hR3 := hR.on (U' := w3) (fun g _ hg => hb3.block g hg) hb3.size
  exact ⟨rfl, hb2.trans (hb3.mono hb2.size), va2, vl2, vc2, lo, es, bs, rss, rfl, hlo, ⟨hR3.own, hR3.len, hR3.rlen, hR3.each, ⟨fun p hp => by obtain ⟨g, e1, e2, e3⟩ := hR3.sep.1 p hp; exact ⟨g, e1, e2, by have := hb3.size; omega⟩, hR3.sep.2⟩, hR3.away, fun g hg => ⟨(hR3.row g hg).1, by have := (hR3.row g hg).2; have := hb3.size; omega⟩, Nat.le_refl _, hR3.num⟩⟩
 clear hv hv' hN hB
 go_enter Tryz.func13, Tryz.ntmps13
 go_wp2_with (first
  | (go_at_call 33; (with_reducible refine Calls.mono C1 ?_); rintro e' w1 ⟨va1, vl1, vc1, n1, c1, rfl, H1⟩)
  | (go_at_call 10; (with_reducible refine Calls.mono (C2 _ _ _ _ _ _ H1) ?_); rintro e' w2 ⟨va2, vl2, vc2, rfl, H2⟩)
  | (go_at_call 22; (with_reducible refine Calls.mono (C3 _ _ _ _ _ _ _ H2) ?_); rintro e' w3 ⟨rfl, H3⟩))
 refine bodyPost_ret (v := .tuple #[.slice va2 vl2 vc2, .bool true]) (by simp [results, Tryz.results13, go_sem]) rfl ?_
 exact H3.out
end Go.Proofs.YtikpipenhamdbaaGreat
