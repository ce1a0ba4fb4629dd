/- Pairs in memory; what lies between the pairs of Unify. GreatPairs: its contract. -/
import Derived.Test.YtikpipenhamdbaaGreatMasx
import Derived.Test.YtikpipenhamdbaaGreatMatx
import Derived.Test.YtikpipenhamdbaaGreatMadx
namespace Go.Proofs.YtikpipenhamdbaaGreat
open Go.RowKit Go.Maps

abbrev Pr := Sigma Tn × Sigma Tn
/-- The two rows of a pair. -/
def prow (p : Pr) : List Nd × List Nd := (flat p.1.1 p.1.2, flat p.2.1 p.2.2)
/-- The value v is the row ps of pairs, in blocks below B. -/
def PrAt (w : World) (B : Nat) (v : Value) (ps : List Pr) : Prop :=
 ∃ ad cap, v = .slice ad ps.length cap ∧ ps.length < 140737488355328 ∧ (ps ≠ [] → ∃ g o, ad = some ⟨g, o, none⟩ ∧ ps.length ≤ cap ∧ g < B ∧
  ∀ j (h : j < ps.length), ∃ k n ad1 l1 c1 k' n' ad2 l2 c2, (∀ w', Below B w w' → w'.cell? ⟨g, o + j * 6, none⟩ = some (.int .i64 k) ∧ w'.cell? ⟨g, o + j * 6 + 1, none⟩ = some (.string n) ∧ w'.cell? ⟨g, o + j * 6 + 2, none⟩ = some (.slice ad1 l1 c1) ∧ w'.cell? ⟨g, o + j * 6 + 3, none⟩ = some (.int .i64 k') ∧ w'.cell? ⟨g, o + j * 6 + 4, none⟩ = some (.string n') ∧ w'.cell? ⟨g, o + j * 6 + 5, none⟩ = some (.slice ad2 l2 c2)) ∧
   TyAt w B ps[j].1.1 (.agg #[.int .i64 k, .string n, .slice ad1 l1 c1]) ps[j].1.2 ∧ TyAt w B ps[j].2.1 (.agg #[.int .i64 k', .string n', .slice ad2 l2 c2]) ps[j].2.2)
theorem PrAt.below {w w' : World} {B B' : Nat} {v : Value} {ps : List Pr} (h : PrAt w B v ps) (hb : Below B w w') (hB : B ≤ B') : PrAt w' B' v ps := by
 obtain ⟨ad, cap, hv, hl, h⟩ := h
 refine ⟨ad, cap, hv, hl, fun h0 => ?_⟩
 obtain ⟨g, o, had, hc, hg, h⟩ := h h0
 refine ⟨g, o, had, hc, by omega, fun j hj => ?_⟩
 obtain ⟨k, n, ad1, l1, c1, k', n', ad2, l2, c2, hcel, hA, hB2⟩ := h j hj
 exact ⟨k, n, ad1, l1, c1, k', n', ad2, l2, c2, fun w2 hb2 => hcel w2 (hb.trans (hb2.mono hB)), TyAt.below hb hB _ _ _ hA, TyAt.below hb hB _ _ _ hB2⟩
/-- So many pairs are laid and agree. -/
def UnS (lo G b : Nat) (w0 wr : World) (rows : List (List Nd × List Nd)) (X : Sum (Nat × Int) (List (List UInt8 × List Nd))) (i : Nat) : Prop :=
 ∃ (wk : Nat) (xs : List Gx) (D : DataW Unit) (dn : Nat → List Nd) (rt rk : Nat → Nat) (M : List (List UInt8 × List Nd)), GX wr lo G b (fun _ => False) xs D wk ∧ Mn wk xs D dn rt rk M ∧ Prs (rows.drop i) M i X ∧ Lok M ∧ xs.length ≤ 1000 * i ∧ wk + cv (lbX xs) rt xs.length ≤ xs.length ∧ Gk lo G b w0 wr
/-- The first of two is laid besides. -/
def UnA (lo G b : Nat) (w0 wr : World) (rows : List (List Nd × List Nd)) (X : Sum (Nat × Int) (List (List UInt8 × List Nd))) (i : Nat) (A : List Nd) (p : Nat) : Prop :=
 ∃ (wk : Nat) (xs : List Gx) (D : DataW Unit) (dn : Nat → List Nd) (rt rk : Nat → Nat) (M : List (List UInt8 × List Nd)), GX wr lo G b (fun _ => False) xs D wk ∧ Mn wk xs D dn rt rk M ∧ Prs (rows.drop i) M i X ∧ Lok M ∧ xs.length ≤ 1000 * i + 500 ∧ wk + cv (lbX xs) rt xs.length ≤ xs.length ∧ Gk lo G b w0 wr ∧ p < xs.length ∧ dn p = subL M A
/-- Both are. -/
def UnB (lo G b : Nat) (w0 wr : World) (rows : List (List Nd × List Nd)) (X : Sum (Nat × Int) (List (List UInt8 × List Nd))) (i : Nat) (A B : List Nd) (p q : Nat) : Prop :=
 ∃ (wk : Nat) (xs : List Gx) (D : DataW Unit) (dn : Nat → List Nd) (rt rk : Nat → Nat) (M : List (List UInt8 × List Nd)), GX wr lo G b (fun _ => False) xs D wk ∧ Mn wk xs D dn rt rk M ∧ Prs (rows.drop i) M i X ∧ Lok M ∧ xs.length ≤ 1000 * i + 1000 ∧ wk + cv (lbX xs) rt xs.length ≤ xs.length ∧ Gk lo G b w0 wr ∧ p < xs.length ∧ dn p = subL M A ∧ q < xs.length ∧ dn q = subL M B
theorem cv_laid {xs ys : List Gx} {dn dn' : Nat → List Nd} {rt rt' : Nat → Nat} {wk : Nat} (hl : xs.length ≤ ys.length) (ho : Old xs ys dn dn' rt rt') (h : wk + cv (lbX xs) rt xs.length ≤ xs.length) : wk + cv (lbX ys) rt' ys.length ≤ ys.length := by
 have := cv_more (lbX xs) (lbX ys) rt rt' xs.length (fun k hk => ⟨(ho k hk).2.2.1, (ho k hk).2.1⟩) (ys.length - xs.length)
 rw [show xs.length + (ys.length - xs.length) = ys.length by omega] at this
 omega
theorem lay_first {lo G b : Nat} {w0 W : World} {rows : List (List Nd × List Nd)} {X : Sum (Nat × Int) (List (List UInt8 × List Nd))} {i d : Nat} {x : Value} {t : Tn d} (h : UnS lo G b w0 W rows X i) (hx : TyAt w0 lo d x t) (hf : formB d t = true) (h5 : (flat d t).length ≤ 500) (hi : i < 100000) :
  Calls Tryz.prog 28 #[.pointer (some ⟨G, 0, none⟩), x] W fun e w' => ∃ p : Nat, e = .returned (.int .i64 p) ∧ Gk lo G b W w' ∧ UnA lo G b w0 w' rows X i (flat d t) p := by
 obtain ⟨wk, xs, D, dn, rt, rk, M, hX, hM, hP, hL, hn, hc, hk⟩ := h
 refine Calls.mono (lay_any w0 d x t hx hf W (fun _ => False) xs D dn rt rk hk.below (fun _ h => h.elim) hX hM (by omega)) ?_
 rintro e w' ⟨p, rfl, hk2, ys, D', dn', rt', rk', hX2, hM2, hp, hdn, hl1, hl2, ho⟩
 exact ⟨p, rfl, hk2, wk, ys, D', dn', rt', rk', M, hX2, hM2, hP, hL, by omega, cv_laid hl1 ho hc, hk.trans hk2, hp, hdn⟩
theorem lay_second {lo G b : Nat} {w0 W : World} {rows : List (List Nd × List Nd)} {X : Sum (Nat × Int) (List (List UInt8 × List Nd))} {i d p : Nat} {A : List Nd} {x : Value} {t : Tn d} (h : UnA lo G b w0 W rows X i A p) (hx : TyAt w0 lo d x t) (hf : formB d t = true) (h5 : (flat d t).length ≤ 500) (hi : i < 100000) :
  Calls Tryz.prog 28 #[.pointer (some ⟨G, 0, none⟩), x] W fun e w' => ∃ q : Nat, e = .returned (.int .i64 q) ∧ Gk lo G b W w' ∧ UnB lo G b w0 w' rows X i A (flat d t) p q := by
 obtain ⟨wk, xs, D, dn, rt, rk, M, hX, hM, hP, hL, hn, hc, hk, hp, hdp⟩ := h
 refine Calls.mono (lay_any w0 d x t hx hf W (fun _ => False) xs D dn rt rk hk.below (fun _ h => h.elim) hX hM (by omega)) ?_
 rintro e w' ⟨q, rfl, hk2, ys, D', dn', rt', rk', hX2, hM2, hq, hdn, hl1, hl2, ho⟩
 exact ⟨q, rfl, hk2, wk, ys, D', dn', rt', rk', M, hX2, hM2, hP, hL, by omega, cv_laid hl1 ho hc, hk.trans hk2, by omega, by rw [(ho p hp).1]; exact hdp, hq, hdn⟩
theorem agree_two {lo G b : Nat} {w0 W : World} {rows : List (List Nd × List Nd)} {X : Sum (Nat × Int) (List (List UInt8 × List Nd))} {i p q : Nat} {A B : List Nd} (h : UnB lo G b w0 W rows X i A B p q) (hi : i < rows.length) (hr : rows[i] = (A, B)) (hok : pok (A, B)) (hi5 : i < 100000) :
  Calls Tryz.prog 27 #[.pointer (some ⟨G, 0, none⟩), .int .i64 p, .int .i64 q] W fun e w' => ∃ c : Int, e = .returned (.int .i64 c) ∧ Gk lo G b W w' ∧ ((c ≠ 0 ∧ X = .inl (i, c) ∧ Gk lo G b w0 w') ∨ (c = 0 ∧ UnS lo G b w0 w' rows X (i + 1))) := by
 obtain ⟨wk, xs, D, dn, rt, rk, M, hX, hM, hP, hL, hn, hc, hk, hp, hdp, hq, hdq⟩ := h
 rw [List.drop_eq_getElem_cons hi, hr] at hP
 rcases hP with ⟨c, ⟨f, hu⟩, rfl⟩ | ⟨l, ⟨f, hu⟩, hP⟩
 ·have hg := Good.of hL hok ⟨f, hu⟩
  have hc0 : c ≠ 0 := by
   have := hg.1
   omega
  refine Calls.mono (agree_any hM p q hp hq W hX xs.length hc (by omega) f (.inl c) (by rw [hdp, hdq]; exact hu)) ?_
  rintro e w' ⟨hk2, ⟨c', e1, rfl⟩ | ⟨l, e1, _⟩⟩
  ·injection e1 with e1
   exact ⟨c, by rw [e1], hk2, .inl ⟨hc0, rfl, hk.trans hk2⟩⟩
  ·cases e1
 ·have hg := Good.of hL hok ⟨f, hu⟩
  refine Calls.mono (agree_any hM p q hp hq W hX xs.length hc (by omega) f (.inr l) (by rw [hdp, hdq]; exact hu)) ?_
  rintro e w' ⟨hk2, ⟨c', e1, _⟩ | ⟨l', e1, rfl, wk', ys, rt', rk', hX', hM', hl', hlb', hc'⟩⟩
  ·cases e1
  ·injection e1 with e1
   subst e1
   refine ⟨0, rfl, hk2, .inr ⟨rfl, wk', ys, D, _, rt', rk', M ++ l, hX', hM', hP, hL.more hok.1.2 hok.2.2 hg, by omega, by rw [hl'] at hc' ⊢; exact hc', hk.trans hk2⟩⟩
end Go.Proofs.YtikpipenhamdbaaGreat

namespace Go.Proofs.YtikpipenhamdbaaGreat
open Go.RowKit

/-- The trees of pairs in a row. -/
def pbs (ps : List Pr) : List Bd := ps.flatMap fun p => [([], p.1), ([], p.2)]
theorem pbs_cons (p : Pr) (ps : List Pr) : pbs (p :: ps) = ([], p.1) :: ([], p.2) :: pbs ps := rfl
theorem pbs_small {ps : List Pr} (h : greatB (pbs ps) = false) : ∀ p ∈ ps, (flat p.1.1 p.1.2).length ≤ 4194304 ∧ (flat p.2.1 p.2.2).length ≤ 4194304 := fun p hp => by
 have h0 : 0 ≤ leftB (pbs ps) 4194304 := by
  unfold greatB at h
  have := of_decide_eq_false h
  omega
 have h1 := leftB_nodes (pbs ps) 4194304 (by omega) h0 ([], p.1) (List.mem_flatMap.2 ⟨p, hp, by simp⟩)
 have h2 := leftB_nodes (pbs ps) 4194304 (by omega) h0 ([], p.2) (List.mem_flatMap.2 ⟨p, hp, by simp⟩)
 simp only at h1 h2
 omega
set_option maxHeartbeats 8000000 in
set_option maxRecDepth 10000 in
theorem greatPairs_any (v : Value) (ps : List Pr) (w : World) (B : Nat) (hB : B ≤ w.heap.size) (h : PrAt w B v ps) :
  Calls Tryz.prog 5 #[v] w fun r w' => r = .returned (.bool (greatB (pbs ps))) ∧ Below w.heap.size w w' := by
 obtain ⟨ad, cap, rfl, hla, h⟩ := h
 have HA : Hid _ := h
 have HB : Hid (B ≤ w.heap.size) := hB
 unfold greatB
 generalize hR : leftB (pbs ps) 4194304 = R
 have HR : Hid (leftB (pbs ps) 4194304 = R) := hR
 clear h hB hR
 go_enter Tryz.func5, Tryz.ntmps5
 go_wp2
 go_loopw [3, 4] (fun l i wr => ∃ (j : Nat) (lf : Int), j ≤ ps.length ∧ i = .int .i64 j ∧ l = .int .i64 lf ∧ -1 ≤ lf ∧ lf ≤ 4194304 ∧ Below w.heap.size w wr ∧ Hid (leftB (pbs (ps.drop j)) lf = R)) (fun _ i _ => ps.length - (intOf i).toNat)
 case atStart => exact ⟨0, 4194304, by omega, by go_num, by go_num, by omega, by omega, Below.refl _ _, by show leftB _ _ = R; rw [List.drop_zero]; exact HR.out⟩
 case round =>
  obtain ⟨j, lf, hj, rfl, rfl, hf0, hf1, hbel, HJ⟩ := hrel
  by_cases hlt : j < ps.length
  ·by_cases hf : 0 ≤ lf
   ·obtain ⟨g, o, rfl, _, hg, hel⟩ := HA.out (by intro e; rw [e] at hlt; simp at hlt)
    obtain ⟨k, n, ad1, l1, c1, k', n', ad2, l2, c2, hcel, T1, T2⟩ := hel j hlt
    have hBw := HB.out
    have hwB := hbel.mono hBw
    obtain ⟨p0, p1, p2, p3, p4, p5⟩ := hcel wr hwB
    have HCL : Hid (∀ w1, Below wr.heap.size wr w1 → w1.cell? ⟨g, o + j * 6, none⟩ = some (.int .i64 k) ∧ w1.cell? ⟨g, o + j * 6 + 1, none⟩ = some (.string n) ∧ w1.cell? ⟨g, o + j * 6 + 2, none⟩ = some (.slice ad1 l1 c1) ∧ w1.cell? ⟨g, o + j * 6 + 3, none⟩ = some (.int .i64 k') ∧ w1.cell? ⟨g, o + j * 6 + 4, none⟩ = some (.string n') ∧ w1.cell? ⟨g, o + j * 6 + 5, none⟩ = some (.slice ad2 l2 c2)) := fun w1 hb => hcel w1 (hwB.trans (hb.mono (Nat.le_trans hBw hbel.size)))
    have CJ := left_any _ _ _ lf 65536 wr B (by have := hbel.size; omega) (T1.on hwB) hf hf1 (by omega) (by omega)
    obtain ⟨h1, h2, _⟩ := left_range _ ps[j].1.2 lf 65536 hf
    have hws := hbel.size
    have CK : ∀ w1 (lf2 : Int), Below wr.heap.size wr w1 → 0 ≤ lf2 → lf2 ≤ 4194304 → Calls Tryz.prog 16 #[.agg #[.int .i64 k', .string n', .slice ad2 l2 c2], .int .i64 lf2, .int .i64 65536] w1 fun r w' => r = .returned (.int .i64 (leftT ps[j].2.1 ps[j].2.2 lf2 65536)) ∧ Below w1.heap.size w1 w' := fun w1 lf2 hb q0 q1 => left_any _ _ _ lf2 65536 w1 B (by have := hb.size; omega) (T2.on (hwB.trans (hb.mono (by omega)))) q0 q1 (by omega) (by omega)
    have HJ2 : Hid (∀ lf2 : Int, leftT ps[j].1.1 ps[j].1.2 lf 65536 = lf2 → leftB (pbs (ps.drop (j + 1))) (if 0 ≤ lf2 then leftT ps[j].2.1 ps[j].2.2 lf2 65536 else lf2) = R) := fun lf2 e => by
     rw [← HJ.out, List.drop_eq_getElem_cons hlt, pbs_cons, leftB_cons _ _ _ hf, e]
     by_cases q : 0 ≤ lf2
     ·rw [if_pos q, leftB_cons _ _ _ q]
     ·rw [if_neg q, leftB_low _ _ (by omega), leftB_low _ _ (by omega)]
    have HR2 : Hid (∀ lf2 : Int, 0 ≤ lf2 → -1 ≤ leftT ps[j].2.1 ps[j].2.2 lf2 65536 ∧ leftT ps[j].2.1 ps[j].2.2 lf2 65536 ≤ lf2 - 1) := fun lf2 q => by
     obtain ⟨a1, a2, _⟩ := left_range _ ps[j].2.2 lf2 65536 q
     exact ⟨a1, a2⟩
    generalize hlf2 : leftT ps[j].1.1 ps[j].1.2 lf 65536 = lf2 at CJ h1 h2 HJ2
    have HJ3 : Hid (leftB (pbs (ps.drop (j + 1))) (if 0 ≤ lf2 then leftT ps[j].2.1 ps[j].2.2 lf2 65536 else lf2) = R) := HJ2.out lf2 rfl
    have i1 : (0 : Int) ≤ (j : Int) := by omega
    have i2 : (j : Int) < (ps.length : Int) := by omega
    have hjl : j + 1 ≤ ps.length := hlt
    clear T1 T2 hcel hel HJ HJ2 hlf2
    by_cases hf2 : 0 ≤ lf2
    ·obtain ⟨a1, a2⟩ := HR2.out lf2 hf2
     have CK := fun w1 hb => CK w1 lf2 hb hf2 (by omega)
     rw [if_pos hf2] at HJ3
     generalize leftT ps[j].2.1 ps[j].2.2 lf2 65536 = lf3 at CK a1 a2 HJ3
     clear HR2
     go_wp2_with (first
      | (go_at_call 16; (with_reducible refine Calls.mono CJ ?_); rintro e' w1 ⟨rfl, hb1⟩; obtain ⟨r0, r1, r2, r3, r4, r5⟩ := HCL.out w1 hb1)
      | (go_at_call 16; (with_reducible refine Calls.mono (CK w1 hb1) ?_); rintro e' w2 ⟨rfl, hb2⟩))
     have hb3 : Below w.heap.size w w2 := hbel.trans ((hb1.mono hws).trans (hb2.mono (by have := hb1.size; omega)))
     go_roundw
     case rel => exact ⟨j + 1, lf3, hjl, by go_num, rfl, by omega, by omega, hb3, HJ3⟩
     case measure => simp [intOf]; omega
    ·rw [if_neg hf2] at HJ3
     have hf3 : ¬ (lf2 ≥ 0) := by omega
     clear HR2 CK
     go_wp2_with (go_at_call 16; (with_reducible refine Calls.mono CJ ?_); rintro e' w1 ⟨rfl, hb1⟩; obtain ⟨r0, r1, r2, r3, r4, r5⟩ := HCL.out w1 hb1)
     have hb3 : Below w.heap.size w w1 := hbel.trans (hb1.mono hws)
     go_roundw
     case rel => exact ⟨j + 1, lf2, hjl, by go_num, rfl, by omega, by omega, hb3, HJ3⟩
     case measure => simp [intOf]; omega
   ·have HE : Hid (lf = R) := by
     show lf = R
     rw [← HJ.out, leftB_low _ _ (by omega)]
    have hf2 : ¬ (lf ≥ 0) := by omega
    have hlf : lf < 0 := by omega
    have i2 : (j : Int) < (ps.length : Int) := by omega
    clear HJ
    go_wp2
    go_ret
    exact ⟨by rw [← HE.out]; simp [hlf], hbel⟩
  ·have HE : Hid (lf = R) := by
    show lf = R
    rw [← HJ.out, List.drop_eq_nil_of_le (by omega)]
    rfl
   have i2 : ¬ (j : Int) < (ps.length : Int) := by omega
   clear HJ
   go_wp2
   go_ret
   exact ⟨by rw [← HE.out]; rfl, hbel⟩
end Go.Proofs.YtikpipenhamdbaaGreat
