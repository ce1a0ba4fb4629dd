/- Pairs in memory; what lies between the pairs of Unify. -/
import Derived.Test.YtikpipenhamdbaaHj
import Derived.Test.YtikpipenhamdbaaHn
namespace Go.Proofs.Ytikpipenhamdbaa
open Go.RowKit Go.Maps

abbrev Pr := Sigma Tn × Sigma Tn
/-- The two rows of a pair. -/
def prow (p : Pr) : List Nd × List Nd := (flat p.1.1 p.1.2, flat p.2.1 p.2.2)
/-- The value v is the row ps of pairs, in blocks below B. -/
def PrAt (w : World) (B : Nat) (v : Value) (ps : List Pr) : Prop :=
  ∃ ad cap, v = .slice ad ps.length cap ∧ ps.length < 140737488355328 ∧ (ps ≠ [] → ∃ g o, ad = some ⟨g, o, none⟩ ∧ ps.length ≤ cap ∧ g < B ∧
    ∀ j (h : j < ps.length), ∃ k n ad1 l1 c1 k' n' ad2 l2 c2, (∀ w', Below B w w' → w'.cell? ⟨g, o + j * 6, none⟩ = some (.int .i64 k) ∧ w'.cell? ⟨g, o + j * 6 + 1, none⟩ = some (.string n) ∧ w'.cell? ⟨g, o + j * 6 + 2, none⟩ = some (.slice ad1 l1 c1) ∧ w'.cell? ⟨g, o + j * 6 + 3, none⟩ = some (.int .i64 k') ∧ w'.cell? ⟨g, o + j * 6 + 4, none⟩ = some (.string n') ∧ w'.cell? ⟨g, o + j * 6 + 5, none⟩ = some (.slice ad2 l2 c2)) ∧
      TyAt w B ps[j].1.1 (.agg #[.int .i64 k, .string n, .slice ad1 l1 c1]) ps[j].1.2 ∧ TyAt w B ps[j].2.1 (.agg #[.int .i64 k', .string n', .slice ad2 l2 c2]) ps[j].2.2)
theorem PrAt.below {w w' : World} {B B' : Nat} {v : Value} {ps : List Pr} (h : PrAt w B v ps) (hb : Below B w w') (hB : B ≤ B') : PrAt w' B' v ps := by
  obtain ⟨ad, cap, hv, hl, h⟩ := h
  refine ⟨ad, cap, hv, hl, fun h0 => ?_⟩
  obtain ⟨g, o, had, hc, hg, h⟩ := h h0
  refine ⟨g, o, had, hc, by omega, fun j hj => ?_⟩
  obtain ⟨k, n, ad1, l1, c1, k', n', ad2, l2, c2, hcel, hA, hB2⟩ := h j hj
  exact ⟨k, n, ad1, l1, c1, k', n', ad2, l2, c2, fun w2 hb2 => hcel w2 (hb.trans (hb2.mono hB)), TyAt.below hb hB _ _ _ hA, TyAt.below hb hB _ _ _ hB2⟩
/-- So many pairs are laid and agree. -/
def UnS (lo G b : Nat) (w0 wr : World) (rows : List (List Nd × List Nd)) (X : Sum (Nat × Int) (List (List UInt8 × List Nd))) (i : Nat) : Prop :=
  ∃ (wk : Nat) (xs : List Gx) (D : DataW Unit) (dn : Nat → List Nd) (rt rk : Nat → Nat) (M : List (List UInt8 × List Nd)), GX wr lo G b (fun _ => False) xs D wk ∧ Mn wk xs D dn rt rk M ∧ Prs (rows.drop i) M i X ∧ Lok M ∧ xs.length ≤ 1000 * i ∧ wk + cv (lbX xs) rt xs.length ≤ xs.length ∧ Gk lo G b w0 wr
/-- The first of two is laid besides. -/
def UnA (lo G b : Nat) (w0 wr : World) (rows : List (List Nd × List Nd)) (X : Sum (Nat × Int) (List (List UInt8 × List Nd))) (i : Nat) (A : List Nd) (p : Nat) : Prop :=
  ∃ (wk : Nat) (xs : List Gx) (D : DataW Unit) (dn : Nat → List Nd) (rt rk : Nat → Nat) (M : List (List UInt8 × List Nd)), GX wr lo G b (fun _ => False) xs D wk ∧ Mn wk xs D dn rt rk M ∧ Prs (rows.drop i) M i X ∧ Lok M ∧ xs.length ≤ 1000 * i + 500 ∧ wk + cv (lbX xs) rt xs.length ≤ xs.length ∧ Gk lo G b w0 wr ∧ p < xs.length ∧ dn p = subL M A
/-- Both are. -/
def UnB (lo G b : Nat) (w0 wr : World) (rows : List (List Nd × List Nd)) (X : Sum (Nat × Int) (List (List UInt8 × List Nd))) (i : Nat) (A B : List Nd) (p q : Nat) : Prop :=
  ∃ (wk : Nat) (xs : List Gx) (D : DataW Unit) (dn : Nat → List Nd) (rt rk : Nat → Nat) (M : List (List UInt8 × List Nd)), GX wr lo G b (fun _ => False) xs D wk ∧ Mn wk xs D dn rt rk M ∧ Prs (rows.drop i) M i X ∧ Lok M ∧ xs.length ≤ 1000 * i + 1000 ∧ wk + cv (lbX xs) rt xs.length ≤ xs.length ∧ Gk lo G b w0 wr ∧ p < xs.length ∧ dn p = subL M A ∧ q < xs.length ∧ dn q = subL M B
theorem cv_laid {xs ys : List Gx} {dn dn' : Nat → List Nd} {rt rt' : Nat → Nat} {wk : Nat} (hl : xs.length ≤ ys.length) (ho : Old xs ys dn dn' rt rt') (h : wk + cv (lbX xs) rt xs.length ≤ xs.length) : wk + cv (lbX ys) rt' ys.length ≤ ys.length := by
  have := cv_more (lbX xs) (lbX ys) rt rt' xs.length (fun k hk => ⟨(ho k hk).2.2.1, (ho k hk).2.1⟩) (ys.length - xs.length)
  rw [show xs.length + (ys.length - xs.length) = ys.length by omega] at this
  omega
theorem lay_first {lo G b : Nat} {w0 W : World} {rows : List (List Nd × List Nd)} {X : Sum (Nat × Int) (List (List UInt8 × List Nd))} {i d : Nat} {x : Value} {t : Tn d} (h : UnS lo G b w0 W rows X i) (hx : TyAt w0 lo d x t) (hf : formB d t = true) (h5 : (flat d t).length ≤ 500) (hi : i < 100000) :
    Calls Try.prog 18 #[.pointer (some ⟨G, 0, none⟩), x] W fun e w' => ∃ p : Nat, e = .returned (.int .i64 p) ∧ Gk lo G b W w' ∧ UnA lo G b w0 w' rows X i (flat d t) p := by
  obtain ⟨wk, xs, D, dn, rt, rk, M, hX, hM, hP, hL, hn, hc, hk⟩ := h
  refine Calls.mono (lay_any w0 d x t hx hf W (fun _ => False) xs D dn rt rk hk.below (fun _ h => h.elim) hX hM (by omega)) ?_
  rintro e w' ⟨p, rfl, hk2, ys, D', dn', rt', rk', hX2, hM2, hp, hdn, hl1, hl2, ho⟩
  exact ⟨p, rfl, hk2, wk, ys, D', dn', rt', rk', M, hX2, hM2, hP, hL, by omega, cv_laid hl1 ho hc, hk.trans hk2, hp, hdn⟩
theorem lay_second {lo G b : Nat} {w0 W : World} {rows : List (List Nd × List Nd)} {X : Sum (Nat × Int) (List (List UInt8 × List Nd))} {i d p : Nat} {A : List Nd} {x : Value} {t : Tn d} (h : UnA lo G b w0 W rows X i A p) (hx : TyAt w0 lo d x t) (hf : formB d t = true) (h5 : (flat d t).length ≤ 500) (hi : i < 100000) :
    Calls Try.prog 18 #[.pointer (some ⟨G, 0, none⟩), x] W fun e w' => ∃ q : Nat, e = .returned (.int .i64 q) ∧ Gk lo G b W w' ∧ UnB lo G b w0 w' rows X i A (flat d t) p q := by
  obtain ⟨wk, xs, D, dn, rt, rk, M, hX, hM, hP, hL, hn, hc, hk, hp, hdp⟩ := h
  refine Calls.mono (lay_any w0 d x t hx hf W (fun _ => False) xs D dn rt rk hk.below (fun _ h => h.elim) hX hM (by omega)) ?_
  rintro e w' ⟨q, rfl, hk2, ys, D', dn', rt', rk', hX2, hM2, hq, hdn, hl1, hl2, ho⟩
  exact ⟨q, rfl, hk2, wk, ys, D', dn', rt', rk', M, hX2, hM2, hP, hL, by omega, cv_laid hl1 ho hc, hk.trans hk2, by omega, by rw [(ho p hp).1]; exact hdp, hq, hdn⟩
theorem agree_two {lo G b : Nat} {w0 W : World} {rows : List (List Nd × List Nd)} {X : Sum (Nat × Int) (List (List UInt8 × List Nd))} {i p q : Nat} {A B : List Nd} (h : UnB lo G b w0 W rows X i A B p q) (hi : i < rows.length) (hr : rows[i] = (A, B)) (hok : pok (A, B)) (hi5 : i < 100000) :
    Calls Try.prog 17 #[.pointer (some ⟨G, 0, none⟩), .int .i64 p, .int .i64 q] W fun e w' => ∃ c : Int, e = .returned (.int .i64 c) ∧ Gk lo G b W w' ∧ ((c ≠ 0 ∧ X = .inl (i, c) ∧ Gk lo G b w0 w') ∨ (c = 0 ∧ UnS lo G b w0 w' rows X (i + 1))) := by
  obtain ⟨wk, xs, D, dn, rt, rk, M, hX, hM, hP, hL, hn, hc, hk, hp, hdp, hq, hdq⟩ := h
  rw [List.drop_eq_getElem_cons hi, hr] at hP
  rcases hP with ⟨c, ⟨f, hu⟩, rfl⟩ | ⟨l, ⟨f, hu⟩, hP⟩
  · have hg := Good.of hL hok ⟨f, hu⟩
    have hc0 : c ≠ 0 := by
      have := hg.1
      omega
    refine Calls.mono (agree_any hM p q hp hq W hX xs.length hc (by omega) f (.inl c) (by rw [hdp, hdq]; exact hu)) ?_
    rintro e w' ⟨hk2, ⟨c', e1, rfl⟩ | ⟨l, e1, _⟩⟩
    · injection e1 with e1
      exact ⟨c, by rw [e1], hk2, .inl ⟨hc0, rfl, hk.trans hk2⟩⟩
    · cases e1
  · have hg := Good.of hL hok ⟨f, hu⟩
    refine Calls.mono (agree_any hM p q hp hq W hX xs.length hc (by omega) f (.inr l) (by rw [hdp, hdq]; exact hu)) ?_
    rintro e w' ⟨hk2, ⟨c', e1, _⟩ | ⟨l', e1, rfl, wk', ys, rt', rk', hX', hM', hl', hlb', hc'⟩⟩
    · cases e1
    · injection e1 with e1
      subst e1
      refine ⟨0, rfl, hk2, .inr ⟨rfl, wk', ys, D, _, rt', rk', M ++ l, hX', hM', hP, hL.more hok.1.2 hok.2.2 hg, by omega, by rw [hl'] at hc' ⊢; exact hc', hk.trans hk2⟩⟩
end Go.Proofs.Ytikpipenhamdbaa
