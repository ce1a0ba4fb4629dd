/- The graph: what a step of agree makes of what it means. The graph: the contract of agree. -/
import Derived.Test.YtikpipenhamdbaaGreatHh
import Derived.Test.YtikpipenhamdbaaGreatMamx
import Derived.Test.YtikpipenhamdbaaGreatMakx
import Derived.Deep.LoopGhost
namespace Go.Proofs.YtikpipenhamdbaaGreat
open Go.RowKit Go.Maps

/-- A node is led to another one: where nodes lead then. -/
def ledR (rt : Nat → Nat) (i t : Nat) : Nat → Nat := fun k => if rt k = i then t else rt k
def ledK (rt rk : Nat → Nat) (i t : Nat) : Nat → Nat := fun k => if rt k = i then rk k + rk t + 1 else rk k
/-- Nodes of the same names, arguments; led; marked. -/
structure Led (xs zs : List Gx) (i t : Nat) : Prop where
 len : zs.length = xs.length
 lb : lbX zs = lbX xs
 ar : arX zs = arX xs
 tg : tgX zs = putN (tgX xs) i t
theorem inB_eq (xs : List Gx) {i : Nat} (hi : i < xs.length) (c : Bool) : (inB xs i c).length = xs.length ∧ lbX (inB xs i c) = lbX xs ∧ arX (inB xs i c) = arX xs ∧ tgX (inB xs i c) = tgX xs ∧ wkX (inB xs i c) = wkX xs ∧ ∀ j, inX (inB xs i c) j = if j = i then c else inX xs j := by
 have key := getD_mod xs (fun x => { x with ins := c }) hi
 refine ⟨by simp [inB], ?_, ?_, ?_, ?_, ?_⟩
 ·funext j; simp only [inB, lbX, key]; split <;> rfl
 ·funext j; simp only [inB, arX, key]; split <;> rfl
 ·funext j; simp only [inB, tgX, key]; split <;> rfl
 ·funext j; simp only [inB, wkX, key]; split <;> rfl
 ·intro j; simp only [inB, inX, key]; split <;> rfl
theorem Led.to (xs : List Gx) {i : Nat} (hi : i < xs.length) (t : Nat) : Led xs (toX xs i t) i t := by
 obtain ⟨e, e2⟩ := toX_eqg xs hi t
 exact ⟨e.len, e.lb, e.ar, e2⟩
theorem Led.join (xs : List Gx) {i t : Nat} (hi : i < xs.length) (ht : t < xs.length) : Led xs (joinX xs i t) i t := by
 obtain ⟨e, e2⟩ := toX_eqg xs hi t
 have ht' : t < (toX xs i t).length := by rw [e.len]; exact ht
 obtain ⟨f1, f2, f3, f4, _, _⟩ := inB_eq (toX xs i t) ht' (inX xs t || inX xs i)
 exact ⟨f1.trans e.len, f2.trans e.lb, f3.trans e.ar, f4.trans e2⟩
/-- A variable is bound. -/
theorem Mn.bound {wk wk' : Nat} {xs zs : List Gx} {D : DataW Unit} {dn : Nat → List Nd} {rt rk : Nat → Nat} {L : List (List UInt8 × List Nd)} (h : Mn wk xs D dn rt rk L) {i t : Nat} (hi : i < xs.length) (ht : t < xs.length) (hii : tgX xs i = i) (htt : tgX xs t = t) (hv : (lbX xs i).1 = 2) (ho : ((2, (lbX xs i).2, 0) : Nd) ∉ dn t) (led : Led xs zs i t) (hw : ∀ q, wkX zs q ≤ wk') (hm : ∀ q, q < xs.length → inX xs q = true → inX zs q = true) (hm2 : (lbX xs t).1 = 2 → inX xs i = true → inX zs t = true) :
  Mn wk' zs D (fun k => subF (one (lbX xs i).2 (dn t)) (dn k)) (ledR rt i t) (ledK rt rk i t) (L ++ [((lbX xs i).2, dn t)]) := by
 have den := Den.bind h.den hi ht hii htt hv ho
 refine ⟨by unfold DenX; rw [led.len, led.lb, led.ar, led.tg]; exact den, ?_, h.vm.eqg led.len led.lb, hw, by rw [led.ar]; exact h.few, ?_⟩
 ·rw [led.len, led.lb, led.ar]
  intro j hj a ha h2
  have haL := Den.arg h.den j hj a ha
  unfold ledR at h2 ⊢
  by_cases q : rt a = i
  ·rw [if_pos q] at h2 ⊢
   exact hm2 h2 (by rw [← q]; exact h.mrk j hj a ha (by rw [q]; exact hv))
  ·rw [if_neg q] at h2 ⊢
   exact hm _ (Den.rt_lt h.den haL) (h.mrk j hj a ha h2)
 ·refine ⟨fun j hj h2 => ?_, fun c hc => ?_⟩
  ·rw [led.len] at hj
   rw [led.lb] at h2 ⊢
   rw [subL_two, ← h.vb.dn j hj h2]
   rfl
  ·rw [led.len, led.lb]
   rcases List.mem_append.1 hc with hc | hc
   ·exact h.vb.low c hc
   ·rw [List.mem_singleton.1 hc]
    exact ⟨i, hi, by rw [← hv]⟩
/-- Two nodes are made one. -/
theorem Mn.met {wk : Nat} {xs zs : List Gx} {D : DataW Unit} {dn : Nat → List Nd} {rt rk : Nat → Nat} {L : List (List UInt8 × List Nd)} (h : Mn wk xs D dn rt rk L) {i t : Nat} (hi : i < xs.length) (ht : t < xs.length) (hii : tgX xs i = i) (htt : tgX xs t = t) (hne : i ≠ t) (hd : dn i = dn t) (hv : (lbX xs t).1 ≠ 2) (led : Led xs zs i t) (hw : wkX zs = wkX xs) (hm : inX zs = inX xs) :
  Mn wk zs D dn (ledR rt i t) (ledK rt rk i t) L := by
 have den := Den.meet h.den hi ht hii htt hne hd
 refine ⟨by unfold DenX; rw [led.len, led.lb, led.ar, led.tg]; exact den, ?_, h.vm.eqg led.len led.lb, by rw [hw]; exact h.wm, by rw [led.ar]; exact h.few, h.vb.eqg led.len led.lb⟩
 rw [led.len, led.lb, led.ar, hm]
 intro j hj a ha h2
 unfold ledR at h2 ⊢
 by_cases q : rt a = i
 ·rw [if_pos q] at h2
  exact absurd h2 hv
 ·rw [if_neg q] at h2 ⊢
  exact h.mrk j hj a ha h2
theorem cv_bound {n : Nat} {lb : Nat → Int × List UInt8} {ar : Nat → List Nat} {tg : Nat → Nat} {dn : Nat → List Nd} {rt rk : Nat → Nat} (h : Den n lb ar tg dn rt rk) {i t : Nat} (hi : i < n) (ht : t < n) (hii : tg i = i) (htt : tg t = t) (hne : i ≠ t) (hv : (lb i).1 = 2) : cv lb (ledR rt i t) n + 1 ≤ cv lb rt n := by
 have e1 := (h.root i hi hii).1
 have e2 := (h.root t ht htt).1
 refine cv_less lb rt (ledR rt i t) i hv e1 ?_ (fun k hk e => ⟨e.1, ?_⟩) n hi
 ·unfold ledR
  rw [if_pos e1]
  exact Ne.symm hne
 ·have e := e.2
  unfold ledR at e
  split at e
  ·rw [← e]
   exact e2
  ·exact e
theorem cv_met {n : Nat} {lb : Nat → Int × List UInt8} {ar : Nat → List Nat} {tg : Nat → Nat} {dn : Nat → List Nd} {rt rk : Nat → Nat} (h : Den n lb ar tg dn rt rk) {i t : Nat} (ht : t < n) (htt : tg t = t) : cv lb (ledR rt i t) n ≤ cv lb rt n := by
 have e2 := (h.root t ht htt).1
 refine cv_mono lb lb rt (ledR rt i t) n fun k hk e => ⟨e.1, ?_⟩
 have e := e.2
 unfold ledR at e
 split at e
 ·rw [← e]
  exact e2
 ·exact e
end Go.Proofs.YtikpipenhamdbaaGreat

namespace Go.Proofs.YtikpipenhamdbaaGreat
open Go.RowKit Go.Maps

def tkT (t : Tk) : Nat × Nat × Bool := (t.a, t.b, t.done)
/-- What was bound ahead, and the answer of what is left. -/
def comb (acc : List (List UInt8 × List Nd)) : Uans → Uans
 | .inl c => .inl c
 | .inr l => .inr (acc ++ l)
theorem comb_put (acc : List (List UInt8 × List Nd)) (c : List UInt8 × List Nd) (y : Uans) : comb acc (putU c y) = comb (acc ++ [c]) y := by
 cases y with
 | inl e => rfl
 | inr l => simp [comb, putU]
/-- Between the rounds of agree. -/
structure AgS (lo G b : Nat) (w wr : World) (v : Value) (n : Nat) (lb : Nat → Int × List UInt8) (D : DataW Unit) (dn : Nat → List Nd) (L : List (List UInt8 × List Nd)) (K : Nat) (x : Uans) (wk : Nat) (ys : List Gx) (rt rk : Nat → Nat) (acc : List (List UInt8 × List Nd)) (y : Uans) (f : Nat) (ts : List Tk) : Prop where
 r : AgR lo G b wk w wr v (ts.reverse.map tkT) ys D
 m : Mn wk ys D (fun k => subL acc (dn k)) rt rk (L ++ acc)
 d : Dok ys.length (fun k => subL acc (dn k)) [] [] ts
 nest : Nest (fun k => subL acc (dn k)) ts
 few : Few ts
 u : uniF f (rowA (fun k => subL acc (dn k)) ts) (rowB (fun k => subL acc (dn k)) ts) = some y
 x : x = comb acc y
 len : ys.length = n
 lb : lbX ys = lb
 c : wk + cv (lbX ys) rt ys.length ≤ K
/-- A variable was bound. -/
theorem AgS.bound {lo G b wk0 wk wk' n K f2 ta tb i t : Nat} {w W : World} {v : Value} {zs us : List Gx} {lb : Nat → Int × List UInt8} {D : DataW Unit} {dn : Nat → List Nd} {rt rk : Nat → Nat} {L acc : List (List UInt8 × List Nd)} {x y y2 : Uans} {ts : List Tk} (M3 : Mn wk0 zs D (fun k => subL acc (dn k)) rt rk (L ++ acc)) (hDok : Dok zs.length (fun k => subL acc (dn k)) [] [] (⟨ta, tb, false⟩ :: ts)) (hNest : Nest (fun k => subL acc (dn k)) ts) (hFew : Few ts) (hx : x = comb acc y) (hlen : zs.length = n) (hlb : lbX zs = lb) (hcv : wk + cv (lbX zs) rt zs.length ≤ K)
  (hit : (rt ta = i ∧ rt tb = t) ∨ (rt ta = t ∧ rt tb = i)) (hi : i < zs.length) (ht : t < zs.length) (hii : tgX zs i = i) (htt : tgX zs t = t) (hne : i ≠ t) (hv : (lbX zs i).1 = 2) (ho : ((2, (lbX zs i).2, 0) : Nd) ∉ subL acc (dn t)) (led : Led zs us i t) (hw : ∀ q, wkX us q ≤ wk') (hm : ∀ q, q < zs.length → inX zs q = true → inX us q = true) (hm2 : (lbX zs t).1 = 2 → inX zs i = true → inX us t = true) (hwk : wk' ≤ wk + 1)
  (R4 : AgR lo G b wk' w W v (ts.reverse.map tkT) us D) (hy : y = putU ((lbX zs i).2, subL acc (dn t)) y2) (hu2 : uniF f2 (rowA (fun k => subF (one (lbX zs i).2 (subL acc (dn t))) (subL acc (dn k))) ts) (rowB (fun k => subF (one (lbX zs i).2 (subL acc (dn t))) (subL acc (dn k))) ts) = some y2) :
  AgS lo G b w W v n lb D dn L K x wk' us (ledR rt i t) (ledK rt rk i t) (acc ++ [((lbX zs i).2, subL acc (dn t))]) y2 f2 ts := by
 have e : (fun k => subL (acc ++ [((lbX zs i).2, subL acc (dn t))]) (dn k)) = fun k => subF (one (lbX zs i).2 (subL acc (dn t))) (subL acc (dn k)) := funext fun k => subL_two _ _ _
 obtain ⟨_, _, _, hd⟩ := Den.r_bound M3.den hDok hit hv ho
 have M4 := M3.bound hi ht hii htt hv ho led hw hm hm2
 have hc := cv_bound M3.den hi ht hii htt hne hv
 refine ⟨R4, by rw [e, ← List.append_assoc]; exact M4, by rw [e, led.len]; exact hd, by rw [e]; exact hNest.sub _, hFew, by rw [e]; exact hu2, by rw [hx, hy, comb_put], by rw [led.len]; exact hlen, by rw [led.lb]; exact hlb, ?_⟩
 rw [led.lb, led.len]
 omega
theorem joinX_in (xs : List Gx) {i t : Nat} (hi : i < xs.length) (ht : t < xs.length) : (∀ j, inX (joinX xs i t) j = if j = t then (inX xs t || inX xs i) else inX xs j) ∧ wkX (joinX xs i t) = wkX xs := by
 obtain ⟨e, _⟩ := toX_eqg xs hi t
 have ht' : t < (toX xs i t).length := by rw [e.len]; exact ht
 obtain ⟨_, _, _, _, f5, f6⟩ := inB_eq (toX xs i t) ht' (inX xs t || inX xs i)
 exact ⟨fun j => by unfold joinX; rw [f6, e.ins], by unfold joinX; rw [f5, e.wk]⟩
theorem joinX_mono (xs : List Gx) {i t : Nat} (hi : i < xs.length) (ht : t < xs.length) : (∀ q, q < xs.length → inX xs q = true → inX (joinX xs i t) q = true) ∧ (inX xs i = true → inX (joinX xs i t) t = true) := by
 obtain ⟨q1, _⟩ := joinX_in xs hi ht
 refine ⟨fun q _ hq => ?_, fun hq => by rw [q1, if_pos rfl, hq, Bool.or_true]⟩
 rw [q1]
 split
 ·rename_i e
  rw [← e, hq, Bool.true_or]
 ·exact hq
/-- What agree answers, and what it leaves. -/
def AgreeP (lo G b : Nat) (w : World) (n : Nat) (lb : Nat → Int × List UInt8) (D : DataW Unit) (dn : Nat → List Nd) (L : List (List UInt8 × List Nd)) (K : Nat) (x : Uans) (e : Ending) (w' : World) : Prop :=
 Gk lo G b w w' ∧ ((∃ c, x = .inl c ∧ e = .returned (.int .i64 c)) ∨ ∃ l, x = .inr l ∧ e = .returned (.int .i64 0) ∧ ∃ wk ys rt rk, GX w' lo G b (fun _ => False) ys D wk ∧ Mn wk ys D (fun k => subL l (dn k)) rt rk (L ++ l) ∧ ys.length = n ∧ lbX ys = lb ∧ wk + cv (lbX ys) rt ys.length ≤ K)
/-- bind has been asked. -/
theorem bind_step {lo G b wk n K f ta tb i t gk : Nat} {w W w' : World} {v : Value} {e : Ending} {zs : List Gx} {lb : Nat → Int × List UInt8} {D : DataW Unit} {dn : Nat → List Nd} {rt rk : Nat → Nat} {L acc : List (List UInt8 × List Nd)} {x y : Uans} {ts : List Tk} (M3 : Mn wk zs D (fun k => subL acc (dn k)) rt rk (L ++ acc)) (hDok : Dok zs.length (fun k => subL acc (dn k)) [] [] (⟨ta, tb, false⟩ :: ts)) (hNest : Nest (fun k => subL acc (dn k)) ts) (hFew : Few ts) (hx : x = comb acc y) (hlen : zs.length = n) (hlb : lbX zs = lb) (hcv : wk + cv (lbX zs) rt zs.length ≤ K)
  (hit : (rt ta = i ∧ rt tb = t) ∨ (rt ta = t ∧ rt tb = i)) (hi : i < zs.length) (ht : t < zs.length) (hri : rt i = i) (hrt : rt t = t) (hne : i ≠ t) (hv : (lbX zs i).1 = 2) (hnv : (lbX zs t).1 ≠ 2) (hmu : 8 * f + (ts.length + 1) ≤ gk) (hG : G < w.heap.size ∧ b < w.heap.size) (R3 : AgR lo G b wk w W v (ts.reverse.map tkT) zs D)
  (hub : if ((2, (lbX zs i).2, 0) : Nd) ∈ subL acc (dn t) then y = .inl 51 else ∃ g y2, g < f ∧ y = putU ((lbX zs i).2, subL acc (dn t)) y2 ∧ uniF g (rowA (fun k => subF (one (lbX zs i).2 (subL acc (dn t))) (subL acc (dn k))) ts) (rowB (fun k => subF (one (lbX zs i).2 (subL acc (dn t))) (subL acc (dn k))) ts) = some y2)
  (hb : BindP lo G b wk (fun _ => False) zs D (fun k => subL acc (dn k)) rt rk i t W e w') :
  (e = .returned (.int .i64 51) ∧ Hid (∀ w2, Sm w' w2 → AgreeP lo G b w n lb D dn L K x (.returned (.int .i64 51)) w2)) ∨ (e = .returned (.int .i64 0) ∧ Hid (∃ wk' us rt' rk' acc' y2 f2, 8 * f2 + ts.length < gk ∧ ∀ w2, Sm w' w2 → AgS lo G b w w2 v n lb D dn L K x wk' us rt' rk' acc' y2 f2 ts)) := by
 obtain ⟨hk, ⟨rfl, ho⟩ | ⟨rfl, ho, us, wk', hw1, hw2, hx4, hd4, hl4, hlb4, har4, hin4, hwk4⟩⟩ := hb
 ·refine .inl ⟨rfl, fun w2 s2 => ⟨(R3.gk.trans hk).trans (Gk.of_sm s2), .inl ⟨51, ?_, rfl⟩⟩⟩
  rw [if_pos ho] at hub
  rw [hx, hub]
  rfl
 ·rw [if_neg ho] at hub
  obtain ⟨f2, y2, h1, h2, h3⟩ := hub
  have M5 : Mn wk' us D (fun k => subL acc (dn k)) rt rk (L ++ acc) := ⟨hd4, by rw [hl4, hlb4, har4, hin4]; exact M3.mrk, M3.vm.eqg hl4 hlb4, hwk4, by rw [har4]; exact M3.few, M3.vb.eqg hl4 hlb4⟩
  have hi' : i < us.length := by rw [hl4]; exact hi
  have ht' : t < us.length := by rw [hl4]; exact ht
  have hti : tgX us i = i := by have := Den.rt_tg hd4 hi'; rw [hri] at this; exact this
  have htt : tgX us t = t := by have := Den.rt_tg hd4 ht'; rw [hrt] at this; exact this
  obtain ⟨g1, g2⟩ := toX_eqg us hi' t
  have key : ∀ w2, Sm w' w2 → AgS lo G b w w2 v n lb D dn L K x wk' (toX us i t) (ledR rt i t) (ledK rt rk i t) (acc ++ [((lbX us i).2, subL acc (dn t))]) y2 f2 ts := fun w2 s2 =>
   AgS.bound (wk := wk) M5 (by rw [hl4]; exact hDok) hNest hFew hx (hl4.trans hlen) (hlb4.trans hlb) (by rw [hlb4, hl4]; exact hcv) hit hi' ht' hti htt hne (by rw [hlb4]; exact hv) (by rw [hlb4]; exact ho) (Led.to us hi' t) (by rw [g1.wk]; exact hwk4) (fun q _ hq => by rw [g1.ins]; exact hq) (fun q => absurd (by rw [hlb4] at q; exact q) hnv) hw2 ((R3.next hG hk hx4).sm hG s2) (by rw [hlb4]; exact h2) (by rw [hlb4]; exact h3)
  exact .inr ⟨rfl, wk', _, _, _, _, y2, f2, by omega, key⟩
/-- An argument of a node, in memory. -/
theorem GX.argAt {w : World} {lo G b wk : Nat} {R : Nat → Prop} {xs : List Gx} {D : DataW Unit} (h : GX w lo G b R xs D wk) {i : Nat} (hi : i < xs.length) {g cap : Nat} (c0 : w.cell? ⟨G, 0, none⟩ = some (.slice (some ⟨g, 0, none⟩) xs.length cap)) {j : Nat} (hj : j < (arX xs i).length) :
  ∃ ga, w.cell? ⟨g, i * 6 + 2, none⟩ = some (.slice (some ⟨ga, 0, none⟩) (arX xs i).length (arX xs i).length) ∧ w.cell? ⟨ga, j, none⟩ = some (.int .i64 ((arX xs i)[j] : Nat)) := by
 have e2 : xs[i].ar = arX xs i := by unfold arX; rw [getD_at hi]
 obtain ⟨v, ns, rfl, hG, hr⟩ := h
 have hi' : i < ns.length := by simpa using hi
 rw [List.length_map] at c0
 obtain ⟨g', cap', hv, _, _, _, ⟨c0', _, _⟩, ⟨n0, n1, n2, n3, n4, n5⟩, _⟩ := hG.cells hi'
 rw [c0] at c0'
 have eg := slice_block c0'
 subst eg
 have ea : ns[i].ar = arX (ns.map Gn.st) i := by rw [← e2]; simp [Gn.st]
 have n2 : w.cell? ⟨g, i * 6 + 2, none⟩ = some (.slice ns[i].ad ns[i].ar.length ns[i].ar.length) := n2
 rw [ea] at n2
 rcases hG.arg ns[i] (List.getElem_mem hi') with q | ⟨g2, q1, _, q3⟩
 ·rw [ea] at q
  rw [q] at hj
  simp at hj
 ·refine ⟨g2, by rw [n2, q1], ?_⟩
  rw [ea] at q3
  simp only [World.cell?, q3]
  simp [List.getElem?_eq_getElem hj]
theorem GX.c0_keep {w w' : World} {lo G b wk : Nat} {R : Nat → Prop} {xs : List Gx} {D : DataW Unit} (h : GX w lo G b R xs D wk) (hk : ∀ (k : Nat) (o : Obj), w.heap[k]? = some o → (∀ c fz, o ≠ .cells c 91 fz) → w'.heap[k]? = some o) : w'.cell? ⟨G, 0, none⟩ = w.cell? ⟨G, 0, none⟩ := by
 obtain ⟨v, ns, rfl, hG, hr⟩ := h
 refine World.cell?_of_block (w := w) ?_
 rw [hk _ _ hG.box (by intro c fz e; exact absurd (cells_ty (congrArg some e)) (by decide)), hG.box]
theorem pair_len : ∀ aL bL : List Nat, aL.length = bL.length → (pairTs aL bL).length = aL.length
 | [], _, _ => rfl
 | _ :: _, [], h => by simp at h
 | _ :: aL, _ :: bL, h => by simp [pairTs, pair_len aL bL (by simpa using h)]
theorem pair_get : ∀ (aL bL : List Nat) (j : Nat) (h : j < aL.length) (h' : j < bL.length) (h2 : j < (pairTs aL bL).length), (pairTs aL bL)[j] = ⟨aL[j], bL[j], false⟩
 | [], _, j, h, _, _ => by simp at h
 | _ :: _, [], j, _, h', _ => by simp at h'
 | _ :: _, _ :: _, 0, _, _, _ => rfl
 | _ :: aL, _ :: bL, j + 1, h, h', h2 => by
  have := pair_get aL bL j (by simpa using h) (by simpa using h') (by simpa [pairTs] using h2)
  simpa [pairTs] using this
/-- The stack with the pairs from m on. -/
def stk (ts : List Tk) (ra rb : Nat) (ps : List Tk) (m : Nat) : List (Nat × Nat × Bool) := ts.reverse.map tkT ++ [(ra, rb, true)] ++ (ps.drop m).reverse.map tkT
theorem stk_more (ts : List Tk) (ra rb : Nat) (ps : List Tk) (m : Nat) (h : m < ps.length) : stk ts ra rb ps m = stk ts ra rb ps (m + 1) ++ [tkT ps[m]] := by
 unfold stk
 rw [List.drop_eq_getElem_cons h, List.reverse_cons, List.map_append, ← List.append_assoc]
 rfl
theorem stk_len (ts : List Tk) (ra rb : Nat) (ps : List Tk) (m : Nat) : (stk ts ra rb ps m).length = ts.length + 1 + (ps.length - m) := by
 simp [stk]
 omega
theorem stk_end (ts : List Tk) (ra rb : Nat) (ps : List Tk) : stk ts ra rb ps ps.length = ts.reverse.map tkT ++ [(ra, rb, true)] := by
 simp [stk]
theorem stk_all (ts : List Tk) (ra rb : Nat) (ps : List Tk) : stk ts ra rb ps 0 = (ps ++ ⟨ra, rb, true⟩ :: ts).reverse.map tkT := by
 simp [stk, tkT]
set_option maxHeartbeats 16000000 in
set_option maxRecDepth 10000 in
theorem agree_any {lo G b wk : Nat} {xs : List Gx} {D : DataW Unit} {dn : Nat → List Nd} {rt rk : Nat → Nat} {L : List (List UInt8 × List Nd)} (hM : Mn wk xs D dn rt rk L) (p q : Nat) (hp : p < xs.length) (hq : q < xs.length) (w : World) (h : GX w lo G b (fun _ => False) xs D wk) (K : Nat) (hc : wk + cv (lbX xs) rt xs.length ≤ K) (hK : K ≤ 200000000) (f : Nat) (x : Uans) (hu : uniF f (dn p) (dn q) = some x) :
  Calls Tryz.prog 27 #[.pointer (some ⟨G, 0, none⟩), .int .i64 p, .int .i64 q] w fun e w' => AgreeP lo G b w xs.length (lbX xs) D dn L K x e w' := by
 have hl := h.num
 have hGb : G < w.heap.size ∧ b < w.heap.size := hl.2.2
 have hb0 := (Below.refl w.heap.size w).alloc (Nat.le_refl _) (Obj.cells #[.int .i64 p, .int .i64 q, .bool false] 91)
 have S0 : AgS lo G b w (w.alloc (Obj.cells #[.int .i64 p, .int .i64 q, .bool false] 91)) (.slice (some ⟨w.heap.size, 0, none⟩) 1 1) xs.length (lbX xs) D dn L K x wk xs rt rk [] x f [⟨p, q, false⟩] := by
  refine ⟨⟨h.below hb0, Gk.of_below hb0 hl.2.1, World.ownsRow_lit (base := w.heap.size) (e := 91) (size := 3) w #[.int .i64 p, .int .i64 q, .bool false] 1 (by omega) (by decide) rfl⟩, by rw [List.append_nil]; exact hM, ⟨⟨hp, hq⟩, trivial⟩, ⟨fun D hD => by simp at hD, trivial⟩, Few.one p q, ?_, ?_, rfl, rfl, hc⟩
  ·show uniF f (dn p ++ []) (dn q ++ []) = some x
   rw [List.append_nil, List.append_nil]
   exact hu
  ·cases x <;> rfl
 have HS0 : Hid (AgS lo G b w (w.alloc (Obj.cells #[.int .i64 p, .int .i64 q, .bool false] 91)) (.slice (some ⟨w.heap.size, 0, none⟩) 1 1) xs.length (lbX xs) D dn L K x wk xs rt rk [] x f [⟨p, q, false⟩]) := S0
 clear S0 hb0 hu hM h
 go_enter Tryz.func27, Tryz.ntmps27
 go_upto_region 2 with fail
 generalize w.alloc (Obj.cells #[.int .i64 p, .int .i64 q, .bool false] 91) = w1 at *
 go_loopg [7] (8 * f + 1) (fun g v wr => ∃ (wk : Nat) (ys : List Gx) (rt rk : Nat → Nat) (acc : List (List UInt8 × List Nd)) (y : Uans) (f : Nat) (ts : List Tk), Hid (8 * f + ts.length ≤ g ∧ AgS lo G b w wr v xs.length (lbX xs) D dn L K x wk ys rt rk acc y f ts))
 case atStart => exact ⟨wk, xs, rt, rk, [], x, f, [⟨p, q, false⟩], by show _ ≤ _; simp, HS0.out⟩
 case round =>
  obtain ⟨wk, ys, rt, rk, acc, y, f, ts, HP⟩ := hrel
  obtain ⟨hmu, S⟩ := HP.out
  cases ts with
  | nil =>
   obtain ⟨ad, cap, hrv⟩ : ∃ ad cap, u7 = .slice ad 0 cap := by
    rcases S.r.own.2 with ⟨h0, _⟩ | ⟨g', cap', _, h0, _⟩
    ·exact ⟨none, 0, h0⟩
    ·exact ⟨_, cap', h0⟩
   subst hrv
   have HF : Hid (AgreeP lo G b w xs.length (lbX xs) D dn L K x (.returned (.int .i64 0)) wr) := by
    refine ⟨S.r.gk, .inr ⟨acc, ?_, rfl, wk, ys, rt, rk, S.r.gx, S.m, S.len, S.lb, S.c⟩⟩
    have := S.u
    obtain ⟨f', rfl⟩ := uniF_pos this
    simp only [rowA_nil, rowB_nil, uniF] at this
    injection this with this
    rw [S.x, ← this]
    simp [comb]
   clear S HP HS0
   go_wp2
   go_ret
   exact HF.out
  | cons t ts =>
   obtain ⟨ta, tb, td⟩ := t
   have er : ((⟨ta, tb, td⟩ : Tk) :: ts).reverse.map tkT = ts.reverse.map tkT ++ [(ta, tb, td)] := by simp [tkT]
   have hr0 := S.r
   rw [er] at hr0
   obtain ⟨g, cap, hv, hcap, hgw, hgl, ⟨c0, c1, c2⟩, R1⟩ := hr0.pop (n := ts.length) (by simp)
   subst hv
   have hlen := few_len S.few S.nest fun t ht => (dok_low S.d t ht).1
   have hn2 : ys.length ≤ 200000000 := S.r.gx.num.1
   have hts : ts.length < 1400000001 := by simp at hlen; omega
   have hab := dok_low S.d ⟨ta, tb, td⟩ List.mem_cons_self
   have HSP : Hid (8 * f + (ts.length + 1) ≤ gk ∧ Mn wk ys D (fun k => subL acc (dn k)) rt rk (L ++ acc) ∧ Dok ys.length (fun k => subL acc (dn k)) [] [] (⟨ta, tb, td⟩ :: ts) ∧ Nest (fun k => subL acc (dn k)) (⟨ta, tb, td⟩ :: ts) ∧ Few (⟨ta, tb, td⟩ :: ts) ∧ uniF f (rowA (fun k => subL acc (dn k)) (⟨ta, tb, td⟩ :: ts)) (rowB (fun k => subL acc (dn k)) (⟨ta, tb, td⟩ :: ts)) = some y ∧ x = comb acc y ∧ ys.length = xs.length ∧ lbX ys = lbX xs ∧ wk + cv (lbX ys) rt ys.length ≤ K) := ⟨by simpa using hmu, S.m, S.d, S.nest, S.few, S.u, S.x, S.len, S.lb, S.c⟩
   have hal := hab.1
   have hbl := hab.2
   have hcap' : ((ts.length : Nat) : Int) ≤ (cap : Int) := by omega
   have l1 : (0 : Int) ≤ ((ts.length : Nat) : Int) := by omega
   clear S HP HS0 hr0 hlen hmu er hab
   go_upto_region 6 with fail
   have hbn := (Below.refl wr.heap.size wr).alloc (Nat.le_refl _) (Obj.cells #[.int .i64 ta, .int .i64 tb, .bool td] 91)
   have R2 := R1.below hGb hbn
   have hnx : (wr.alloc (Obj.cells #[.int .i64 ta, .int .i64 tb, .bool td] 91)).heap[wr.heap.size]? = some (.cells #[.int .i64 ta, .int .i64 tb, .bool td] 91 (0, 0)) := heap_alloc_new wr _
   have hnl : w.heap.size ≤ wr.heap.size := R1.gk.size
   generalize wr.alloc (Obj.cells #[.int .i64 ta, .int .i64 tb, .bool td] 91) = w2 at *
   generalize wr.heap.size = nx at *
   clear hbn R1 c0 c1 c2 hgl
   obtain ⟨St, hSt⟩ : ∃ St : World → Prop, St = fun W => ∃ zs, AgR lo G b wk w W (.slice (some ⟨g, 0, none⟩) ts.length cap) (ts.reverse.map tkT) zs D ∧ Eqg ys zs ∧ DenX zs (fun k => subL acc (dn k)) rt rk ∧ W.heap[nx]? = some (.cells #[.int .i64 ta, .int .i64 tb, .bool td] 91 (0, 0)) := ⟨_, rfl⟩
   have St0 : Hid (St w2) := by
    show St w2
    rw [hSt]
    exact ⟨ys, R2, Eqg.refl ys, HSP.out.2.1.den, hnx⟩
   have Stn : Hid (∀ W, St W → W.cell? ⟨nx, 0, none⟩ = some (.int .i64 ta) ∧ W.cell? ⟨nx, 1, none⟩ = some (.int .i64 tb) ∧ W.cell? ⟨nx, 2, none⟩ = some (.bool td)) := fun W hS => by
    rw [hSt] at hS
    obtain ⟨_, _, _, _, h4⟩ := hS
    exact heap_cells h4
   have Sts : Hid (∀ W W', St W → Sm W W' → St W') := fun W W' hS s => by
    rw [hSt] at hS ⊢
    obtain ⟨zs, h1, h2, h3, h4⟩ := hS
    exact ⟨zs, h1.sm hGb s, h2, h3, by rw [s.heap]; exact h4⟩
   have CE : ∀ (j : Nat), j < ys.length → ∀ W, St W → Calls Tryz.prog 46 #[.pointer (some ⟨G, 0, none⟩), .int .i64 j] W fun e w' => e = .returned (.int .i64 (rt j : Nat)) ∧ (w'.cell? ⟨nx, 0, none⟩ = some (.int .i64 ta) ∧ w'.cell? ⟨nx, 1, none⟩ = some (.int .i64 tb)) ∧ Hid (St w') := fun j hj W hS => by
    have hS' := hS
    rw [hSt] at hS'
    obtain ⟨zs, h1, h2, h3, h4⟩ := hS'
    refine Calls.mono (end_any h1.gx h3 j (by rw [h2.len]; exact hj)) ?_
    rintro e w' ⟨rfl, ⟨zs', e1, e2, e3⟩, e4, e5, e6⟩
    have hS2 : St w' := by
     rw [hSt]
     exact ⟨zs', h1.next hGb e4 e3, h2.trans e1, e2, e4.keep _ _ h4 (by omega) (by omega) (by intro c fz e; exact absurd (cells_ty (congrArg some e)) (by decide))⟩
    obtain ⟨q0, q1, _⟩ := Stn.out _ hS2
    exact ⟨rfl, ⟨q0, q1⟩, hS2⟩
   have CA := CE ta hal
   have CB := CE tb hbl
   obtain ⟨x0, x1, _⟩ := Stn.out _ St0.out
   have HU : Hid (∀ W, St W → ∃ zs, AgR lo G b wk w W (.slice (some ⟨g, 0, none⟩) ts.length cap) (ts.reverse.map tkT) zs D ∧ Eqg ys zs ∧ DenX zs (fun k => subL acc (dn k)) rt rk ∧ W.heap[nx]? = some (.cells #[.int .i64 ta, .int .i64 tb, .bool td] 91 (0, 0))) := fun W hS => by rw [hSt] at hS; exact hS
   clear CE R2 hnx hSt
   go_cut [10, 11] from 33 to 40 (fun s t wc => s = .int .i64 (rt ta : Nat) ∧ t = .int .i64 (rt tb : Nat) ∧ Hid (St wc))
   case first =>
    go_region_held3 (fun w' => w'.cell? ⟨nx, 0, none⟩ = some (.int .i64 ta) ∧ w'.cell? ⟨nx, 1, none⟩ = some (.int .i64 tb) ∧ Hid (St w')) (first | exact ⟨x0, x1, St0⟩ | exact ⟨x0, x1, Sts.out _ _ St0.out ⟨rfl, rfl, rfl, rfl⟩⟩ | assumption | exact ⟨q0, q1, HS5⟩ | exact ⟨q0, q1, Sts.out _ _ HS5.out ⟨rfl, rfl, rfl, rfl⟩⟩ | go_keep) (first
     | (go_at_call 46; (with_reducible refine Calls.mono (CA _ ?_) ?_); (first | exact Sts.out _ _ St0.out ⟨rfl, rfl, rfl, rfl⟩ | exact Sts.out _ _ HS5.out ⟨rfl, rfl, rfl, rfl⟩); rintro e' w5 ⟨rfl, ⟨q0, q1⟩, HS5⟩)
     | (go_at_call 46; (with_reducible refine Calls.mono (CB _ ?_) ?_); (first | exact Sts.out _ _ St0.out ⟨rfl, rfl, rfl, rfl⟩ | exact Sts.out _ _ HS5.out ⟨rfl, rfl, rfl, rfl⟩); rintro e' w5 ⟨rfl, ⟨q0, q1⟩, HS5⟩))
    all_goals
     go_wp2_with fail
     go_meet
     exact ⟨rfl, rfl, HS5⟩
   case rest =>
    obtain ⟨rfl, rfl, HS⟩ := hcut
    obtain ⟨zs, R3, hE, hD, hnx3⟩ := HU.out _ HS.out
    obtain ⟨hmu, hM0, hDok, hNest, hFew, hUn, hx, hlen, hlb, hcv⟩ := HSP.out
    have M3 := hM0.eqg hE hD
    have hra : rt ta < zs.length := by rw [hE.len]; exact Den.rt_lt hM0.den hal
    have hrb : rt tb < zs.length := by rw [hE.len]; exact Den.rt_lt hM0.den hbl
    have hta : tgX zs (rt ta) = rt ta := Den.rt_tg hD (by rw [hE.len]; exact hal)
    have htb : tgX zs (rt tb) = rt tb := Den.rt_tg hD (by rw [hE.len]; exact hbl)
    obtain ⟨gn, gc, ada, c0, -, hgG, hfr, ⟨-, n1, -, n3, -, -⟩, -, hToa⟩ := R3.gx.at hra
    obtain ⟨gn', gc', adb, c0', -, -, -, ⟨-, m1, -, m3, -, -⟩, -, hTob⟩ := R3.gx.at hrb
    rw [c0] at c0'
    have eg := slice_block c0'
    subst eg
    clear c0'
    obtain ⟨n0, aa, n2, srcA⟩ := R3.gx.args hra c0
    obtain ⟨m0, ab, m2, srcB⟩ := R3.gx.args hrb c0
    rw [hE.lb, hE.ar] at *
    have ea : zs[rt ta].name = (lbX ys (rt ta)).2 := by rw [← hE.lb]; unfold lbX; rw [getD_at hra]
    have eb : zs[rt tb].name = (lbX ys (rt tb)).2 := by rw [← hE.lb]; unfold lbX; rw [getD_at hrb]
    rw [ea] at n1
    rw [eb] at m1
    obtain ⟨x0, x1, x2⟩ := heap_cells hnx3
    have i1 : (0 : Int) ≤ ((rt ta : Nat) : Int) := by omega
    have i2 : ((rt ta : Nat) : Int) < (zs.length : Int) := by omega
    have i3 : (0 : Int) ≤ ((rt tb : Nat) : Int) := by omega
    have i4 : ((rt tb : Nat) : Int) < (zs.length : Int) := by omega
    have hzl : zs.length ≤ 200000000 := R3.gx.num.1
    clear CA CB HS HU Sts Stn St0
    by_cases hab : rt ta = rt tb
    ·have HF : Hid (∃ f2, 8 * f2 + ts.length < gk ∧ ∀ W, Sm wc W → AgS lo G b w W (.slice (some ⟨g, 0, none⟩) ts.length cap) xs.length (lbX xs) D dn L K x wk zs rt rk acc y f2 ts) := by
      cases td with
      | true =>
       obtain ⟨_, _, _, _, _, hd2⟩ := hM0.den.r_done hDok
       exact ⟨f, by omega, fun W s => ⟨R3.sm hGb s, M3, by rw [hE.len]; exact hd2, hNest.2, hFew.2, hUn, hx, by rw [hE.len]; exact hlen, by rw [hE.lb]; exact hlb, by rw [hE.lb, hE.len]; exact hcv⟩⟩
      | false =>
       obtain ⟨hd2, f2, hf2, hu2⟩ := hM0.den.r_same hDok hab hUn
       exact ⟨f2, by omega, fun W s => ⟨R3.sm hGb s, M3, by rw [hE.len]; exact hd2, hNest.2, hFew.2, hu2, hx, by rw [hE.len]; exact hlen, by rw [hE.lb]; exact hlb, by rw [hE.lb, hE.len]; exact hcv⟩⟩
     have habi : ((rt ta : Nat) : Int) = ((rt tb : Nat) : Int) := by rw [hab]
     clear hM0 hDok hNest hFew hUn hx hlen hlb hcv M3 hE hD R3 hToa hTob HSP srcA srcB
     rw [← hab] at *
     go_upto_region 8 with fail
     go_quiet (fail)
     go_wp2
     obtain ⟨f2, hf2, HF2⟩ := HF.out
     go_roundg (8 * f2 + ts.length)
     case measure => exact hf2
     case rel => exact ⟨wk, zs, rt, rk, acc, y, f2, ts, Nat.le_refl _, HF2 _ ⟨rfl, rfl, rfl, rfl⟩⟩
    ·have hne : ¬ ((rt ta : Nat) : Int) = ((rt tb : Nat) : Int) := by omega
     have hneb : (((rt ta : Nat) : Int) == ((rt tb : Nat) : Int)) = false := by simpa using hne
     cases td with
     | true =>
      obtain ⟨_, _, hdd, hva, hvb, hd2⟩ := hM0.den.r_done hDok
      obtain ⟨hT1, hT2⟩ := hToa (rt tb)
      obtain ⟨g1, g2⟩ := toX_eqg zs hra (rt tb)
      have hdd2 : (fun k => subL acc (dn k)) (rt ta) = (fun k => subL acc (dn k)) (rt tb) := (Den.rt_dn hM0.den hal).trans (hdd.trans (Den.rt_dn hM0.den hbl).symm)
      have M4 := M3.met hra hrb hta htb hab hdd2 (by rw [hE.lb]; exact hvb) (Led.to zs hra (rt tb)) g1.wk g1.ins
      have hcv2 := cv_met (i := rt ta) M3.den hrb htb
      have HF : Hid (∀ W, Sm (wc.setCell ⟨gn, rt ta * 6 + 3, none⟩ (.int .i64 (rt tb : Nat))) W → AgS lo G b w W (.slice (some ⟨g, 0, none⟩) ts.length cap) xs.length (lbX xs) D dn L K x wk (toX zs (rt ta) (rt tb)) (ledR rt (rt ta) (rt tb)) (ledK rt rk (rt ta) (rt tb)) acc y f ts) := fun W s =>
       ⟨(R3.next hGb hT2 hT1).sm hGb s, M4, by rw [g1.len, hE.len]; exact hd2, hNest.2, hFew.2, hUn, hx, by rw [g1.len, hE.len]; exact hlen, by rw [g1.lb, hE.lb]; exact hlb, by
        rw [g1.lb, g1.len]
        rw [← hE.lb, ← hE.len] at hcv
        omega⟩
      have f3 := hfr (rt ta * 6 + 3)
      have HMU : Hid (8 * f + ts.length < gk) := by show _ < _; omega
      clear hM0 hDok hNest hFew hUn hx hlen hlb hcv M3 M4 hE hD R3 hToa hTob HSP srcA srcB hT1 hT2 g1 g2 hcv2
      go_upto_region 8 with fail
      go_quiet (fail)
      go_wp2
      go_roundg (8 * f + ts.length)
      case measure => exact HMU.out
      case rel => exact ⟨wk, _, _, _, acc, y, f, ts, Nat.le_refl _, HF.out _ ⟨rfl, rfl, rfl, rfl⟩⟩
     | false =>
      have hDz : Dok zs.length (fun k => subL acc (dn k)) [] [] (⟨ta, tb, false⟩ :: ts) := by rw [hE.len]; exact hDok
      have hcz : wk + cv (lbX zs) rt zs.length ≤ K := by rw [hE.lb, hE.len]; exact hcv
      have hlz : zs.length = xs.length := by rw [hE.len]; exact hlen
      have hbz : lbX zs = lbX xs := by rw [hE.lb]; exact hlb
      have hral : ta < zs.length := by rw [hE.len]; exact hal
      have hrbl : tb < zs.length := by rw [hE.len]; exact hbl
      by_cases hav : (lbX ys (rt ta)).1 = 2
      ·by_cases hbv : (lbX ys (rt tb)).1 = 2
       ·have hnn : (lbX zs (rt ta)).2 ≠ (lbX zs (rt tb)).2 := fun e => hab (Den.uni M3.den _ _ hra hrb (by rw [hE.lb]; exact hav) (by rw [hE.lb]; exact hbv) e)
        have CJ : ∀ W, Sm wc W → Calls Tryz.prog 47 #[.pointer (some ⟨G, 0, none⟩), .int .i64 (rt ta : Nat), .int .i64 (rt tb : Nat)] W fun e w' => e = .returned (.tuple #[]) ∧ Hid (∃ us rt' rk' acc' y2 f2, 8 * f2 + ts.length < gk ∧ ∀ w2, Sm w' w2 → AgS lo G b w w2 (.slice (some ⟨g, 0, none⟩) ts.length cap) xs.length (lbX xs) D dn L K x wk us rt' rk' acc' y2 f2 ts) := fun W s => by
         refine Calls.mono (join_any (R3.gx.sm s) (rt ta) (rt tb) hra hrb hnn) ?_
         rintro e w' ⟨rfl, hk, hx4⟩
         refine ⟨rfl, ?_⟩
         by_cases hlt : (lbX zs (rt tb)).2 < (lbX zs (rt ta)).2
         ·rw [if_pos hlt] at hx4
          obtain ⟨f2, y2, h1, h2, h3⟩ := Den.u_left M3.den hral hrbl (by rw [hE.lb]; exact hav) (by rw [hE.lb]; exact hbv) hlt hUn
          obtain ⟨_, q2⟩ := joinX_in zs hra hrb
          refine ⟨joinX zs (rt ta) (rt tb), _, _, _, y2, f2, by omega, fun w2 s2 => AgS.bound M3 hDz hNest.2 hFew.2 hx hlz hbz hcz (.inl ⟨rfl, rfl⟩) hra hrb hta htb hab (by rw [hE.lb]; exact hav) ?_ (Led.join zs hra hrb) (by rw [q2]; exact M3.wm) (joinX_mono zs hra hrb).1 (fun _ => (joinX_mono zs hra hrb).2) (by omega) ((R3.next hGb ((Gk.of_sm s).trans hk) hx4).sm hGb s2) h2 h3⟩
          intro hm
          have := Den.free M3.den hrbl (by rw [hE.lb]; exact hbv)
          rw [show subL acc (dn (rt tb)) = [(2, (lbX zs (rt tb)).2, 0)] from (Den.rt_dn M3.den hrbl).trans this] at hm
          have hm := List.mem_singleton.1 hm
          injection hm with _ hm
          injection hm with hm _
          exact hnn hm
         ·rw [if_neg hlt] at hx4
          obtain ⟨f2, y2, h1, h2, h3⟩ := Den.u_right M3.den hral hrbl (by rw [hE.lb]; exact hav) (by rw [hE.lb]; exact hbv) hab hlt hUn
          obtain ⟨_, q2⟩ := joinX_in zs hrb hra
          refine ⟨joinX zs (rt tb) (rt ta), _, _, _, y2, f2, by omega, fun w2 s2 => AgS.bound M3 hDz hNest.2 hFew.2 hx hlz hbz hcz (.inr ⟨rfl, rfl⟩) hrb hra htb hta (Ne.symm hab) (by rw [hE.lb]; exact hbv) ?_ (Led.join zs hrb hra) (by rw [q2]; exact M3.wm) (joinX_mono zs hrb hra).1 (fun _ => (joinX_mono zs hrb hra).2) (by omega) ((R3.next hGb ((Gk.of_sm s).trans hk) hx4).sm hGb s2) h2 h3⟩
          intro hm
          have := Den.free M3.den hral (by rw [hE.lb]; exact hav)
          rw [show subL acc (dn (rt ta)) = [(2, (lbX zs (rt ta)).2, 0)] from (Den.rt_dn M3.den hral).trans this] at hm
          have hm := List.mem_singleton.1 hm
          injection hm with _ hm
          injection hm with hm _
          exact hnn hm.symm
        rw [hav] at n0
        rw [hbv] at m0
        clear hM0 hDok hNest hFew hUn hx hlen hlb hcv M3 hE hD R3 hToa hTob HSP srcA srcB hDz hcz hlz hbz
        go_upto_region 8 with fail
        go_quiet (fail)
        go_wp2_with (go_at_call 47; (with_reducible refine Calls.mono (CJ _ ?_) ?_); exact ⟨rfl, rfl, rfl, rfl⟩; rintro e' w5 ⟨rfl, HJ⟩)
        obtain ⟨us, rt', rk', acc', y2, f2, hf2, HF2⟩ := HJ.out
        go_roundg (8 * f2 + ts.length)
        case measure => exact hf2
        case rel => exact ⟨wk, us, rt', rk', acc', y2, f2, ts, Nat.le_refl _, HF2 _ ⟨rfl, rfl, rfl, rfl⟩⟩
       ·have hbvb : ((lbX ys (rt tb)).1 == 2) = false := by simpa using hbv
        have hub := Den.u_bind M3.den hral hrbl (by rw [hE.lb]; exact hav) (by rw [hE.lb]; exact hbv) hUn
        have CB : ∀ W, Sm wc W → Calls Tryz.prog 48 #[.pointer (some ⟨G, 0, none⟩), .int .i64 (rt ta : Nat), .int .i64 (rt tb : Nat)] W fun e w' => (e = .returned (.int .i64 51) ∧ Hid (∀ w2, Sm w' w2 → AgreeP lo G b w xs.length (lbX xs) D dn L K x (.returned (.int .i64 51)) w2)) ∨ (e = .returned (.int .i64 0) ∧ Hid (∃ wk' us rt' rk' acc' y2 f2, 8 * f2 + ts.length < gk ∧ ∀ w2, Sm w' w2 → AgS lo G b w w2 (.slice (some ⟨g, 0, none⟩) ts.length cap) xs.length (lbX xs) D dn L K x wk' us rt' rk' acc' y2 f2 ts)) := fun W s => by
         have hcb := cv_bound M3.den hra hrb hta htb hab (by rw [hE.lb]; exact hav)
         refine Calls.mono (bind_any M3 (by omega) (rt ta) (rt tb) hra hrb hta htb (by rw [hE.lb]; exact hav) hab W (R3.gx.sm s)) ?_
         intro e w' hb
         exact bind_step M3 hDz hNest.2 hFew.2 hx hlz hbz hcz (.inl ⟨rfl, rfl⟩) hra hrb (Den.rt_rt M3.den hral) (Den.rt_rt M3.den hrbl) hab (by rw [hE.lb]; exact hav) (by rw [hE.lb]; exact hbv) hmu hGb (R3.sm hGb s) hub hb
        rw [hav] at n0
        clear hM0 hDok hNest hFew hUn hx hlen hlb hcv M3 hE hD R3 hToa hTob HSP srcA srcB hDz hcz hlz hbz hub
        generalize (lbX ys (rt tb)).1 = kb at *
        go_upto_region 8 with fail
        go_quiet (fail)
        go_wp2_with (go_at_call 48; (with_reducible refine Calls.mono (CB _ ?_) ?_); exact ⟨rfl, rfl, rfl, rfl⟩; rintro e' w5 (⟨rfl, HJ⟩ | ⟨rfl, HJ⟩))
        ·go_ret
         exact HJ.out _ (Sm.refl _)
        ·obtain ⟨wk', us, rt', rk', acc', y2, f2, hf2, HF2⟩ := HJ.out
         go_roundg (8 * f2 + ts.length)
         case measure => exact hf2
         case rel => exact ⟨wk', us, rt', rk', acc', y2, f2, ts, Nat.le_refl _, HF2 _ ⟨rfl, rfl, rfl, rfl⟩⟩
      ·have havb : ((lbX ys (rt ta)).1 == 2) = false := by simpa using hav
       by_cases hbv : (lbX ys (rt tb)).1 = 2
       ·have hub := Den.u_bind' M3.den hral hrbl (by rw [hE.lb]; exact hav) (by rw [hE.lb]; exact hbv) hUn
        have CB : ∀ W, Sm wc W → Calls Tryz.prog 48 #[.pointer (some ⟨G, 0, none⟩), .int .i64 (rt tb : Nat), .int .i64 (rt ta : Nat)] W fun e w' => (e = .returned (.int .i64 51) ∧ Hid (∀ w2, Sm w' w2 → AgreeP lo G b w xs.length (lbX xs) D dn L K x (.returned (.int .i64 51)) w2)) ∨ (e = .returned (.int .i64 0) ∧ Hid (∃ wk' us rt' rk' acc' y2 f2, 8 * f2 + ts.length < gk ∧ ∀ w2, Sm w' w2 → AgS lo G b w w2 (.slice (some ⟨g, 0, none⟩) ts.length cap) xs.length (lbX xs) D dn L K x wk' us rt' rk' acc' y2 f2 ts)) := fun W s => by
         have hcb := cv_bound M3.den hrb hra htb hta (Ne.symm hab) (by rw [hE.lb]; exact hbv)
         refine Calls.mono (bind_any M3 (by omega) (rt tb) (rt ta) hrb hra htb hta (by rw [hE.lb]; exact hbv) (Ne.symm hab) W (R3.gx.sm s)) ?_
         intro e w' hb
         exact bind_step M3 hDz hNest.2 hFew.2 hx hlz hbz hcz (.inr ⟨rfl, rfl⟩) hrb hra (Den.rt_rt M3.den hrbl) (Den.rt_rt M3.den hral) (Ne.symm hab) (by rw [hE.lb]; exact hbv) (by rw [hE.lb]; exact hav) hmu hGb (R3.sm hGb s) hub hb
        rw [hbv] at m0
        clear hM0 hDok hNest hFew hUn hx hlen hlb hcv M3 hE hD R3 hToa hTob HSP srcA srcB hDz hcz hlz hbz hub
        generalize (lbX ys (rt ta)).1 = ka at *
        go_upto_region 8 with fail
        go_quiet (fail)
        go_wp2_with (go_at_call 48; (with_reducible refine Calls.mono (CB _ ?_) ?_); exact ⟨rfl, rfl, rfl, rfl⟩; rintro e' w5 (⟨rfl, HJ⟩ | ⟨rfl, HJ⟩))
        ·go_ret
         exact HJ.out _ (Sm.refl _)
        ·obtain ⟨wk', us, rt', rk', acc', y2, f2, hf2, HF2⟩ := HJ.out
         go_roundg (8 * f2 + ts.length)
         case measure => exact hf2
         case rel => exact ⟨wk', us, rt', rk', acc', y2, f2, ts, Nat.le_refl _, HF2 _ ⟨rfl, rfl, rfl, rfl⟩⟩
       ·have hbvb : ((lbX ys (rt tb)).1 == 2) = false := by simpa using hbv
        by_cases hsm : (lbX ys (rt ta)).1 = (lbX ys (rt tb)).1 ∧ (lbX ys (rt ta)).2 = (lbX ys (rt tb)).2 ∧ (arX ys (rt ta)).length = (arX ys (rt tb)).length
        ·obtain ⟨e1, e2, e3⟩ := hsm
         obtain ⟨hD2, f2, hf2, hU2⟩ := Den.r_more hM0.den hDok hav e1 e2 e3 hUn
         have hL1 : (arX ys (rt ta)).length ≤ 6 := hM0.few _
         obtain ⟨hF2, -, hln2⟩ := Few.more (ra := rt ta) (rb := rt tb) hFew (arX ys (rt ta)) (arX ys (rt tb)) hL1
         have hN2 : Nest (fun k => subL acc (dn k)) (pairTs (arX ys (rt ta)) (arX ys (rt tb)) ++ ⟨rt ta, rt tb, true⟩ :: ts) := Nest.more hNest (Den.rt_dn hM0.den hal) ((lbX ys (rt ta)).1, (lbX ys (rt ta)).2, (arX ys (rt ta)).length) hav _ _ fun c hc => by
          have := Den.form hM0.den hal
          have this : subL acc (dn (rt ta)) = _ := (Den.rt_dn hM0.den hal).trans this
          show Part (subL acc (dn c)) (subL acc (dn (rt ta)))
          rw [this]
          exact part_arg (fun k => subL acc (dn k)) _ hav _ c hc
         have hpl := pair_len _ _ e3
         have HF : Hid (∀ W s, AgR lo G b wk w W s (stk ts (rt ta) (rt tb) (pairTs (arX ys (rt ta)) (arX ys (rt tb))) 0) zs D → AgS lo G b w W s xs.length (lbX xs) D dn L K x wk zs rt rk acc y f2 (pairTs (arX ys (rt ta)) (arX ys (rt tb)) ++ ⟨rt ta, rt tb, true⟩ :: ts)) := fun W s R => ⟨by rw [stk_all] at R; exact R, M3, by rw [hE.len]; exact hD2, hN2, hF2, hU2, hx, hlz, hbz, hcz⟩
         have HMU : Hid (8 * f2 + (pairTs (arX ys (rt ta)) (arX ys (rt tb)) ++ ⟨rt ta, rt tb, true⟩ :: ts).length < gk) := by show _ < _; omega
         have HARG : Hid (∀ W, GX W lo G b (fun _ => False) zs D wk → W.cell? ⟨G, 0, none⟩ = some (.slice (some ⟨gn, 0, none⟩) zs.length gc) → (∃ ad, W.cell? ⟨gn, rt ta * 6 + 2, none⟩ = some (.slice ad (arX ys (rt ta)).length (arX ys (rt ta)).length)) ∧ ∀ (j : Nat) (h : j < (arX ys (rt ta)).length) (h' : j < (arX ys (rt tb)).length), ∃ ga gb, W.cell? ⟨gn, rt ta * 6 + 2, none⟩ = some (.slice (some ⟨ga, 0, none⟩) (arX ys (rt ta)).length (arX ys (rt ta)).length) ∧ W.cell? ⟨gn, rt tb * 6 + 2, none⟩ = some (.slice (some ⟨gb, 0, none⟩) (arX ys (rt ta)).length (arX ys (rt ta)).length) ∧ W.cell? ⟨ga, j, none⟩ = some (.int .i64 ((arX ys (rt ta))[j] : Nat)) ∧ W.cell? ⟨gb, j, none⟩ = some (.int .i64 ((arX ys (rt tb))[j] : Nat))) := by
          intro W hX hc
          have ear : ∀ k, arX zs k = arX ys k := fun k => by rw [hE.ar]
          refine ⟨?_, fun j h h' => ?_⟩
          ·obtain ⟨_, ad, q, _⟩ := hX.args hra hc
           rw [ear] at q
           exact ⟨ad, q⟩
          ·obtain ⟨ga, q1, q2⟩ := hX.argAt hra hc (j := j) (by rw [ear]; exact h)
           obtain ⟨gb, q3, q4⟩ := hX.argAt hrb hc (j := j) (by rw [ear]; exact h')
           simp only [ear] at q1 q2 q3 q4
           rw [← e3] at q3
           exact ⟨ga, gb, q1, q3, q2, q4⟩
         have hnb2 : ((⟨(lbX ys (rt ta)).2.toArray⟩ : ByteArray).toList == (⟨(lbX ys (rt tb)).2.toArray⟩ : ByteArray).toList) = true := by rw [e2]; simp
         rw [← e1] at m0
         rw [← e3] at m2
         have hbvb' : ((lbX ys (rt ta)).1 == 2) = false := havb
         have R3' : AgR lo G b wk w wc (.slice (some ⟨g, 0, none⟩) ts.length cap) (ts.reverse.map tkT) zs D := R3
         have HPL : Hid ((pairTs (arX ys (rt ta)) (arX ys (rt tb))).length = (arX ys (rt ta)).length) := hpl
         have HPG : Hid (∀ (j : Nat) (h : j < (arX ys (rt ta)).length), ∃ (h1 : j < (arX ys (rt tb)).length) (h2 : j < (pairTs (arX ys (rt ta)) (arX ys (rt tb))).length), (pairTs (arX ys (rt ta)) (arX ys (rt tb)))[j] = ⟨(arX ys (rt ta))[j], (arX ys (rt tb))[j], false⟩) := fun j h => ⟨by omega, by omega, pair_get _ _ _ _ _ _⟩
         have hbl6 : (arX ys (rt tb)).length = (arX ys (rt ta)).length := e3.symm
         clear hM0 hDok hNest hFew hUn hx hlen hlb hcv M3 hE hD hToa hTob HSP srcA srcB hDz hcz hlz hbz hD2 hU2 hN2 hF2 hln2 hpl e1 e2 e3 hbvb hbv hav R3 hf2
         generalize (⟨(lbX ys (rt ta)).2.toArray⟩ : ByteArray) = na at *
         generalize (⟨(lbX ys (rt tb)).2.toArray⟩ : ByteArray) = nb at *
         generalize (lbX ys (rt ta)).1 = ka at *
         generalize arX ys (rt tb) = bL at *
         generalize arX ys (rt ta) = aL at *
         go_upto_region 8 with fail
         go_quiet (fail)
         go_upto_region 23 with fail
         go_quiet (fail)
         go_upto_region 9 with fail
         generalize hv2 : World.drewN _ _ = v2
         have s2 : Sm wc v2 := by rw [← hv2]; exact ⟨rfl, rfl, rfl, rfl⟩
         clear hv2
         have R4 := R3'.sm hGb s2
         have hb4 := (Below.refl v2.heap.size v2).alloc (Nat.le_refl _) (Obj.cells #[.int .i64 (rt ta : Nat), .int .i64 (rt tb : Nat), .bool true] 91)
         have R5 := R4.below hGb hb4
         have HC5 : Hid ((v2.alloc (Obj.cells #[.int .i64 (rt ta : Nat), .int .i64 (rt tb : Nat), .bool true] 91)).cell? ⟨G, 0, none⟩ = some (.slice (some ⟨gn, 0, none⟩) zs.length gc)) := alloc_keep ((s2.cell _).trans c0) _
         have hsz4 : w.heap.size ≤ (v2.alloc (Obj.cells #[.int .i64 (rt ta : Nat), .int .i64 (rt tb : Nat), .bool true] 91)).heap.size := R5.gk.size
         have own5 : (v2.alloc (Obj.cells #[.int .i64 (rt ta : Nat), .int .i64 (rt tb : Nat), .bool true] 91)).ownsRow w.heap.size 91 3 (.slice (some ⟨g, 0, none⟩) ts.length cap) ts.length ((ts.reverse.map tkT).flatMap tkC) := by
          have := R5.own
          rw [show (ts.reverse.map tkT).length = ts.length by simp] at this
          exact this
         have HR5 : Hid (AgR lo G b wk w (v2.alloc (Obj.cells #[.int .i64 (rt ta : Nat), .int .i64 (rt tb : Nat), .bool true] 91)) (.slice (some ⟨g, 0, none⟩) ts.length cap) (ts.reverse.map tkT) zs D) := R5
         clear x0 x1 x2 c0 n0 n1 n2 n3 m0 m1 m2 m3 hb4 R4 R3' s2 R5 hfr hnx3
         obtain ⟨i0, hi, hz0, hz1, hz2⟩ := info_parts Tryz.info91
         go_upto_region 10 with (at_builtin; refine wpList_append_own _ rfl _ _ 92 rfl w.heap.size 91 i0 _ 3 24 Tryz.underlying92 hi hz0 hz1 hz2 rfl (by decide) (.slice (some ⟨g, 0, none⟩) ts.length cap) ts.length ((ts.reverse.map tkT).flatMap tkC) rfl own5 ⟨v2.heap.size, 0, none⟩ 1 1 [.int .i64 (rt ta : Nat), .int .i64 (rt tb : Nat), .bool true] rfl rfl (tk_lit v2 (rt ta : Nat) (rt tb : Nat) true) (tk_one (rt ta : Nat) (rt tb : Nat) true) (by unfold maxLen; omega) (by omega) hsz4 ?_; intro v6 w6 ho6 hg6 _)
         obtain ⟨R6, K6⟩ := HR5.out.push hGb (rt ta, rt tb, true) (n := ts.length) (by simp) ho6 hg6
         have c6 := (HR5.out.gx.c0_keep K6).trans HC5.out
         obtain ⟨⟨ada0, n2'⟩, -⟩ := HARG.out w6 R6.gx c6
         have HST : Hid (AgR lo G b wk w w6 v6 (stk ts (rt ta) (rt tb) (pairTs aL bL) aL.length) zs D ∧ w6.cell? ⟨G, 0, none⟩ = some (.slice (some ⟨gn, 0, none⟩) zs.length gc)) := by
          refine ⟨?_, c6⟩
          have := HPL.out
          rw [← this, stk_end]
          exact R6
         have HSL : Hid (∀ m, (stk ts (rt ta) (rt tb) (pairTs aL bL) m).length = ts.length + 1 + (aL.length - m)) := fun m => by rw [stk_len, HPL.out]
         clear R6 K6 ho6 hg6 own5 HR5 HC5 hsz4 c6 hnb2 hbvb' havb
         go_upto_region 11 with fail
         go_loopw [7, 15] (fun s iv wr => ∃ m : Nat, m ≤ aL.length ∧ iv = .int .i64 ((m : Int) - 1) ∧ Hid (AgR lo G b wk w wr s (stk ts (rt ta) (rt tb) (pairTs aL bL) m) zs D ∧ wr.cell? ⟨G, 0, none⟩ = some (.slice (some ⟨gn, 0, none⟩) zs.length gc))) (fun _ iv _ => (intOf iv + 1).toNat)
         case atStart => exact ⟨aL.length, Nat.le_refl _, by go_num, HST.out⟩
         case round =>
          obtain ⟨m, hm, rfl, HP⟩ := hrel
          clear HST n2'
          cases m with
          | zero =>
           have HF2 := HF.out _ _ HP.out.1
           have HF3 : Hid (AgS lo G b w wr u7 xs.length (lbX xs) D dn L K x wk zs rt rk acc y f2 (pairTs aL bL ++ ⟨rt ta, rt tb, true⟩ :: ts)) := HF2
           clear HF2 HF HP HARG HPG HPL
           go_wp2
           go_roundg (8 * f2 + (pairTs aL bL ++ ⟨rt ta, rt tb, true⟩ :: ts).length)
           case measure => exact HMU.out
           case rel => exact ⟨wk, zs, rt, rk, acc, y, f2, _, Nat.le_refl _, HF3.out⟩
          | succ m =>
           have hml : m < aL.length := by omega
           have em : (((m + 1 : Nat) : Int) - 1) = (m : Int) := by omega
           rw [em]
           obtain ⟨R, c⟩ := HP.out
           obtain ⟨hb1, hp1, hpm⟩ := HPG.out m hml
           obtain ⟨-, hj⟩ := HARG.out wr R.gx c
           obtain ⟨ga, gb, k1, k2, k3, k4⟩ := hj m hml hb1
           have hlen7 := HSL.out (m + 1)
           have HSTK : Hid (stk ts (rt ta) (rt tb) (pairTs aL bL) m = stk ts (rt ta) (rt tb) (pairTs aL bL) (m + 1) ++ [(aL[m], bL[m], false)]) := by
            show _ = _
            rw [stk_more _ _ _ _ m hp1, hpm]
            rfl
           obtain ⟨nn, hnn⟩ : ∃ nn, nn = (stk ts (rt ta) (rt tb) (pairTs aL bL) (m + 1)).length := ⟨_, rfl⟩
           have hn7 : nn ≤ 1400000010 := by omega
           have hn0 : 0 < nn := by omega
           have HNN : Hid ((stk ts (rt ta) (rt tb) (pairTs aL bL) (m + 1)).length = nn) := hnn.symm
           have own6 : wr.ownsRow w.heap.size 91 3 u7 nn ((stk ts (rt ta) (rt tb) (pairTs aL bL) (m + 1)).flatMap tkC) := by rw [hnn]; exact R.own
           obtain ⟨g8, cap8, hu7, -, -⟩ := own6.form hn0
           subst hu7
           generalize aL[m] = am at *
           generalize bL[m] = bm at *
           have i5 : (0 : Int) ≤ (m : Int) := by omega
           have i6 : (m : Int) < (aL.length : Int) := by omega
           have b7 := (Below.refl wr.heap.size wr).alloc (Nat.le_refl _) (Obj.cells #[.int .i64 (am : Nat), .int .i64 (bm : Nat), .bool false] 91)
           have R7 := (R.below hGb b7).sm hGb (wr' := (wr.alloc (Obj.cells #[.int .i64 (am : Nat), .int .i64 (bm : Nat), .bool false] 91)).drew) ⟨rfl, rfl, rfl, rfl⟩
           have HR7 : Hid (AgR lo G b wk w ((wr.alloc (Obj.cells #[.int .i64 (am : Nat), .int .i64 (bm : Nat), .bool false] 91)).drew) (.slice (some ⟨g8, 0, none⟩) nn cap8) (stk ts (rt ta) (rt tb) (pairTs aL bL) (m + 1)) zs D ∧ ((wr.alloc (Obj.cells #[.int .i64 (am : Nat), .int .i64 (bm : Nat), .bool false] 91)).drew).cell? ⟨G, 0, none⟩ = some (.slice (some ⟨gn, 0, none⟩) zs.length gc)) := ⟨R7, alloc_keep c _⟩
           have own7 : ((wr.alloc (Obj.cells #[.int .i64 (am : Nat), .int .i64 (bm : Nat), .bool false] 91)).drew).ownsRow w.heap.size 91 3 (.slice (some ⟨g8, 0, none⟩) nn cap8) nn ((stk ts (rt ta) (rt tb) (pairTs aL bL) (m + 1)).flatMap tkC) := by
            have := R7.own
            rw [← hnn] at this
            exact this
           have hsz7 : w.heap.size ≤ ((wr.alloc (Obj.cells #[.int .i64 (am : Nat), .int .i64 (bm : Nat), .bool false] 91)).drew).heap.size := R7.gk.size
           clear R c b7 R7 hj HP hlen7 hnn own6 hpm
           go_upto_block 4 with fail
           go_cut [7] from 69 to 86 (fun s wx => ∃ g9 cap9, s = .slice (some ⟨g9, 0, none⟩) (nn + 1) cap9 ∧ Hid (AgR lo G b wk w wx (.slice (some ⟨g9, 0, none⟩) (nn + 1) cap9) (stk ts (rt ta) (rt tb) (pairTs aL bL) m) zs D ∧ wx.cell? ⟨G, 0, none⟩ = some (.slice (some ⟨gn, 0, none⟩) zs.length gc)))
           case first =>
            go_upto_region 13 with fail
            go_region_law ((refine step_append_lies _ (by rfl) _ _ _ (by rfl) w.heap.size 91 i0 _ 3 24 Tryz.underlying92 hi hz0 hz1 hz2 rfl (by omega) (.slice (some ⟨g8, 0, none⟩) nn cap8) nn ((stk ts (rt ta) (rt tb) (pairTs aL bL) (m + 1)).flatMap tkC) (by rfl) own7 ⟨wr.heap.size, 0, none⟩ 1 1 [.int .i64 (am : Nat), .int .i64 (bm : Nat), .bool false] (by rfl) (by rfl) (tk_lit wr (am : Nat) (bm : Nat) false) (tk_one (am : Nat) (bm : Nat) false) (by omega) (by unfold maxLen; omega) (by omega) hsz7 (wr.heap.size + 1) (by simp) ?_; intro g9 cap9 w9 ho9 hg9 hat9 hlt9))
            all_goals
             obtain ⟨R8, K8⟩ := HR7.out.1.push hGb (am, bm, false) (n := nn) HNN.out ho9 hg9
             have c8 := (HR7.out.1.gx.c0_keep K8).trans HR7.out.2
             have H9 : Hid (AgR lo G b wk w w9 (.slice (some ⟨g9, 0, none⟩) (nn + 1) cap9) (stk ts (rt ta) (rt tb) (pairTs aL bL) m) zs D ∧ w9.cell? ⟨G, 0, none⟩ = some (.slice (some ⟨gn, 0, none⟩) zs.length gc)) := ⟨by rw [HSTK.out]; exact R8, c8⟩
             clear R8 K8 c8 ho9 hg9 hat9
             go_wp2_with fail
             go_meet
             exact ⟨g9, cap9, rfl, H9.out⟩
           case rest =>
            obtain ⟨g9, cap9, rfl, H9⟩ := hcut
            clear k1 k2 k3 k4 own7 hsz7 HR7
            go_wp2_with fail
            go_roundw
            case rel => exact ⟨m, by omega, by go_num, H9.out⟩
            case measure =>
             simp [intOf]
             try omega
        ·have hy : y = .inl 50 := Den.r_clash hM0.den hDok hav hbv hsm hUn
         have HF : Hid (∀ W, Sm wc W → AgreeP lo G b w xs.length (lbX xs) D dn L K x (.returned (.int .i64 50)) W) := fun W s => ⟨R3.gk.trans (Gk.of_sm s), .inl ⟨50, by rw [hx, hy]; rfl, rfl⟩⟩
         have hnb : ((⟨(lbX ys (rt ta)).2.toArray⟩ : ByteArray).toList == (⟨(lbX ys (rt tb)).2.toArray⟩ : ByteArray).toList) = decide ((lbX ys (rt ta)).2 = (lbX ys (rt tb)).2) := by
          rw [bytes_list, bytes_list]
          by_cases q : (lbX ys (rt ta)).2 = (lbX ys (rt tb)).2
          ·rw [q]; simp
          ·simp [q]
         have hL1 : (arX ys (rt ta)).length ≤ 6 := hM0.few _
         have hL2 : (arX ys (rt tb)).length ≤ 6 := hM0.few _
         clear hM0 hDok hNest hFew hUn hx hlen hlb hcv M3 hE hD R3 hToa hTob HSP srcA srcB hDz hcz hlz hbz hy
         generalize (⟨(lbX ys (rt ta)).2.toArray⟩ : ByteArray) = na at *
         generalize (⟨(lbX ys (rt tb)).2.toArray⟩ : ByteArray) = nb at *
         generalize (lbX ys (rt ta)).2 = na2 at *
         generalize (lbX ys (rt tb)).2 = nb2 at *
         generalize (lbX ys (rt ta)).1 = ka at *
         generalize (lbX ys (rt tb)).1 = kb at *
         generalize (arX ys (rt ta)).length = la at *
         generalize (arX ys (rt tb)).length = lb at *
         by_cases hk : ka = kb
         ·subst hk
          by_cases hn : na2 = nb2
          ·have hnb2 : (na.toList == nb.toList) = true := by rw [hnb]; simpa using hn
           have hll : la ≠ lb := fun e => hsm ⟨rfl, hn, e⟩
           have hl1 : ¬ (la : Int) = (lb : Int) := by omega
           have hl2 : ((la : Int) == (lb : Int)) = false := by simpa using hl1
           have hl3 : ((la : Int) != (lb : Int)) = true := by simp; omega
           clear hnb hsm hn hll
           go_upto_region 8 with fail
           go_quiet (fail)
           go_upto_region 23 with fail
           go_quiet (fail)
           go_wp2
           go_ret
           exact HF.out _ ⟨rfl, rfl, rfl, rfl⟩
          ·have hnb2 : (na.toList == nb.toList) = false := by rw [hnb]; simpa using hn
           clear hnb hsm hn
           go_upto_region 8 with fail
           go_quiet (fail)
           go_upto_region 23 with fail
           go_quiet (fail)
           go_wp2
           go_ret
           exact HF.out _ ⟨rfl, rfl, rfl, rfl⟩
         ·have hk2 : (ka == kb) = false := by simpa using hk
          have hk3 : (ka != kb) = true := by simpa using hk
          clear hnb hsm
          go_upto_region 8 with fail
          go_quiet (fail)
          go_upto_region 23 with fail
          go_quiet (fail)
          go_wp2
          go_ret
          exact HF.out _ ⟨rfl, rfl, rfl, rfl⟩
end Go.Proofs.YtikpipenhamdbaaGreat
