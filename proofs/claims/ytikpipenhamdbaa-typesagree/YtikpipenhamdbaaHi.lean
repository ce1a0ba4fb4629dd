/- The graph: what a step of agree makes of what it means. -/
import Derived.Test.YtikpipenhamdbaaHh
import Derived.Test.YtikpipenhamdbaaMox
import Derived.Test.YtikpipenhamdbaaMlx
namespace Go.Proofs.Ytikpipenhamdbaa
open Go.RowKit Go.Maps

/-- A node is led to another one: where nodes lead then. -/
def ledR (rt : Nat → Nat) (i t : Nat) : Nat → Nat := fun k => if rt k = i then t else rt k
def ledK (rt rk : Nat → Nat) (i t : Nat) : Nat → Nat := fun k => if rt k = i then rk k + rk t + 1 else rk k
/-- Nodes of the same names, arguments; led; marked. -/
structure Led (xs zs : List Gx) (i t : Nat) : Prop where
  len : zs.length = xs.length
  lb : lbX zs = lbX xs
  ar : arX zs = arX xs
  tg : tgX zs = putN (tgX xs) i t
theorem inB_eq (xs : List Gx) {i : Nat} (hi : i < xs.length) (c : Bool) : (inB xs i c).length = xs.length ∧ lbX (inB xs i c) = lbX xs ∧ arX (inB xs i c) = arX xs ∧ tgX (inB xs i c) = tgX xs ∧ wkX (inB xs i c) = wkX xs ∧ ∀ j, inX (inB xs i c) j = if j = i then c else inX xs j := by
  have key := getD_mod xs (fun x => { x with ins := c }) hi
  refine ⟨by simp [inB], ?_, ?_, ?_, ?_, ?_⟩
  · funext j; simp only [inB, lbX, key]; split <;> rfl
  · funext j; simp only [inB, arX, key]; split <;> rfl
  · funext j; simp only [inB, tgX, key]; split <;> rfl
  · funext j; simp only [inB, wkX, key]; split <;> rfl
  · intro j; simp only [inB, inX, key]; split <;> rfl
theorem Led.to (xs : List Gx) {i : Nat} (hi : i < xs.length) (t : Nat) : Led xs (toX xs i t) i t := by
  obtain ⟨e, e2⟩ := toX_eqg xs hi t
  exact ⟨e.len, e.lb, e.ar, e2⟩
theorem Led.join (xs : List Gx) {i t : Nat} (hi : i < xs.length) (ht : t < xs.length) : Led xs (joinX xs i t) i t := by
  obtain ⟨e, e2⟩ := toX_eqg xs hi t
  have ht' : t < (toX xs i t).length := by rw [e.len]; exact ht
  obtain ⟨f1, f2, f3, f4, _, _⟩ := inB_eq (toX xs i t) ht' (inX xs t || inX xs i)
  exact ⟨f1.trans e.len, f2.trans e.lb, f3.trans e.ar, f4.trans e2⟩
/-- A variable is bound. -/
theorem Mn.bound {wk wk' : Nat} {xs zs : List Gx} {D : DataW Unit} {dn : Nat → List Nd} {rt rk : Nat → Nat} {L : List (List UInt8 × List Nd)} (h : Mn wk xs D dn rt rk L) {i t : Nat} (hi : i < xs.length) (ht : t < xs.length) (hii : tgX xs i = i) (htt : tgX xs t = t) (hv : (lbX xs i).1 = 2) (ho : ((2, (lbX xs i).2, 0) : Nd) ∉ dn t) (led : Led xs zs i t) (hw : ∀ q, wkX zs q ≤ wk') (hm : ∀ q, q < xs.length → inX xs q = true → inX zs q = true) (hm2 : (lbX xs t).1 = 2 → inX xs i = true → inX zs t = true) :
    Mn wk' zs D (fun k => subF (one (lbX xs i).2 (dn t)) (dn k)) (ledR rt i t) (ledK rt rk i t) (L ++ [((lbX xs i).2, dn t)]) := by
  have den := Den.bind h.den hi ht hii htt hv ho
  refine ⟨by unfold DenX; rw [led.len, led.lb, led.ar, led.tg]; exact den, ?_, h.vm.eqg led.len led.lb, hw, by rw [led.ar]; exact h.few, ?_⟩
  · rw [led.len, led.lb, led.ar]
    intro j hj a ha h2
    have haL := Den.arg h.den j hj a ha
    unfold ledR at h2 ⊢
    by_cases q : rt a = i
    · rw [if_pos q] at h2 ⊢
      exact hm2 h2 (by rw [← q]; exact h.mrk j hj a ha (by rw [q]; exact hv))
    · rw [if_neg q] at h2 ⊢
      exact hm _ (Den.rt_lt h.den haL) (h.mrk j hj a ha h2)
  · refine ⟨fun j hj h2 => ?_, fun c hc => ?_⟩
    · rw [led.len] at hj
      rw [led.lb] at h2 ⊢
      rw [subL_two, ← h.vb.dn j hj h2]
      rfl
    · rw [led.len, led.lb]
      rcases List.mem_append.1 hc with hc | hc
      · exact h.vb.low c hc
      · rw [List.mem_singleton.1 hc]
        exact ⟨i, hi, by rw [← hv]⟩
/-- Two nodes are made one. -/
theorem Mn.met {wk : Nat} {xs zs : List Gx} {D : DataW Unit} {dn : Nat → List Nd} {rt rk : Nat → Nat} {L : List (List UInt8 × List Nd)} (h : Mn wk xs D dn rt rk L) {i t : Nat} (hi : i < xs.length) (ht : t < xs.length) (hii : tgX xs i = i) (htt : tgX xs t = t) (hne : i ≠ t) (hd : dn i = dn t) (hv : (lbX xs t).1 ≠ 2) (led : Led xs zs i t) (hw : wkX zs = wkX xs) (hm : inX zs = inX xs) :
    Mn wk zs D dn (ledR rt i t) (ledK rt rk i t) L := by
  have den := Den.meet h.den hi ht hii htt hne hd
  refine ⟨by unfold DenX; rw [led.len, led.lb, led.ar, led.tg]; exact den, ?_, h.vm.eqg led.len led.lb, by rw [hw]; exact h.wm, by rw [led.ar]; exact h.few, h.vb.eqg led.len led.lb⟩
  rw [led.len, led.lb, led.ar, hm]
  intro j hj a ha h2
  unfold ledR at h2 ⊢
  by_cases q : rt a = i
  · rw [if_pos q] at h2
    exact absurd h2 hv
  · rw [if_neg q] at h2 ⊢
    exact h.mrk j hj a ha h2
theorem cv_bound {n : Nat} {lb : Nat → Int × List UInt8} {ar : Nat → List Nat} {tg : Nat → Nat} {dn : Nat → List Nd} {rt rk : Nat → Nat} (h : Den n lb ar tg dn rt rk) {i t : Nat} (hi : i < n) (ht : t < n) (hii : tg i = i) (htt : tg t = t) (hne : i ≠ t) (hv : (lb i).1 = 2) : cv lb (ledR rt i t) n + 1 ≤ cv lb rt n := by
  have e1 := (h.root i hi hii).1
  have e2 := (h.root t ht htt).1
  refine cv_less lb rt (ledR rt i t) i hv e1 ?_ (fun k hk e => ⟨e.1, ?_⟩) n hi
  · unfold ledR
    rw [if_pos e1]
    exact Ne.symm hne
  · have e := e.2
    unfold ledR at e
    split at e
    · rw [← e]
      exact e2
    · exact e
theorem cv_met {n : Nat} {lb : Nat → Int × List UInt8} {ar : Nat → List Nat} {tg : Nat → Nat} {dn : Nat → List Nd} {rt rk : Nat → Nat} (h : Den n lb ar tg dn rt rk) {i t : Nat} (ht : t < n) (htt : tg t = t) : cv lb (ledR rt i t) n ≤ cv lb rt n := by
  have e2 := (h.root t ht htt).1
  refine cv_mono lb lb rt (ledR rt i t) n fun k hk e => ⟨e.1, ?_⟩
  have e := e.2
  unfold ledR at e
  split at e
  · rw [← e]
    exact e2
  · exact e
end Go.Proofs.Ytikpipenhamdbaa
