/- The graph in memory and what its nodes stand for; the contract of end. The graph in memory, with what it means; what laying and marking turn. The graph: the contract of lay, at a node that is no variable. The graph: the contract of lay. The graph: the contract of nodesLeft. The graph: the contract of end, with all blocks that it leaves. The graph: the contract of typeOf. -/
import Derived.Test.YtikpipenhamdbaaGreatMakx
import Derived.Test.YtikpipenhamdbaaGreatMamx
import Derived.Test.YtikpipenhamdbaaGreatMalx
namespace Go.Proofs.YtikpipenhamdbaaGreat
open Go.RowKit Go.Maps

def gz : Gx := { is := 0, name := [], ar := [], tg := 0, ins := false, walk := 0 }
def lbX (xs : List Gx) (i : Nat) : Int × List UInt8 := ((xs.getD i gz).is, (xs.getD i gz).name)
def arX (xs : List Gx) (i : Nat) : List Nat := (xs.getD i gz).ar
def tgX (xs : List Gx) (i : Nat) : Nat := (xs.getD i gz).tg
def inX (xs : List Gx) (i : Nat) : Bool := (xs.getD i gz).ins
def wkX (xs : List Gx) (i : Nat) : Nat := (xs.getD i gz).walk
/-- What the nodes of a graph in memory stand for. -/
abbrev DenX (xs : List Gx) (dn : Nat → List Nd) (rt rk : Nat → Nat) : Prop := Den xs.length (lbX xs) (arX xs) (tgX xs) dn rt rk
theorem getD_at {xs : List Gx} {i : Nat} (hi : i < xs.length) : xs.getD i gz = xs[i] := by
 rw [List.getD_eq_getElem?_getD, List.getElem?_eq_getElem hi]
 rfl
theorem getD_mod (xs : List Gx) (f : Gx → Gx) {i : Nat} (hi : i < xs.length) (j : Nat) : (xs.modify i f).getD j gz = if j = i then f (xs.getD j gz) else xs.getD j gz := by
 rw [List.getD_eq_getElem?_getD, List.getElem?_modify, List.getD_eq_getElem?_getD]
 by_cases q : j = i
 ·subst q
  rw [if_pos rfl, List.getElem?_eq_getElem hi]
  simp
 ·rw [if_neg q]
  simp [Ne.symm q]
/-- The same nodes, but for where they lead. -/
structure Eqg (xs ys : List Gx) : Prop where
 len : ys.length = xs.length
 lb : lbX ys = lbX xs
 ar : arX ys = arX xs
 ins : inX ys = inX xs
 wk : wkX ys = wkX xs
theorem Eqg.refl (xs : List Gx) : Eqg xs xs := ⟨rfl, rfl, rfl, rfl, rfl⟩
theorem Eqg.trans {xs ys zs : List Gx} (h : Eqg xs ys) (k : Eqg ys zs) : Eqg xs zs := ⟨k.len.trans h.len, k.lb.trans h.lb, k.ar.trans h.ar, k.ins.trans h.ins, k.wk.trans h.wk⟩
theorem toX_eqg (xs : List Gx) {i : Nat} (hi : i < xs.length) (t : Nat) : Eqg xs (toX xs i t) ∧ tgX (toX xs i t) = putN (tgX xs) i t := by
 have key := getD_mod xs (fun x => { x with tg := t }) hi
 refine ⟨⟨by simp [toX], ?_, ?_, ?_, ?_⟩, ?_⟩ <;> (funext j; simp only [toX, lbX, arX, inX, wkX, tgX, putN, key]; split <;> rfl)
theorem DenX.half {xs : List Gx} {dn : Nat → List Nd} {rt rk : Nat → Nat} (h : DenX xs dn rt rk) {i : Nat} (hi : i < xs.length) (ht : tgX xs i ≠ i) : DenX (toX xs i (tgX xs (tgX xs i))) dn rt rk := by
 obtain ⟨e1, e2⟩ := toX_eqg xs hi (tgX xs (tgX xs i))
 unfold DenX
 rw [e1.len, e1.lb, e1.ar, e2]
 exact Den.half h hi ht
/-- What end does. -/
structure Ended (lo G b wk : Nat) (R : Nat → Prop) (xs : List Gx) (D : DataW Unit) (dn : Nat → List Nd) (rt rk : Nat → Nat) (w w' : World) : Prop where
 ex : ∃ ys, Eqg xs ys ∧ DenX ys dn rt rk ∧ GX w' lo G b R ys D wk
 gk : Gk lo G b w w'
 same : ∀ k : Nat, (∀ c fz, w.heap[k]? ≠ some (Obj.cells c 97 fz)) → w'.heap[k]? = w.heap[k]?
 size : w'.heap.size = w.heap.size
theorem Ended.refl {lo G b wk : Nat} {R : Nat → Prop} {xs : List Gx} {D : DataW Unit} {dn : Nat → List Nd} {rt rk : Nat → Nat} {w : World} (h : GX w lo G b R xs D wk) (d : DenX xs dn rt rk) : Ended lo G b wk R xs D dn rt rk w w := ⟨⟨xs, Eqg.refl xs, d, h⟩, Gk.refl _ _ _ _, fun _ _ => rfl, rfl⟩
theorem Ended.sm {lo G b wk : Nat} {R : Nat → Prop} {xs : List Gx} {D : DataW Unit} {dn : Nat → List Nd} {rt rk : Nat → Nat} {w w1 w2 : World} (h : Ended lo G b wk R xs D dn rt rk w w1) (s : Sm w1 w2) : Ended lo G b wk R xs D dn rt rk w w2 := by
 obtain ⟨⟨ys, h1, h2, h3⟩, h4, h5, h6⟩ := h
 exact ⟨⟨ys, h1, h2, h3.sm s⟩, h4.trans (Gk.of_sm s), fun k hk => by rw [s.heap]; exact h5 k hk, by rw [s.heap]; exact h6⟩
/-- The row of nodes is one of nodes. -/
theorem GX.row {w : World} {lo G b wk : Nat} {R : Nat → Prop} {xs : List Gx} {D : DataW Unit} (h : GX w lo G b R xs D wk) {g cap : Nat} (c0 : w.cell? ⟨G, 0, none⟩ = some (.slice (some ⟨g, 0, none⟩) xs.length cap)) (hp : 0 < xs.length) : ∃ cur, w.heap[g]? = some (.cells cur 97 (0, 0)) := by
 obtain ⟨v, ns, rfl, hG, hr⟩ := h
 rw [List.length_map] at c0 hp
 obtain ⟨g', cap', hv, _, _, hcur, ⟨c0', _, _⟩, _⟩ := hG.cells hp
 rw [c0] at c0'
 rw [slice_block c0']
 exact hcur
set_option maxHeartbeats 8000000 in
set_option maxRecDepth 10000 in
theorem end_any {w : World} {lo G b wk : Nat} {R : Nat → Prop} {xs : List Gx} {D : DataW Unit} {dn : Nat → List Nd} {rt rk : Nat → Nat} (h : GX w lo G b R xs D wk) (d : DenX xs dn rt rk) (i : Nat) (hi : i < xs.length) :
  Calls Tryz.prog 46 #[.pointer (some ⟨G, 0, none⟩), .int .i64 i] w fun e w' => e = .returned (.int .i64 (rt i : Nat)) ∧ Ended lo G b wk R xs D dn rt rk w w' := by
 have H0 : Hid (GX w lo G b R xs D wk ∧ DenX xs dn rt rk) := ⟨h, d⟩
 have HN : Hid (xs.length ≤ 200000000) := h.num.1
 clear h d
 go_enter Tryz.func46, Tryz.ntmps46
 go_wp2
 go_loopw [1] (fun iv wr => ∃ m : Nat, iv = .int .i64 m ∧ Hid (m < xs.length ∧ rt m = rt i ∧ Ended lo G b wk R xs D dn rt rk w wr)) (fun iv _ => rk (intOf iv).toNat)
 case atStart => exact ⟨i, rfl, hi, rfl, Ended.refl H0.out.1 H0.out.2⟩
 case round =>
  obtain ⟨m, rfl, HP⟩ := hrel
  obtain ⟨hm, hrm, ⟨ys, hE, hD, hX⟩, hK, hS, hZ⟩ := HP.out
  have hm' : m < ys.length := by rw [hE.len]; exact hm
  obtain ⟨g, cap, ad, c0, _, hgG, hfr, ⟨_, _, _, n3, _, _⟩, _, hT⟩ := hX.at hm'
  have et : ys[m].tg = tgX ys m := by unfold tgX; rw [getD_at hm']
  rw [et] at n3
  have hnn := HN.out
  have hln : ys.length ≤ 200000000 := by rw [hE.len]; exact hnn
  have i1 : (0 : Int) ≤ (m : Int) := by omega
  have i2 : (m : Int) < (ys.length : Int) := by omega
  by_cases q : tgX ys m = m
  ·rw [q] at n3
   have hr : rt m = m := (Den.root hD m hm' q).1
   have HF : Hid (Ended lo G b wk R xs D dn rt rk w wr ∧ m = rt i) := ⟨⟨⟨ys, hE, hD, hX⟩, hK, hS, hZ⟩, by rw [← hrm]; exact hr.symm⟩
   clear hE hD hX hK hT hfr HP hrm hr H0 hS hZ
   go_wp2
   go_ret
   exact ⟨by rw [← HF.out.2]; rfl, HF.out.1⟩
  ·have ht' : tgX ys m < ys.length := Den.tow hD m hm'
   obtain ⟨g', cap', ad', c0', _, _, _, ⟨_, _, _, m3, _, _⟩, _, _⟩ := hX.at ht'
   rw [c0] at c0'
   have eg := slice_block c0'
   subst eg
   have et2 : ys[tgX ys m].tg = tgX ys (tgX ys m) := by
    show _ = (ys.getD (tgX ys m) gz).tg
    rw [getD_at ht']
   rw [et2] at m3
   obtain ⟨hT1, hT2⟩ := hT (tgX ys (tgX ys m))
   obtain ⟨l1, _, l3⟩ := Den.link hD m hm' q
   have hu : tgX ys (tgX ys m) < ys.length := Den.tow hD _ ht'
   have hlr : rt (tgX ys (tgX ys m)) = rt m ∧ rk (tgX ys (tgX ys m)) < rk m := by
    by_cases e : tgX ys (tgX ys m) = tgX ys m
    ·rw [e]
     exact ⟨l1.symm, l3⟩
    ·obtain ⟨k1, _, k3⟩ := Den.link hD _ ht' e
     exact ⟨by rw [← k1, l1], by omega⟩
   have HF : Hid (∀ w', Sm (wr.setCell ⟨g, m * 6 + 3, none⟩ (.int .i64 (tgX ys (tgX ys m) : Nat))) w' → tgX ys (tgX ys m) < xs.length ∧ rt (tgX ys (tgX ys m)) = rt i ∧ Ended lo G b wk R xs D dn rt rk w w') := fun w' s => by
    obtain ⟨cur, hcur⟩ := hX.row c0 (by omega)
    refine ⟨by rw [← hE.len]; exact hu, hlr.1.trans hrm, ⟨_, hE.trans (toX_eqg ys hm' _).1, DenX.half hD hm' q, hT1.sm s⟩, (hK.trans hT2).trans (Gk.of_sm s), fun k hk => ?_, ?_⟩
    ·have hkg : k ≠ g := fun e => hk cur (0, 0) (by rw [← hS k hk, e]; exact hcur)
     rw [s.heap, Below.heap_setCell _ _ _ _ hkg]
     exact hS k hk
    ·rw [s.heap, ← hZ]
     simp [World.setCell]
   have HM : Hid (rk (tgX ys (tgX ys m)) < rk m) := hlr.2
   have hf3 := hfr (m * 6 + 3)
   have hne : ((tgX ys m : Int) != (m : Int)) = true := by simp; omega
   have hne2 : ((tgX ys m : Int) == (m : Int)) = false := by simp; omega
   have e1 : ¬ g = G := hgG
   have e2 : ¬ G = g := fun e => hgG e.symm
   generalize tgX ys (tgX ys m) = u at *
   generalize tgX ys m = t at *
   have j1 : (0 : Int) ≤ (t : Int) := by omega
   have j2 : (t : Int) < (ys.length : Int) := by omega
   have k1 : (0 : Int) ≤ (u : Int) := by omega
   have k2 : (u : Int) < (ys.length : Int) := by omega
   clear hE hD hX hK hS hZ hT hT1 hT2 hfr HP hrm H0 l1 l3 hlr et et2
   go_wp2
   go_region
   go_wp2
   go_roundw
   case rel => exact ⟨u, by go_num, HF.out _ ⟨rfl, rfl, rfl, rfl⟩⟩
   case measure => simp [intOf]; exact HM.out
end Go.Proofs.YtikpipenhamdbaaGreat

namespace Go.Proofs.YtikpipenhamdbaaGreat
open Go.RowKit Go.Maps

/-- The map of variables. -/
structure Vm (D : DataW Unit) (xs : List Gx) : Prop where
 is : IsMap D
 has : ∀ n : List UInt8, Maps.has D (.string n) = true ↔ ∃ i, i < xs.length ∧ lbX xs i = (2, n)
 get : ∀ i, i < xs.length → (lbX xs i).1 = 2 → D.atKey (.string (lbX xs i).2) (.lit (.int .i64 0)) = .lit (.int .i64 i)
 all : ∀ kl (c : Int), (∀ zd, D.atKey kl zd = .lit (.int .i64 c)) → ∃ i : Nat, i < xs.length ∧ (lbX xs i).1 = 2 ∧ c = i
 nn : ∀ i, i < xs.length → (lbX xs i).1 = 2 → varB (lbX xs i).2 = true
/-- What is bound: variables stand for it; of those alone something is bound that are there. -/
structure Vb (xs : List Gx) (dn : Nat → List Nd) (L : List (List UInt8 × List Nd)) : Prop where
 dn : ∀ i, i < xs.length → (lbX xs i).1 = 2 → dn i = subL L [(2, (lbX xs i).2, 0)]
 low : ∀ c ∈ L, ∃ i, i < xs.length ∧ lbX xs i = (2, c.1)
/-- What the graph means. -/
structure Mn (wk : Nat) (xs : List Gx) (D : DataW Unit) (dn : Nat → List Nd) (rt rk : Nat → Nat) (L : List (List UInt8 × List Nd)) : Prop where
 den : DenX xs dn rt rk
 mrk : Mk xs.length (lbX xs) (arX xs) rt (inX xs)
 vm : Vm D xs
 wm : ∀ i, wkX xs i ≤ wk
 few : ∀ i, (arX xs i).length ≤ 6
 vb : Vb xs dn L
theorem Vm.eqg {D : DataW Unit} {xs ys : List Gx} (h : Vm D xs) (e : ys.length = xs.length) (l : lbX ys = lbX xs) : Vm D ys := by
 obtain ⟨h0, h1, h2, h3, h4⟩ := h
 rw [← e, ← l] at h1 h2 h3 h4
 exact ⟨h0, h1, h2, h3, h4⟩
theorem Vb.eqg {xs ys : List Gx} {dn : Nat → List Nd} {L : List (List UInt8 × List Nd)} (h : Vb xs dn L) (e : ys.length = xs.length) (l : lbX ys = lbX xs) : Vb ys dn L := by
 obtain ⟨h1, h2⟩ := h
 rw [← e, ← l] at h1 h2
 exact ⟨h1, h2⟩
/-- Ways alone have turned. -/
theorem Mn.eqg {wk : Nat} {xs ys : List Gx} {D : DataW Unit} {dn : Nat → List Nd} {rt rk : Nat → Nat} {L : List (List UInt8 × List Nd)} (h : Mn wk xs D dn rt rk L) (e : Eqg xs ys) (d : DenX ys dn rt rk) : Mn wk ys D dn rt rk L :=
 ⟨d, by rw [e.len, e.lb, e.ar, e.ins]; exact h.mrk, h.vm.eqg e.len e.lb, by rw [e.wk]; exact h.wm, by rw [e.ar]; exact h.few, h.vb.eqg e.len e.lb⟩
theorem insX_eq (xs : List Gx) {i : Nat} (hi : i < xs.length) : (insX xs i).length = xs.length ∧ lbX (insX xs i) = lbX xs ∧ arX (insX xs i) = arX xs ∧ tgX (insX xs i) = tgX xs ∧ wkX (insX xs i) = wkX xs ∧ inX (insX xs i) = setM (inX xs) i := by
 have key := getD_mod xs (fun x => { x with ins := true }) hi
 refine ⟨by simp [insX], ?_, ?_, ?_, ?_, ?_⟩ <;> (funext j; simp only [insX, lbX, arX, inX, wkX, tgX, setM, key]; split <;> rfl)
theorem Mn.mark {wk : Nat} {xs : List Gx} {D : DataW Unit} {dn : Nat → List Nd} {rt rk : Nat → Nat} {L : List (List UInt8 × List Nd)} (h : Mn wk xs D dn rt rk L) {i : Nat} (hi : i < xs.length) : Mn wk (insX xs i) D dn rt rk L := by
 obtain ⟨e1, e2, e3, e4, e5, e6⟩ := insX_eq xs hi
 refine ⟨by unfold DenX; rw [e1, e2, e3, e4]; exact h.den, ?_, h.vm.eqg e1 e2, by rw [e5]; exact h.wm, by rw [e3]; exact h.few, h.vb.eqg e1 e2⟩
 rw [e1, e2, e3, e6]
 exact fun j hj a ha hv => setM_mono _ _ _ (h.mrk j hj a ha hv)
/-- A node more. -/
theorem app_eq (xs : List Gx) (x : Gx) : (xs ++ [x]).length = xs.length + 1 ∧ lbX (xs ++ [x]) = (fun j => if j = xs.length then (x.is, x.name) else lbX xs j) ∧ arX (xs ++ [x]) = (fun j => if j = xs.length then x.ar else arX xs j) ∧ tgX (xs ++ [x]) = putN (tgX xs) xs.length x.tg ∧ wkX (xs ++ [x]) = putN (wkX xs) xs.length x.walk ∧ ∀ j, inX (xs ++ [x]) j = if j = xs.length then x.ins else inX xs j := by
 have key : ∀ j, (xs ++ [x]).getD j gz = if j = xs.length then x else xs.getD j gz := fun j => by
  rw [List.getD_eq_getElem?_getD, List.getD_eq_getElem?_getD]
  by_cases q : j = xs.length
  ·rw [if_pos q, q]
   simp
  ·rw [if_neg q]
   by_cases q2 : j < xs.length
   ·rw [List.getElem?_append_left q2]
   ·rw [List.getElem?_eq_none (by simp; omega), List.getElem?_eq_none (by omega)]
 refine ⟨by simp, ?_, ?_, ?_, ?_, ?_⟩
 ·funext j
  simp only [lbX, key]
  split <;> rfl
 ·funext j
  simp only [arX, key]
  split <;> rfl
 ·funext j
  simp only [tgX, key, putN]
  split <;> rfl
 ·funext j
  simp only [wkX, key, putN]
  split <;> rfl
 ·intro j
  simp only [inX, key]
  split <;> rfl
/-- A node more, and what comes of it. -/
theorem Mn.more {wk : Nat} {xs : List Gx} {D D' : DataW Unit} {dn : Nat → List Nd} {rt rk : Nat → Nat} {L : List (List UInt8 × List Nd)} (h : Mn wk xs D dn rt rk L) (x : Gx) (ht : x.tg = xs.length) (hw : x.walk = 0) (ha : ∀ a ∈ x.ar, a < xs.length ∧ ((lbX xs (rt a)).1 = 2 → inX xs (rt a) = true)) (h6 : x.ar.length ≤ 6)
  (hv : x.is = 2 → x.ar = [] ∧ varB x.name = true ∧ Maps.has D (.string x.name) = false) (hD : D' = if x.is = 2 then D.put (.string x.name) (.lit (.int .i64 xs.length)) else D) :
  ∃ dn' rt', Mn wk (xs ++ [x]) D' dn' rt' rk L ∧ (∀ j, j < xs.length → dn' j = dn j ∧ rt' j = rt j) ∧ dn' xs.length = (if x.is = 2 then [(2, x.name, 0)] else (x.is, x.name, x.ar.length) :: x.ar.flatMap dn) := by
 obtain ⟨e1, e2, e3, e4, e5, e6⟩ := app_eq xs x
 have hfresh : x.is = 2 → ∀ i, i < xs.length → (lbX xs i).1 = 2 → (lbX xs i).2 ≠ x.name := fun q i hi h2 e => by
  have := (h.vm.has x.name).2 ⟨i, hi, by rw [← e, ← h2]⟩
  rw [(hv q).2.2] at this
  cases this
 have den := Den.more h.den (x.is, x.name) x.ar (fun a q => (ha a q).1) fun q => ⟨(hv q).1, hfresh q⟩
 refine ⟨_, _, ⟨by unfold DenX; rw [e1, e2, e3, e4, ht]; exact den, ?_, ?_, ?_, ?_, ?_⟩, fun j hj => ⟨if_neg (by omega), putN_other _ _ (by omega)⟩, ?_⟩
 ·rw [e1, e2, e3]
  intro i hi a q h2
  by_cases qi : i = xs.length
  ·rw [qi] at q
   simp only [if_true] at q
   obtain ⟨g1, g2⟩ := ha a q
   have hr := Den.rt_lt h.den g1
   have h2 : ((fun j => if j = xs.length then (x.is, x.name) else lbX xs j) (putN rt xs.length xs.length a)).1 = 2 := h2
   show inX (xs ++ [x]) (putN rt xs.length xs.length a) = true
   rw [putN_other _ _ (show a ≠ xs.length by omega)] at h2 ⊢
   rw [e6, if_neg (show rt a ≠ xs.length by omega)]
   simp only [if_neg (show rt a ≠ xs.length by omega)] at h2
   exact g2 h2
  ·simp only [if_neg qi] at q
   have hi' : i < xs.length := by omega
   have g1 := Den.arg h.den i hi' a q
   have hr := Den.rt_lt h.den g1
   have h2 : ((fun j => if j = xs.length then (x.is, x.name) else lbX xs j) (putN rt xs.length xs.length a)).1 = 2 := h2
   show inX (xs ++ [x]) (putN rt xs.length xs.length a) = true
   rw [putN_other _ _ (show a ≠ xs.length by omega)] at h2 ⊢
   rw [e6, if_neg (show rt a ≠ xs.length by omega)]
   simp only [if_neg (show rt a ≠ xs.length by omega)] at h2
   exact h.mrk i hi' a q h2
 ·have key : IsMap D' := by
   rw [hD]
   split
   ·obtain ⟨es, rfl⟩ := h.vm.is
    exact ⟨_, rfl⟩
   ·exact h.vm.is
  refine ⟨key, fun n => ?_, fun i hi h2 => ?_, fun kl c hc => ?_, fun i hi h2 => ?_⟩
  ·rw [e1, e2, hD]
   by_cases q : x.is = 2
   ·rw [if_pos q]
    by_cases qn : n = x.name
    ·rw [qn, Maps.has_put_same h.vm.is (by simp [WideAt.IsKeyLit])]
     exact ⟨fun _ => ⟨xs.length, by omega, by simp [q]⟩, fun _ => rfl⟩
    ·rw [Maps.has_put_other (by simpa using qn), h.vm.has]
     constructor
     ·rintro ⟨i, hi, e⟩
      exact ⟨i, by omega, by simp only [if_neg (show i ≠ xs.length by omega)]; exact e⟩
     ·rintro ⟨i, hi, e⟩
      by_cases qi : i = xs.length
      ·simp only [qi, if_true] at e
       injection e with _ e
       exact absurd e.symm qn
      ·simp only [if_neg qi] at e
       exact ⟨i, by omega, e⟩
   ·rw [if_neg q, h.vm.has]
    constructor
    ·rintro ⟨i, hi, e⟩
     exact ⟨i, by omega, by simp only [if_neg (show i ≠ xs.length by omega)]; exact e⟩
    ·rintro ⟨i, hi, e⟩
     by_cases qi : i = xs.length
     ·simp only [qi, if_true] at e
      injection e with e _
      exact absurd e q
     ·simp only [if_neg qi] at e
      exact ⟨i, by omega, e⟩
  ·rw [e1] at hi
   rw [e2] at h2 ⊢
   rw [hD]
   by_cases qi : i = xs.length
   ·simp only [qi, if_true] at h2 ⊢
    rw [if_pos h2, Maps.atKey_put_same h.vm.is (by simp [WideAt.IsKeyLit])]
   ·simp only [if_neg qi] at h2 ⊢
    have hg := h.vm.get i (by omega) h2
    split
    ·rename_i q
     rw [Maps.atKey_put_other (by simpa using hfresh q i (by omega) h2)]
     exact hg
    ·exact hg
  ·rw [hD] at hc
   rw [e1, e2]
   have old : ∀ c : Int, (∃ i : Nat, i < xs.length ∧ (lbX xs i).1 = 2 ∧ c = i) → ∃ i : Nat, i < xs.length + 1 ∧ ((if i = xs.length then (x.is, x.name) else lbX xs i)).1 = 2 ∧ c = i := fun c ⟨i, h1, h2, h3⟩ => ⟨i, by omega, by rw [if_neg (show i ≠ xs.length by omega)]; exact h2, h3⟩
   split at hc
   ·rename_i q
    by_cases qk : kl = .string x.name
    ·have := hc (.lit (.int .i64 0))
     rw [qk, Maps.atKey_put_same h.vm.is (by simp [WideAt.IsKeyLit])] at this
     refine ⟨xs.length, by omega, by simp [q], ?_⟩
     injection this with this
     injection this with _ this
     exact this.symm
    ·refine old c (h.vm.all kl c fun zd => ?_)
     have := hc zd
     rw [Maps.atKey_put_other qk] at this
     exact this
   ·exact old c (h.vm.all kl c hc)
  ·rw [e1] at hi
   rw [e2] at h2 ⊢
   by_cases qi : i = xs.length
   ·simp only [qi, if_true] at h2 ⊢
    exact (hv h2).2.1
   ·simp only [if_neg qi] at h2 ⊢
    exact h.vm.nn i (by omega) h2
 ·rw [e5]
  intro i
  by_cases qi : i = xs.length
  ·rw [qi, putN_self, hw]
   omega
  ·rw [putN_other _ _ qi]
   exact h.wm i
 ·rw [e3]
  intro i
  by_cases qi : i = xs.length
  ·simp only [qi, if_true]
   exact h6
  ·simp only [if_neg qi]
   exact h.few i
 ·refine ⟨fun i hi h2 => ?_, fun c hc => ?_⟩
  ·rw [e1] at hi
   rw [e2] at h2 ⊢
   by_cases qi : i = xs.length
   ·simp only [qi, if_true] at h2 ⊢
    rw [h2, (hv h2).1]
    refine (subL_free (vok_cons.2 ⟨fun _ => rfl, vok_nil⟩) fun c hc hm => ?_).symm
    obtain ⟨k, hk, e⟩ := h.vb.low c hc
    have e' : c.1 = x.name := by
     have := List.mem_singleton.1 hm
     injection this with _ this
     injection this with this _
    exact hfresh h2 k hk (by rw [e]) (by rw [e]; exact e')
   ·simp only [if_neg qi] at h2 ⊢
    exact h.vb.dn i (by omega) h2
  ·obtain ⟨k, hk, e⟩ := h.vb.low c hc
   rw [e1, e2]
   exact ⟨k, by omega, by simp only [if_neg (show k ≠ xs.length by omega)]; exact e⟩
 ·simp only [if_true]
  split
  ·rename_i q
   rw [(hv q).1, q]
   rfl
  ·rfl
end Go.Proofs.YtikpipenhamdbaaGreat

namespace Go.Proofs.YtikpipenhamdbaaGreat
open Go.RowKit Go.Maps

/-- Between the rounds of lay's loop. -/
structure LyR (lo G b wk : Nat) (R : Nat → Prop) (w0 wr : World) (z za : Nat) (hd : Array Value) (xs : List Gx) (D : DataW Unit) (cs : List Nat) : Prop where
 gx : GX wr lo G b (fun g => g = za ∨ R g) xs D wk
 gk : Gk lo G b w0 wr
 row : wr.heap[za]? = some (.cells (cs.map fun (x : Nat) => Value.int .i64 x).toArray 3 (0, 0))
 box : wr.heap[z]? = some (.cells hd 29 (0, 0))
theorem LyR.next {lo G b wk z za : Nat} {R : Nat → Prop} {w0 wr w1 : World} {hd : Array Value} {xs xs' : List Gx} {D D' : DataW Unit} {cs : List Nat} (h : LyR lo G b wk R w0 wr z za hd xs D cs) (hn : za ≠ G ∧ za ≠ b ∧ z ≠ G ∧ z ≠ b) (hk : Gk lo G b wr w1) (hx : GX w1 lo G b (fun g => g = za ∨ R g) xs' D' wk) : LyR lo G b wk R w0 w1 z za hd xs' D' cs :=
 ⟨hx, h.gk.trans hk, hk.keep _ _ h.row hn.1 hn.2.1 (by intro c fz e; exact absurd (cells_ty (congrArg some e)) (by decide)), hk.keep _ _ h.box hn.2.2.1 hn.2.2.2 (by intro c fz e; exact absurd (cells_ty (congrArg some e)) (by decide))⟩
theorem LyR.sm {lo G b wk z za : Nat} {R : Nat → Prop} {w0 wr w1 : World} {hd : Array Value} {xs : List Gx} {D : DataW Unit} {cs : List Nat} (h : LyR lo G b wk R w0 wr z za hd xs D cs) (hn : za ≠ G ∧ za ≠ b ∧ z ≠ G ∧ z ≠ b) (s : Sm wr w1) : LyR lo G b wk R w0 w1 z za hd xs D cs := h.next hn (Gk.of_sm s) (h.gx.sm s)
theorem LyR.store {lo G b wk z za : Nat} {R : Nat → Prop} {w0 wr : World} {hd : Array Value} {xs : List Gx} {D : DataW Unit} {cs : List Nat} (h : LyR lo G b wk R w0 wr z za hd xs D cs) (hz : w0.heap.size ≤ za) (hlo : lo ≤ w0.heap.size) (hzz : z ≠ za) (j c : Nat) : LyR lo G b wk R w0 (wr.setCell ⟨za, j, none⟩ (.int .i64 c)) z za hd xs D (cs.set j c) := by
 have hoth : ∀ k, k ≠ za → (wr.setCell ⟨za, j, none⟩ (.int .i64 c)).heap[k]? = wr.heap[k]? := fun k hk => Below.heap_setCell _ _ _ _ hk
 refine ⟨h.gx.aside (.inl rfl) h.row _ _, ⟨h.gk.os, h.gk.tape, h.gk.output, by simpa [World.setCell] using h.gk.size, fun k hk => ?_, fun k o h1 h2 h3 h4 => ?_⟩, ?_, ?_⟩
 ·rw [hoth k (by omega)]
  exact h.gk.low k hk
 ·rw [hoth k (by have := lt_of_heap h1; omega)]
  exact h.gk.keep k o h1 h2 h3 h4
 ·rw [setCell_block h.row, List.map_set]
  simp
 ·rw [hoth z hzz]
  exact h.box
theorem LyR.cell {lo G b wk z za : Nat} {R : Nat → Prop} {w0 wr : World} {hd : Array Value} {xs : List Gx} {D : DataW Unit} {cs : List Nat} (h : LyR lo G b wk R w0 wr z za hd xs D cs) (j : Nat) : wr.cell? ⟨za, j, none⟩ = (cs[j]?).map fun (x : Nat) => Value.int .i64 x := by
 simp only [World.cell?, h.row]
 simp
/-- What was there is there, and means what it meant. -/
def Old (xs ys : List Gx) (dn dn' : Nat → List Nd) (rt rt' : Nat → Nat) : Prop := ∀ j, j < xs.length → dn' j = dn j ∧ rt' j = rt j ∧ lbX ys j = lbX xs j ∧ (inX xs j = true → inX ys j = true)
theorem Old.refl (xs : List Gx) (dn : Nat → List Nd) (rt : Nat → Nat) : Old xs xs dn dn rt rt := fun _ _ => ⟨rfl, rfl, rfl, id⟩
theorem Old.trans {xs ys zs : List Gx} {dn dn' dn2 : Nat → List Nd} {rt rt' rt2 : Nat → Nat} (h : Old xs ys dn dn' rt rt') (hl : xs.length ≤ ys.length) (k : Old ys zs dn' dn2 rt' rt2) : Old xs zs dn dn2 rt rt2 := fun j hj => by
 obtain ⟨a1, a2, a3, a4⟩ := h j hj
 obtain ⟨b1, b2, b3, b4⟩ := k j (by omega)
 exact ⟨b1.trans a1, b2.trans a2, b3.trans a3, fun q => b4 (a4 q)⟩
/-- What a call of lay does. -/
def LayAll (w0 : World) (lo G b wk : Nat) (L : List (List UInt8 × List Nd)) (x : Value) (row : List Nd) : Prop :=
 ∀ (w : World) (R : Nat → Prop) (xs : List Gx) (D : DataW Unit) (dn : Nat → List Nd) (rt rk : Nat → Nat), Below lo w0 w → (∀ g, R g → g < w.heap.size) → GX w lo G b R xs D wk → Mn wk xs D dn rt rk L → xs.length + row.length ≤ 200000000 →
  Calls Tryz.prog 28 #[.pointer (some ⟨G, 0, none⟩), x] w fun e w' => ∃ k : Nat, e = .returned (.int .i64 k) ∧ Gk lo G b w w' ∧ ∃ (ys : List Gx) (D' : DataW Unit) (dn' : Nat → List Nd) (rt' rk' : Nat → Nat), GX w' lo G b R ys D' wk ∧ Mn wk ys D' dn' rt' rk' L ∧ k < ys.length ∧ dn' k = subL L row ∧ xs.length ≤ ys.length ∧ ys.length ≤ xs.length + row.length ∧ Old xs ys dn dn' rt rt'
theorem Gk.below {lo G b : Nat} {w w' : World} (h : Gk lo G b w w') : Below lo w w' := ⟨h.os, h.tape, h.output, h.size, h.low⟩
/-- The rounds, with what they mean: j arguments are laid. -/
structure LyM (lo G b wk : Nat) (R : Nat → Prop) (L : List (List UInt8 × List Nd)) (w0 wr : World) (z za : Nat) (hd : Array Value) (d : Nat) (ts : List (Tn d)) (xs0 : List Gx) (dn0 : Nat → List Nd) (rt0 : Nat → Nat) (j : Nat) : Prop where
 ex : ∃ (xs : List Gx) (D : DataW Unit) (dn : Nat → List Nd) (rt rk : Nat → Nat) (cs : List Nat), LyR lo G b wk R w0 wr z za hd xs D cs ∧ Mn wk xs D dn rt rk L ∧ cs.length = ts.length ∧ (∀ i (h : i < cs.length) (h' : i < ts.length), i < j → cs[i] < xs.length ∧ dn cs[i] = subL L (flat d ts[i]) ∧ ((lbX xs (rt cs[i])).1 = 2 → inX xs (rt cs[i]) = true)) ∧ xs0.length ≤ xs.length ∧ xs.length ≤ xs0.length + (flats d (ts.take j)).length ∧ Old xs0 xs dn0 dn rt0 rt
theorem flat_laid {d : Nat} (dn : Nat → List Nd) (L : List (List UInt8 × List Nd)) : ∀ (cs : List Nat) (ts : List (Tn d)), cs.length = ts.length → (∀ i (h : i < cs.length) (h' : i < ts.length), dn cs[i] = subL L (flat d ts[i])) → cs.flatMap dn = subL L (flats d ts)
 | [], [], _, _ => by rw [flats_nil, subL_nil]; rfl
 | [], _ :: _, h, _ => by simp at h
 | _ :: _, [], h, _ => by simp at h
 | c :: cs, t :: ts, h, hp => by
  rw [List.flatMap_cons, flats_cons, subL_app, flat_laid dn L cs ts (by simpa using h) fun i h1 h2 => hp (i + 1) (by simpa using h1) (by simpa using h2)]
  congr 1
  exact hp 0 (by simp) (by simp)
set_option maxHeartbeats 16000000 in
set_option maxRecDepth 10000 in
theorem lay_node {lo G b wk : Nat} {L : List (List UInt8 × List Nd)} (w0 : World) (d : Nat) (IH : ∀ (x : Value) (t : Tn d), TyAt w0 lo d x t → formB d t = true → LayAll w0 lo G b wk L x (flat d t)) (k : Int) (n : List UInt8) (ts : List (Tn d)) (x : Value) (hx : TyAt w0 lo (d + 1) x ((k, n), ts)) (hf : formB (d + 1) ((k, n), ts) = true) (hk : k = 3 ∨ k = 4) : LayAll w0 lo G b wk L x (flat (d + 1) ((k, n), ts)) := by
 intro w R xs D dn rt rk hb0 hR hX hM hnum
 obtain ⟨v, hx, hnl, htl, hr⟩ := hx
 simp only at hx hnl htl hr
 subst hx
 rw [form_succ, Bool.and_eq_true, List.all_eq_true] at hf
 obtain ⟨hok, hall⟩ := hf
 have h6 : ts.length ≤ 6 := by
  rcases hk with rfl | rfl
  ·simp [okB] at hok
   omega
  ·simp [okB] at hok
   omega
 have hfN : formN k n ts.length = k := by unfold formN; rw [if_pos hok]
 obtain ⟨ad, cap, hv, hcl⟩ := hr.cells
 subst hv
 have CF : ∀ W, Calls Tryz.prog 49 #[.agg #[.int .i64 k, .string ⟨n.toArray⟩, .slice ad ts.length cap]] W fun e w' => e = .returned (.int .i64 k) ∧ Below W.heap.size W w' := fun W => by
  have := formOf_any k n ad ts.length cap W hnl (by omega)
  rw [hfN] at this
  exact this
 have hlt := hX.num
 obtain ⟨W, hW, hbW, hsW, b0, b1, b2⟩ := cells_box w (.int .i64 k) (.string ⟨n.toArray⟩) (.slice ad ts.length cap) 29
 have HX : Hid (∀ w1, Below W.heap.size W w1 → GX w1 lo G b R xs D wk ∧ Gk lo G b w w1 ∧ w1.heap[w.heap.size]? = some (.cells #[.int .i64 k, .string ⟨n.toArray⟩, .slice ad ts.length cap] 29 (0, 0))) := fun w1 hb => by
  have hb0 : Below w.heap.size w w1 := hbW.trans (hb.mono hbW.size)
  refine ⟨hX.below hb0, Gk.of_below hb0 hlt.2.1, ?_⟩
  rw [hb.block _ (by omega), hW]
  exact heap_alloc_new w _
 clear hbW hsW b0 b1 b2
 have hk2 : ¬ k = 2 := by omega
 have hk2' : (k == 2) = false := by simp; omega
 go_enter Tryz.func28, Tryz.ntmps28
 go_upto_region 1 with fail
 rw [← hW]
 clear hW
 obtain ⟨_, _, hbx⟩ := HX.out W (Below.refl _ _)
 obtain ⟨a0, a1, a2⟩ := heap_cells hbx
 go_upto_region 2 with (first | (go_at_call 49; (with_reducible refine Calls.mono (CF _) ?_); rintro e' w1 ⟨rfl, hb1⟩))
 obtain ⟨h1, k1', hbx1⟩ := HX.out _ hb1
 obtain ⟨x0, x1, x2⟩ := heap_cells hbx1
 obtain ⟨lc, hrun, c1⟩ : ∃ lc : Int, (∀ m, (Instr.lookup 63 (.map (some b)) (.string ⟨n.toArray⟩) true).run Tryz.prog (w1.drewN m) = .ok (.tuple #[.int .i64 lc, .bool (Maps.has D (.string n))]) (w1.drewN m)) ∧ w1.cell? ⟨G, 1, none⟩ = some (.map (some b)) := by
  obtain ⟨v, ns, _, hG, _⟩ := h1
  obtain ⟨lc, _, hat⟩ := hG.look n hnl
  refine ⟨lc, fun m => ?_, (heap_cells hG.box).2.1⟩
  obtain ⟨lc', hr, hat'⟩ := (hG.sm (w' := w1.drewN m) ⟨rfl, rfl, rfl, rfl⟩).look n hnl
  rw [hat] at hat'
  cases hat'
  exact hr
 clear CF hbx a0 a1 a2
 go_quiet (fail)
 generalize hw2 : w1.drewN _ = w2
 have s2 : Sm w1 w2 := by rw [← hw2]; exact ⟨rfl, rfl, rfl, rfl⟩
 clear hw2 hrun
 have h2 := h1.sm s2
 have hbx2 : w2.heap[w.heap.size]? = some (.cells #[.int .i64 k, .string ⟨n.toArray⟩, .slice ad ts.length cap] 29 (0, 0)) := by rw [s2.heap]; exact hbx1
 obtain ⟨y0, y1, y2⟩ := heap_cells hbx2
 have hmk := make_ints w2 ts.length (by omega)
 obtain ⟨cz, hcz⟩ : ∃ cz, cz = madeCells (Value.int .i64 0).cells ts.length := ⟨_, rfl⟩
 have hczl : cz = ((List.replicate ts.length 0).map fun (x : Nat) => Value.int .i64 x).toArray := by
  rw [hcz]
  apply Array.ext
  ·simp [madeCells]
  ·intro j h1 h2
   simp [madeCells, Value.cells, Nat.mod_one]
 rw [← hcz] at hmk
 have HCZ : Hid (cz = ((List.replicate ts.length 0).map fun (x : Nat) => Value.int .i64 x).toArray) := hczl
 clear hcz hczl
 go_upto_region 6 with fail
 have hza : w.heap.size < w2.heap.size := lt_of_heap hbx2
 have hb3 : Below w2.heap.size w2 (w2.alloc (.cells cz 3)) := (Below.refl _ _).alloc (Nat.le_refl _) _
 have k2' : Gk lo G b w w2 := k1'.trans (Gk.of_sm s2)
 have F0 : LyR lo G b wk R w (w2.alloc (.cells cz 3)) w.heap.size w2.heap.size #[.int .i64 k, .string ⟨n.toArray⟩, .slice ad ts.length cap] xs D (List.replicate ts.length 0) := by
  refine ⟨?_, k2'.trans (Gk.of_below hb3 (by omega)), by rw [← HCZ.out]; exact heap_alloc_new w2 _, (hb3.block _ hza).trans hbx2⟩
  obtain ⟨v, ns, e, hG, hr⟩ := h2
  refine ⟨v, ns, e, hG.below hb3, fun m hm h0 g hg => ?_⟩
  rcases hg with rfl | hg
  ·intro e2
   rcases hG.arg m hm with q | ⟨g', q1, _, q3⟩
   ·exact h0 q
   ·rw [q1] at e2
    have e2 : g' = w2.heap.size := by cases e2; rfl
    have := lt_of_heap q3
    omega
  ·exact hr m hm h0 g hg
 clear hmk hbx2 y0 y1 y2 hb3 k2' s2 h1 k1' hbx1 x0 x1 x2 c1 hb1 HX h2
 generalize w2.alloc (.cells cz 3) = w3 at *
 generalize w2.heap.size = za at *
 have hne : za ≠ G ∧ za ≠ b ∧ w.heap.size ≠ G ∧ w.heap.size ≠ b := by omega
 obtain ⟨y0, y1, y2⟩ := heap_cells F0.box
 have M0 : LyM lo G b wk R L w w3 w.heap.size za #[.int .i64 k, .string ⟨n.toArray⟩, .slice ad ts.length cap] d ts xs dn rt 0 := ⟨xs, D, dn, rt, rk, _, F0, hM, by simp, fun i _ _ h => by omega, Nat.le_refl _, by simp, Old.refl _ _ _⟩
 have HW0 : Hid (Below lo w0 w) := hb0
 have HRw : Hid (∀ g, R g → g < w.heap.size) := hR
 have HCL : Hid (ts ≠ [] → ∃ g o, ad = some ⟨g, o, none⟩ ∧ ts.length ≤ cap ∧ g < lo ∧ ∀ j (h : j < ts.length), ∃ k n ad' len' cap', (∀ w', Below lo w0 w' → w'.cell? ⟨g, o + j * 3, none⟩ = some (.int .i64 k) ∧ w'.cell? ⟨g, o + j * 3 + 1, none⟩ = some (.string n) ∧ w'.cell? ⟨g, o + j * 3 + 2, none⟩ = some (.slice ad' len' cap')) ∧ TyAt w0 lo d (.agg #[.int .i64 k, .string n, .slice ad' len' cap']) ts[j]) := hcl
 have HIH : Hid (∀ (x : Value) (t : Tn d), TyAt w0 lo d x t → formB d t = true → LayAll w0 lo G b wk L x (flat d t)) := IH
 have HAL : Hid (∀ t ∈ ts, formB d t = true) := hall
 have HNU : Hid (xs.length + (flats d ts).length + 1 ≤ 200000000) := by
  show _ ≤ _
  rw [flat_succ, List.length_cons] at hnum
  omega
 have HMS : Hid (LyM lo G b wk R L w w3 w.heap.size za #[.int .i64 k, .string ⟨n.toArray⟩, .slice ad ts.length cap] d ts xs dn rt 0) := M0
 have HLO : Hid (lo ≤ w.heap.size) := hlt.2.1
 clear F0 hM M0 hb0 hR hcl IH hall hnum hX
 go_wp2
 go_loopw [36] (fun i wr => ∃ j : Nat, j ≤ ts.length ∧ i = .int .i64 j ∧ Hid (LyM lo G b wk R L w wr w.heap.size za #[.int .i64 k, .string ⟨n.toArray⟩, .slice ad ts.length cap] d ts xs dn rt j)) (fun i _ => ts.length - (intOf i).toNat)
 case atStart => exact ⟨0, by omega, by go_num, HMS.out⟩
 case round =>
  obtain ⟨j, hj, rfl, HP⟩ := hrel
  obtain ⟨xs1, D1, dn1, rt1, rk1, cs, F, M, hcl, hcs, hg1, hg2, hold⟩ := HP.out
  by_cases hjt : j < ts.length
  ·have hjt' : (j : Int) < (ts.length : Int) := by omega
   obtain ⟨g0, o0, hadr, hcapt, hgB, hel⟩ := HCL.out (by intro e; rw [e] at hjt; simp at hjt)
   subst hadr
   obtain ⟨k1, n1, ad1, l1, cp1, hcel, T1⟩ := hel j hjt
   have hbw : Below lo w0 wr := HW0.out.trans F.gk.below
   obtain ⟨p0, p1, p2⟩ := hcel wr hbw
   have hbU : Below wr.heap.size wr (wr.alloc (Obj.cells #[.int .i64 k1, .string n1, .slice ad1 l1 cp1] 29)) := (Below.refl _ _).alloc (Nat.le_refl _) _
   have hlo2 : lo ≤ wr.heap.size := by have := F.gk.size; have := HLO.out; omega
   have F1 := F.next hne (Gk.of_below hbU hlo2) (F.gx.below hbU)
   have hfl : (flats d (ts.take (j + 1))).length = (flats d (ts.take j)).length + (flat d ts[j]).length := by
    rw [List.take_succ_eq_append_getElem hjt, flats_app, List.length_append, flats_cons, flats_nil, List.append_nil]
   have hfl2 : (flats d (ts.take (j + 1))).length ≤ (flats d ts).length := by
    have : flats d ts = flats d (ts.take (j + 1)) ++ flats d (ts.drop (j + 1)) := by rw [← flats_app, List.take_append_drop]
    rw [this, List.length_append]
    omega
   have CJ := HIH.out _ ts[j] T1 (HAL.out _ (List.getElem_mem hjt)) (wr.alloc (Obj.cells #[.int .i64 k1, .string n1, .slice ad1 l1 cp1] 29)) (fun g => g = za ∨ R g) xs1 D1 dn1 rt1 rk1 (hbw.trans (hbU.mono hlo2)) (fun g hg => by
    rcases hg with e | e
    ·rw [e]
     exact lt_of_heap F1.row
    ·have := HRw.out g e
     have := F1.gk.size
     omega) F1.gx M (by have := HNU.out; omega)
   have C1 : Calls Tryz.prog 28 #[.pointer (some ⟨G, 0, none⟩), .agg #[.int .i64 k1, .string n1, .slice ad1 l1 cp1]] (wr.alloc (Obj.cells #[.int .i64 k1, .string n1, .slice ad1 l1 cp1] 29)) fun e w' => ∃ kk : Nat, e = .returned (.int .i64 kk) ∧ kk ≤ 200000000 ∧ w'.cell? ⟨za, j, none⟩ ≠ none ∧ w'.frozen? ⟨za, j, none⟩ = false ∧ Hid (∃ (ys : List Gx) (D' : DataW Unit) (dn' : Nat → List Nd) (rt' rk' : Nat → Nat), LyR lo G b wk R w w' w.heap.size za #[.int .i64 k, .string ⟨n.toArray⟩, .slice (some ⟨g0, o0, none⟩) ts.length cap] ys D' cs ∧ Mn wk ys D' dn' rt' rk' L ∧ kk < ys.length ∧ dn' kk = subL L (flat d ts[j]) ∧ xs1.length ≤ ys.length ∧ ys.length ≤ xs1.length + (flat d ts[j]).length ∧ Old xs1 ys dn1 dn' rt1 rt') := by
    refine Calls.mono CJ ?_
    rintro e w' ⟨kk, rfl, hk4, ys, D', dn', rt', rk', hX4, hM4, h5, h6, h7, h8, h9⟩
    have F4 := F1.next hne hk4 hX4
    refine ⟨kk, rfl, by have := hX4.num.1; omega, ?_, heap_frozen F4.row, ys, D', dn', rt', rk', F4, hM4, h5, h6, h7, h8, h9⟩
    rw [F4.cell j, List.getElem?_eq_getElem (by omega)]
    simp
   obtain ⟨y0, y1, y2⟩ := heap_cells F.box
   clear F1 hbU hbw CJ hel hcel T1
   go_upto_region 10 with (first
    | (go_at_call 28; (with_reducible refine Calls.mono C1 ?_); rintro e' w4 ⟨kk, rfl, hkk, hcc, fA, HE⟩; obtain ⟨uu, rA⟩ := Option.ne_none_iff_exists'.1 hcc))
   obtain ⟨ys, D', dn', rt', rk', F4, M4, hkl, hdk, hl1, hl2, hold4⟩ := HE.out
   have F5 := F4.store (by omega) HLO.out (by omega) j kk
   generalize w4.setCell ⟨za, j, none⟩ (.int .i64 kk) = v1 at F5 ⊢
   have F6 := F5.sm hne (w1 := v1.drew) ⟨rfl, rfl, rfl, rfl⟩
   have C2 := end_any F6.gx M4.den kk hkl
   have rB : v1.cell? ⟨za, j, none⟩ = some (.int .i64 kk) := by
    rw [F5.cell j, List.getElem?_set_self (by omega)]
    rfl
   obtain ⟨g1, cp1', ad2, m0, _, mgG, _⟩ := F5.gx.at hkl
   have hrl : rt' kk < ys.length := Den.rt_lt M4.den hkl
   have C3 : Calls Tryz.prog 46 #[.pointer (some ⟨G, 0, none⟩), .int .i64 kk] v1.drew fun e w' => e = .returned (.int .i64 (rt' kk : Nat)) ∧ (w'.cell? ⟨G, 0, none⟩ = some (.slice (some ⟨g1, 0, none⟩) ys.length cp1') ∧ w'.cell? ⟨za, j, none⟩ = some (.int .i64 kk) ∧ w'.frozen? ⟨g1, rt' kk * 6 + 4, none⟩ = false ∧ (∃ u, w'.cell? ⟨g1, rt' kk * 6 + 4, none⟩ = some u) ∧ g1 ≠ za) ∧ Hid (∀ w2, Sm (w'.setCell ⟨g1, rt' kk * 6 + 4, none⟩ (.bool true)) w2 → LyM lo G b wk R L w w2 w.heap.size za #[.int .i64 k, .string ⟨n.toArray⟩, .slice (some ⟨g0, o0, none⟩) ts.length cap] d ts xs dn rt (j + 1)) := by
    refine Calls.mono C2 ?_
    rintro e w' ⟨rfl, ⟨ys2, hE2, hD2, hX2⟩, hK2, hS2, hZ2⟩
    have F7 := F6.next hne hK2 hX2
    obtain ⟨g2, cap2, r0, r1, r2, ⟨r3, r4⟩, r5, r6⟩ := hX2.mark (i := rt' kk) (by rw [hE2.len]; exact hrl)
    have eG : w'.cell? ⟨G, 0, none⟩ = some (.slice (some ⟨g1, 0, none⟩) ys.length cp1') := by
     have : v1.drew.heap[G]? = w'.heap[G]? := (hS2 G fun c fz e => by
      obtain ⟨v, ns, _, hG, _⟩ := F6.gx
      rw [hG.box] at e
      exact absurd (cells_ty e) (by decide)).symm
     rw [← m0]
     exact (World.cell?_of_block (w := v1.drew) this.symm)
    have e12 : g1 = g2 := by
     rw [r0] at eG
     exact (slice_block eG).symm
    subst e12
    refine ⟨rfl, ⟨eG, ?_, r1, r2, r4 _ _ F7.row⟩, fun w2 s => ?_⟩
    ·rw [F7.cell j, List.getElem?_set_self (by omega)]
     rfl
    ·have F8 := (F7.next hne r6 r5).sm hne s
     obtain ⟨i1, i2, i3, i4, i5, i6⟩ := insX_eq ys2 (i := rt' kk) (by rw [hE2.len]; exact hrl)
     refine ⟨insX ys2 (rt' kk), D', dn', rt', rk', cs.set j kk, F8, (M4.eqg hE2 hD2).mark (by rw [hE2.len]; exact hrl), by rw [List.length_set]; exact hcl, fun i h h' hij => ?_, by rw [i1, hE2.len]; omega, by rw [i1, hE2.len]; omega, hold.trans hg1 (hold4.trans hl1 fun q hq => ⟨rfl, rfl, by rw [i2, hE2.lb], fun hin => by rw [i6, hE2.ins]; exact setM_mono _ _ _ hin⟩)⟩
     rw [i1, i2, i6, hE2.len, hE2.lb, hE2.ins]
     by_cases hji : i = j
     ·subst hji
      rw [List.getElem_set_self]
      exact ⟨hkl, hdk, fun _ => setM_self _ _⟩
     ·rw [List.getElem_set_ne (by omega)]
      obtain ⟨t1, t2, t3⟩ := hcs i (by simpa using h) h' (by omega)
      obtain ⟨u1, u2, u3, u4⟩ := hold4 _ t1
      refine ⟨by omega, u1.trans t2, fun q => setM_mono _ _ _ ?_⟩
      have hr1 := Den.rt_lt M.den t1
      rw [u2] at q ⊢
      obtain ⟨_, _, v3, v4⟩ := hold4 _ hr1
      rw [v3] at q
      exact v4 (t3 q)
   have hx1 := F5.gx.num.1
   generalize rt' kk = rr at C3 hrl
   have j1 : (0 : Int) ≤ (rr : Int) := by omega
   have j2 : (rr : Int) < (ys.length : Int) := by omega
   have j3 : (0 : Int) ≤ (j : Int) := by omega
   have e1 : ¬ g1 = G := mgG
   have e2 : ¬ G = g1 := fun e => mgG e.symm
   clear C1 F F4 F5 F6 C2 M M4 HE HP hcs hold hold4 hdk rA fA hcc
   go_region_held3 (fun w' => w'.cell? ⟨G, 0, none⟩ = some (.slice (some ⟨g1, 0, none⟩) ys.length cp1') ∧ w'.cell? ⟨za, j, none⟩ = some (.int .i64 kk)) (first | exact ⟨m0, rB⟩ | exact ⟨q0, q1⟩ | assumption | go_keep) (first | (go_at_call 46; (with_reducible refine Calls.mono C3 ?_); rintro e' w5 ⟨rfl, ⟨q0, q1, q2, ⟨uu2, q3⟩, q4⟩, HF⟩; have e3 : ¬ g1 = za := q4; have e4 : ¬ za = g1 := fun e => q4 e.symm))
   go_wp2
   go_roundw
   case rel => exact ⟨j + 1, by omega, by go_num, HF.out _ ⟨rfl, rfl, rfl, rfl⟩⟩
   case measure => simp [intOf]; omega
  ·have hjn : ¬ (j : Int) < (ts.length : Int) := by omega
   have hje : j = ts.length := by omega
   subst hje
   have HFL : Hid (cs.flatMap dn1 = subL L (flats d ts)) := flat_laid dn1 L cs ts hcl fun i h h' => (hcs i h h' h').2.1
   have hlen1 : xs1.length + 1 ≤ 200000000 := by
    rw [List.take_length] at hg2
    have := HNU.out
    omega
   obtain ⟨dn2, rt2, hM2, hold2, hdn2⟩ := M.more (D' := D1) { is := k, name := n, ar := cs, tg := xs1.length, ins := false, walk := 0 } rfl rfl (fun a ha => by
    obtain ⟨i, hi, rfl⟩ := List.mem_iff_getElem.1 ha
    obtain ⟨q1, _, q3⟩ := hcs i hi (by rw [← hcl]; exact hi) (by rw [← hcl]; exact hi)
    exact ⟨q1, q3⟩) (by show cs.length ≤ 6; omega) (fun e => absurd e hk2) (by show D1 = if k = 2 then _ else _; rw [if_neg hk2])
   have HRES : Hid (∀ U, GX U lo G b R (xs1 ++ [{ is := k, name := n, ar := cs, tg := xs1.length, ins := false, walk := 0 }]) D1 wk → Gk lo G b w U → ∃ kk : Nat, Ending.returned (.int .i64 (xs1.length : Nat)) = .returned (.int .i64 kk) ∧ Gk lo G b w U ∧ ∃ (ys : List Gx) (D' : DataW Unit) (dn' : Nat → List Nd) (rt' rk' : Nat → Nat), GX U lo G b R ys D' wk ∧ Mn wk ys D' dn' rt' rk' L ∧ kk < ys.length ∧ dn' kk = subL L (flat (d + 1) ((k, n), ts)) ∧ xs.length ≤ ys.length ∧ ys.length ≤ xs.length + (flat (d + 1) ((k, n), ts)).length ∧ Old xs ys dn dn' rt rt') := fun U h1 h2 => by
    refine ⟨xs1.length, rfl, h2, _, _, _, _, _, h1, hM2, by simp, ?_, by simp; omega, ?_, hold.trans hg1 fun q hq => ?_⟩
    ·rw [hdn2]
     show (if k = 2 then _ else _) = _
     rw [if_neg hk2, flat_succ, subL_node (show ((k, n, ts.length) : Nd).1 ≠ 2 from hk2), ← HFL.out, ← hcl]
    ·rw [flat_succ, List.length_cons]
     rw [List.take_length] at hg2
     simp
     omega
    ·obtain ⟨_, a2, _, _, _, a6⟩ := app_eq xs1 { is := k, name := n, ar := cs, tg := xs1.length, ins := false, walk := 0 }
     obtain ⟨b1, b2⟩ := hold2 q hq
     refine ⟨b1, b2, by rw [a2]; exact if_neg (by omega), fun hin => ?_⟩
     rw [a6, if_neg (by omega)]
     exact hin
   obtain ⟨gx, gk, row, box⟩ := F
   obtain ⟨v, ns, hst, hG, hr⟩ := gx
   have HNL : Hid (ns.length = xs1.length) := by show _ = _; rw [← hst, List.length_map]
   have hnn : ns.length < 200000000 := by have := HNL.out; omega
   obtain ⟨va, vc, rfl⟩ := hG.form
   obtain ⟨d0, d1, d2⟩ := heap_cells hG.box
   obtain ⟨y0, y1, y2⟩ := heap_cells box
   obtain ⟨i0, hi, hz0, hz1, hz2⟩ := info_parts Tryz.info97
   have FIN : Hid (∀ g' cap' w5, w5.ownsRow lo 97 6 (.slice (some ⟨g', 0, none⟩) (ns.length + 1) cap') (ns.length + 1) (ns.flatMap gnC ++ [.int .i64 k, .string ⟨n.toArray⟩, .slice (some ⟨za, 0, none⟩) ts.length ts.length, .int .i64 ns.length, .bool false, .int .i64 0]) → ((wr.alloc (Obj.cells #[.int .i64 k, .string ⟨n.toArray⟩, .slice (some ⟨za, 0, none⟩) ts.length ts.length, .int .i64 ns.length, .bool false, .int .i64 0] 97)).drew).grownBy w5 (Value.slice va ns.length vc).ownBlock → w5.heap[G]? = some (.cells #[.slice va ns.length vc, .map (some b), .int .i64 wk] 66 (0, 0)) ∧ ∃ U, U = w5.setCell ⟨G, 0, none⟩ (.slice (some ⟨g', 0, none⟩) (ns.length + 1) cap') ∧ GX U lo G b R (xs1 ++ [{ is := k, name := n, ar := cs, tg := xs1.length, ins := false, walk := 0 }]) D1 wk ∧ Gk lo G b w U ∧ U.heap[w.heap.size]? = some (.cells #[.int .i64 k, .string ⟨n.toArray⟩, .slice ad ts.length cap] 29 (0, 0))) := fun g' cap' w5 ho hg' => by
    obtain ⟨q1, U, q2, q3, q4⟩ := hG.put (n := { is := k, name := n, ad := some ⟨za, 0, none⟩, ar := cs, tg := ns.length, ins := false, walk := 0 }) hnn (.inr ⟨za, rfl, by have := HLO.out; omega, row⟩) (by rw [show gnC { is := k, name := n, ad := some ⟨za, 0, none⟩, ar := cs, tg := ns.length, ins := false, walk := 0 } = [.int .i64 k, .string ⟨n.toArray⟩, .slice (some ⟨za, 0, none⟩) ts.length ts.length, .int .i64 ns.length, .bool false, .int .i64 0] by simp [gnC, Gn.av, hcl]]; exact ho) (o := Obj.cells #[.int .i64 k, .string ⟨n.toArray⟩, .slice (some ⟨za, 0, none⟩) ts.length ts.length, .int .i64 ns.length, .bool false, .int .i64 0] 97) ⟨hg'.os, hg'.tape, hg'.output, hg'.size, hg'.block⟩
    refine ⟨q1, U, q2, ⟨_, _, ?_, q3, fun m hm h0 g hg => ?_⟩, gk.trans q4, q4.keep _ _ box (by omega) (by omega) (by intro c fz e; exact absurd (cells_ty (congrArg some e)) (by decide))⟩
    ·rw [List.map_append, hst]
     simp [Gn.st, HNL.out]
    ·rcases List.mem_append.1 hm with hm | hm
     ·exact hr m hm h0 g (.inr hg)
     ·have hm := List.mem_singleton.1 hm
      rw [hm]
      intro e
      have e : za = g := by cases e; rfl
      have := HRw.out g hg
      omega
   have hlo3 := hG.lt.1
   have hG3 := hG.lt.2.1
   have hzl := lt_of_heap box
   have nG : ¬ G = wr.heap.size := by omega
   have nG' : ¬ wr.heap.size = G := by omega
   have nz : ¬ w.heap.size = wr.heap.size := by omega
   have nz' : ¬ wr.heap.size = w.heap.size := by omega
   have hown3 := hG.own
   clear hG gk hr hst HP M hcs hold hM2 hold2 hdn2 row
   go_wp2
   go_region_law ((refine step_append_lies _ (by rfl) _ _ _ (by rfl) lo 97 i0 _ 6 72 Tryz.underlying64 hi hz0 hz1 hz2 rfl (by omega) (.slice va ns.length vc) ns.length (ns.flatMap gnC) (by rfl) ((hown3.alloc _).drew) ⟨wr.heap.size, 0, none⟩ 1 1 [.int .i64 k, .string ⟨n.toArray⟩, .slice (some ⟨za, 0, none⟩) ts.length ts.length, .int .i64 ns.length, .bool false, .int .i64 0] (by rfl) (by rfl) (World.news_of_block (cs := #[.int .i64 k, .string ⟨n.toArray⟩, .slice (some ⟨za, 0, none⟩) ts.length ts.length, .int .i64 ns.length, .bool false, .int .i64 0]) (t := 97) (fr := (0, 0)) (heap_alloc_new wr _)) (by simp [Value.oneCell']) (by omega) (by unfold maxLen; omega) (by omega) (by simp; omega) (wr.heap.size + 1) (by simp) ?_; intro g' cap' w5 hown5 hgrow hat hlt5; obtain ⟨hG5, U, hU, hGS, hGk, hbU⟩ := FIN.out g' cap' w5 hown5 hgrow; obtain ⟨e0, e1, e2⟩ := heap_cells hG5; have fG := heap_frozen (o := 0) hG5))
   all_goals
    rw [← hU]
    clear hU hG5 e0 e1 e2 fG
    go_wp2
    go_ret
    obtain ⟨kk, r1, r2⟩ := HRES.out U hGS hGk
    exact ⟨kk, by rw [← r1, ← HNL.out]; rfl, r2⟩
end Go.Proofs.YtikpipenhamdbaaGreat

namespace Go.Proofs.YtikpipenhamdbaaGreat
open Go.RowKit Go.Maps

theorem lay_any {lo G b wk : Nat} {L : List (List UInt8 × List Nd)} (w0 : World) : ∀ (d : Nat) (x : Value) (t : Tn d), TyAt w0 lo d x t → formB d t = true → LayAll w0 lo G b wk L x (flat d t)
 | 0, _, t, _, _ => t.elim
 | d + 1, x, ((k, n), ts), hx, hf => by
  by_cases hk : k = 3 ∨ k = 4
  ·exact lay_node w0 d (lay_any w0 d) k n ts x hx hf hk
  ·intro w R xs D dn rt rk hb0 hR hX hM hnum
   have hf' := hf
   rw [form_succ, Bool.and_eq_true] at hf'
   obtain ⟨hok, _⟩ := hf'
   have hk12 : (k = 1 ∨ k = 2) ∧ ts = [] := by
    unfold okB at hok
    split at hok
    ·rename_i q
     rw [Bool.and_eq_true, decide_eq_true_eq] at hok
     exact ⟨.inl q, List.length_eq_zero_iff.1 hok.2⟩
    ·split at hok
     ·rename_i q
      rw [Bool.and_eq_true, decide_eq_true_eq] at hok
      exact ⟨.inr q, List.length_eq_zero_iff.1 hok.2⟩
     ·split at hok
      ·rename_i q
       exact absurd (.inl q) hk
      ·split at hok
       ·rename_i q
        exact absurd (.inr q) hk
       ·cases hok
   obtain ⟨h12, rfl⟩ := hk12
   obtain ⟨v, hx, hnl, _, hr⟩ := hx
   simp only at hx hnl hr
   subst hx
   obtain ⟨ad, cap, rfl⟩ := hr.len
   have hfN : formN k n 0 = k := by
    have hok : okB k n 0 = true := hok
    unfold formN
    rw [if_pos hok]
   have hfl : flat (d + 1) ((k, n), ([] : List (Tn d))) = [(k, n, 0)] := by rw [flat_succ, flats_nil]; rfl
   rw [hfl] at hnum ⊢
   have hnum : xs.length + 1 ≤ 200000000 := hnum
   by_cases hD : Maps.has D (.string n) = true
   ·have hk2 : k = 2 := by
     rcases h12 with rfl | rfl
     ·exfalso
      have hn0 : n = [] := by
       simp [okB] at hok
       exact hok
      obtain ⟨i, hi, e⟩ := (hM.vm.has n).1 hD
      have hv := hM.vm.nn i hi (by rw [e])
      rw [e, hn0] at hv
      exact absurd hv (by decide)
     ·rfl
    subst hk2
    obtain ⟨i, hi, e⟩ := (hM.vm.has n).1 hD
    have hg := hM.vm.get i hi (by rw [e])
    rw [e] at hg
    refine Calls.mono (layP_old lo G b wk n ad cap i xs D hnl hfN hD hg w R hR hX) ?_
    rintro e' w' ⟨rfl, hK, hX'⟩
    refine ⟨i, rfl, hK, xs, D, dn, rt, rk, hX', hM, hi, ?_, Nat.le_refl _, by omega, Old.refl _ _ _⟩
    have := hM.vb.dn i hi (by rw [e])
    rw [e] at this
    exact this
   ·have hD : Maps.has D (.string n) = false := by simpa using hD
    have hn2 : k = 2 → varB n = true := fun q => by
     rw [q] at hok
     simp [okB] at hok
     exact hok
    obtain ⟨dn2, rt2, hM2, hold2, hdn2⟩ := hM.more (D' := if k = 2 then D.put (.string n) (.lit (.int .i64 xs.length)) else D) { is := k, name := n, ar := [], tg := xs.length, ins := false, walk := 0 } rfl rfl (fun a ha => by simp at ha) (by simp) (fun e => ⟨rfl, hn2 e, hD⟩) rfl
    refine Calls.mono (layP_leaf lo G b wk k n ad cap xs D hnl h12 hfN hD (by omega) w R hR hX) ?_
    rintro e' w' ⟨rfl, hK, hX'⟩
    refine ⟨xs.length, rfl, hK, _, _, dn2, rt2, rk, hX', hM2, by simp, ?_, by simp, by simp, fun q hq => ?_⟩
    ·by_cases hk2 : k = 2
     ·subst hk2
      have := hM2.vb.dn xs.length (by simp) (by rw [(app_eq xs _).2.1]; simp)
      rw [(app_eq xs _).2.1] at this
      simpa using this
     ·rw [hdn2]
      show (if k = 2 then _ else _) = _
      rw [if_neg hk2, subL_node (show ((k, n, 0) : Nd).1 ≠ 2 from hk2), subL_nil]
      rfl
    ·obtain ⟨_, a2, _, _, _, a6⟩ := app_eq xs { is := k, name := n, ar := [], tg := xs.length, ins := false, walk := 0 }
     obtain ⟨b1, b2⟩ := hold2 q hq
     refine ⟨b1, b2, by rw [a2]; exact if_neg (by omega), fun hin => ?_⟩
     rw [a6, if_neg (by omega)]
     exact hin
end Go.Proofs.YtikpipenhamdbaaGreat

namespace Go.Proofs.YtikpipenhamdbaaGreat
open Go.RowKit Go.Maps

/-- The row of a node's arguments, block and all. -/
theorem GX.argRow {w : World} {lo G b wk : Nat} {R : Nat → Prop} {xs : List Gx} {D : DataW Unit} (h : GX w lo G b R xs D wk) {i : Nat} (hi : i < xs.length) {g cap : Nat} (c0 : w.cell? ⟨G, 0, none⟩ = some (.slice (some ⟨g, 0, none⟩) xs.length cap)) :
  ∃ ad, w.cell? ⟨g, i * 6 + 2, none⟩ = some (.slice ad (arX xs i).length (arX xs i).length) ∧ (arX xs i = [] ∨ ∃ ga, ad = some ⟨ga, 0, none⟩ ∧ w.heap[ga]? = some (.cells ((arX xs i).map fun (x : Nat) => Value.int .i64 x).toArray 3 (0, 0))) := by
 have e2 : xs[i].ar = arX xs i := by unfold arX; rw [getD_at hi]
 obtain ⟨v, ns, rfl, hG, hr⟩ := h
 have hi' : i < ns.length := by simpa using hi
 rw [List.length_map] at c0
 obtain ⟨g', cap', hv, _, _, _, ⟨c0', _, _⟩, ⟨n0, n1, n2, n3, n4, n5⟩, _⟩ := hG.cells hi'
 rw [c0] at c0'
 have eg := slice_block c0'
 subst eg
 have ea : ns[i].ar = arX (ns.map Gn.st) i := by rw [← e2]; simp [Gn.st]
 have n2 : w.cell? ⟨g, i * 6 + 2, none⟩ = some (.slice ns[i].ad ns[i].ar.length ns[i].ar.length) := n2
 rw [ea] at n2
 refine ⟨ns[i].ad, n2, ?_⟩
 rcases hG.arg ns[i] (List.getElem_mem hi') with q | ⟨g2, q1, _, q3⟩
 ·exact .inl (by rw [← ea]; exact q)
 ·exact .inr ⟨g2, q1, by rw [ea] at q3; exact q3⟩
/-- Where a row in a cell lies. -/
def sliceAd (w : World) (p : Addr) : Option Addr := match w.cell? p with | some (.slice ad _ _) => ad | _ => none
theorem sliceAd_eq {w : World} {p : Addr} {ad : Option Addr} {n c : Nat} (h : w.cell? p = some (.slice ad n c)) : w.cell? p = some (.slice (sliceAd w p) n c) ∧ sliceAd w p = ad := by
 have : sliceAd w p = ad := by unfold sliceAd; rw [h]
 exact ⟨by rw [this]; exact h, this⟩
/-- How many of so many are left behind so many. -/
def leftN (n left : Nat) : Int := if n ≤ left then ((left - n : Nat) : Int) else -1
theorem leftN_ok {n left : Nat} (h : n ≤ left) : leftN n left = ((left - n : Nat) : Int) := if_pos h
theorem leftN_bad {n left : Nat} (h : ¬ n ≤ left) : leftN n left = -1 := if_neg h
theorem leftN_more {n m left : Nat} (h : n ≤ left) : leftN m (left - n) = leftN (n + m) left := by
 unfold leftN
 by_cases q : m ≤ left - n
 ·rw [if_pos q, if_pos (by omega)]
  omega
 ·rw [if_neg q, if_neg (by omega)]
theorem takeN_flat (dn : Nat → List Nd) (aL : List Nat) (k : Nat) (h : k < aL.length) : ((aL.take (k + 1)).flatMap dn).length = ((aL.take k).flatMap dn).length + (dn aL[k]).length := by
 rw [List.take_succ_eq_append_getElem h, List.flatMap_append, List.length_append]
 simp
theorem takeN_flat_le (dn : Nat → List Nd) (aL : List Nat) (k : Nat) : ((aL.take k).flatMap dn).length ≤ (aL.flatMap dn).length := by
 have := congrArg (fun l : List Nat => (l.flatMap dn).length) (List.take_append_drop k aL)
 simp only [List.flatMap_append, List.length_append] at this
 omega
set_option maxHeartbeats 8000000 in
set_option maxRecDepth 10000 in
theorem left_step {lo G b wk : Nat} {R : Nat → Prop} {D : DataW Unit} {dn : Nat → List Nd} {rt rk : Nat → Nat} (N : Nat) (IH : ∀ (xs : List Gx) (w : World) (i left : Nat), GX w lo G b R xs D wk → DenX xs dn rt rk → (∀ i, (arX xs i).length ≤ 6) → i < xs.length → (dn i).length ≤ N → left ≤ 500 → Calls Tryz.prog 50 #[.pointer (some ⟨G, 0, none⟩), .int .i64 i, .int .i64 left] w fun e w' => e = .returned (.int .i64 (leftN (dn i).length left)) ∧ Ended lo G b wk R xs D dn rt rk w w')
  (xs : List Gx) (w : World) (i left : Nat) (h : GX w lo G b R xs D wk) (d : DenX xs dn rt rk) (h6 : ∀ i, (arX xs i).length ≤ 6) (hi : i < xs.length) (hN : (dn i).length ≤ N + 1) (hl : left ≤ 500) :
  Calls Tryz.prog 50 #[.pointer (some ⟨G, 0, none⟩), .int .i64 i, .int .i64 left] w fun e w' => e = .returned (.int .i64 (leftN (dn i).length left)) ∧ Ended lo G b wk R xs D dn rt rk w w' := by
 have hform := Den.form d hi
 have hr := Den.rt_lt d hi
 have hlen : (dn i).length = 1 + ((arX xs (rt i)).flatMap dn).length := by rw [hform]; simp; omega
 have CI : Hid (∀ (ys : List Gx) (W : World) (a l : Nat), Eqg xs ys → DenX ys dn rt rk → GX W lo G b R ys D wk → a ∈ arX xs (rt i) → l ≤ 500 → Calls Tryz.prog 50 #[.pointer (some ⟨G, 0, none⟩), .int .i64 a, .int .i64 l] W fun e w' => e = .returned (.int .i64 (leftN (dn a).length l)) ∧ Ended lo G b wk R ys D dn rt rk W w') := fun ys W a l hE hd hX ha hl2 => by
  have hlt := Den.less d hi ha
  exact IH ys W a l hX hd (by rw [hE.ar]; exact h6) (by rw [hE.len]; exact Den.argr d hi ha) (by omega) hl2
 obtain ⟨g, cap, ad0, c0, -, hgG, hfr, -, -, -⟩ := h.at hr
 have hnum := h.num.1
 have i1 : (0 : Int) ≤ ((rt i : Nat) : Int) := by omega
 have i2 : ((rt i : Nat) : Int) < (xs.length : Int) := by omega
 have C1 : ∀ W, Sm w W → Calls Tryz.prog 46 #[.pointer (some ⟨G, 0, none⟩), .int .i64 i] W fun e w' => e = .returned (.int .i64 (rt i : Nat)) ∧ (w'.cell? ⟨G, 0, none⟩ = some (.slice (some ⟨g, 0, none⟩) xs.length cap) ∧ w'.cell? ⟨g, rt i * 6 + 2, none⟩ = some (.slice (sliceAd w' ⟨g, rt i * 6 + 2, none⟩) (arX xs (rt i)).length (arX xs (rt i)).length)) ∧ Hid ((arX xs (rt i) = [] ∨ ∃ ga, sliceAd w' ⟨g, rt i * 6 + 2, none⟩ = some ⟨ga, 0, none⟩ ∧ w'.heap[ga]? = some (.cells ((arX xs (rt i)).map fun (x : Nat) => Value.int .i64 x).toArray 3 (0, 0))) ∧ Ended lo G b wk R xs D dn rt rk w w') := fun W s => by
  refine Calls.mono (end_any (h.sm s) d i hi) ?_
  rintro e w' ⟨rfl, E⟩
  have E0 : Ended lo G b wk R xs D dn rt rk w w' := by
   obtain ⟨h1, h2, h3, h4⟩ := E
   exact ⟨h1, (Gk.of_sm s).trans h2, fun k hk => by rw [h3 k (by rw [s.heap]; exact hk), s.heap], by rw [h4, s.heap]⟩
  have c0' : w'.cell? ⟨G, 0, none⟩ = some (.slice (some ⟨g, 0, none⟩) xs.length cap) := by
   refine (World.cell?_of_block (w := w) (E0.same G fun c fz e => ?_)).trans c0
   obtain ⟨v, ns, _, hG, _⟩ := h
   rw [hG.box] at e
   exact absurd (cells_ty e) (by decide)
  obtain ⟨ys, hE, _, hX⟩ := E0.ex
  obtain ⟨ad, q1, q2⟩ := hX.argRow (i := rt i) (by rw [hE.len]; exact hr) (by rw [hE.len]; exact c0')
  rw [hE.ar] at q1 q2
  obtain ⟨k1, k2⟩ := sliceAd_eq q1
  rw [← k2] at q2
  exact ⟨rfl, ⟨c0', k1⟩, q2, E0⟩
 obtain ⟨_, q0, -⟩ := h.argRow hr c0
 have n0 := (sliceAd_eq q0).1
 clear q0
 have hL6 := h6 (rt i)
 have HLN : Hid ((dn i).length = 1 + ((arX xs (rt i)).flatMap dn).length) := hlen
 clear h d IH hform hlen hN hfr
 generalize arX xs (rt i) = aL at *
 go_enter Tryz.func50, Tryz.ntmps50
 go_wp2
 go_region_with (first | (go_at_call 46; (with_reducible refine Calls.mono (C1 _ ?_) ?_); exact ⟨rfl, rfl, rfl, rfl⟩; rintro e' w5 ⟨rfl, ⟨c5, n5⟩, HE⟩))
 all_goals
  obtain ⟨HSRC, HE0⟩ := HE.out
  generalize sliceAd w5 ⟨g, rt i * 6 + 2, none⟩ = ad at *
  go_wp2
  go_loopw [2, 8] (fun lv iv wr => ∃ k : Nat, k ≤ aL.length ∧ iv = .int .i64 k ∧ lv = .int .i64 (leftN (1 + ((aL.take k).flatMap dn).length) left) ∧ Hid ((aL = [] ∨ ∃ ga, ad = some ⟨ga, 0, none⟩ ∧ wr.heap[ga]? = some (.cells (aL.map fun (x : Nat) => Value.int .i64 x).toArray 3 (0, 0))) ∧ Ended lo G b wk R xs D dn rt rk w wr)) (fun _ iv _ => aL.length - (intOf iv).toNat)
  case atStart =>
   refine ⟨0, by omega, rfl, ?_, HSRC, HE0.sm ⟨rfl, rfl, rfl, rfl⟩⟩
   simp only [List.take_zero, List.flatMap_nil, List.length_nil]
   congr 1
   unfold leftN
   split <;> omega
  case round =>
   obtain ⟨k, hk, rfl, rfl, HP⟩ := hrel
   clear HSRC HE0 HE C1 c0 n0 c5 n5
   by_cases hkl : k = aL.length
   ·have HF : Hid (leftN (1 + ((aL.take k).flatMap dn).length) left = leftN (dn i).length left ∧ Ended lo G b wk R xs D dn rt rk w wr) := ⟨by rw [HLN.out, hkl, List.take_length], HP.out.2⟩
    have hkk : ¬ (k : Int) < (aL.length : Int) := by omega
    clear HP CI HLN hkl hk
    generalize leftN (1 + ((aL.take k).flatMap dn).length) left = lv at *
    go_wp2
    go_ret
    exact ⟨by rw [HF.out.1]; rfl, HF.out.2⟩
   ·have hlt : k < aL.length := by omega
    have hkk : (k : Int) < (aL.length : Int) := by omega
    have hk0 : (0 : Int) ≤ (k : Int) := by omega
    by_cases q : 1 + ((aL.take k).flatMap dn).length ≤ left
    ·obtain ⟨l2, hl2⟩ : ∃ l2, l2 = left - (1 + ((aL.take k).flatMap dn).length) := ⟨_, rfl⟩
     have e1 : leftN (1 + ((aL.take k).flatMap dn).length) left = (l2 : Int) := by rw [leftN_ok q, hl2]
     have e2 : leftN (dn aL[k]).length l2 = leftN (1 + ((aL.take (k + 1)).flatMap dn).length) left := by
      rw [hl2, leftN_more q, takeN_flat dn aL k hlt, Nat.add_assoc]
     obtain ⟨hsrc, hE⟩ := HP.out
     obtain ⟨ga, rfl, hga⟩ := hsrc.resolve_left (fun e => by rw [e] at hlt; simp at hlt)
     have hcell : wr.cell? ⟨ga, k, none⟩ = some (.int .i64 (aL[k] : Nat)) := by
      simp only [World.cell?, hga]
      simp [List.getElem?_eq_getElem hlt]
     have CC : Calls Tryz.prog 50 #[.pointer (some ⟨G, 0, none⟩), .int .i64 (aL[k] : Nat), .int .i64 l2] wr fun e w' => e = .returned (.int .i64 (leftN (1 + ((aL.take (k + 1)).flatMap dn).length) left)) ∧ Hid ((aL = [] ∨ ∃ ga', some (⟨ga, 0, none⟩ : Addr) = some ⟨ga', 0, none⟩ ∧ w'.heap[ga']? = some (.cells (aL.map fun (x : Nat) => Value.int .i64 x).toArray 3 (0, 0))) ∧ Ended lo G b wk R xs D dn rt rk w w') := by
      obtain ⟨ys, y1, y2, y3⟩ := hE.ex
      refine Calls.mono (CI.out ys wr aL[k] l2 y1 y2 y3 (List.getElem_mem hlt) (by omega)) ?_
      rintro e w' ⟨rfl, E2⟩
      refine ⟨by rw [e2], .inr ⟨ga, rfl, ?_⟩, ?_⟩
      ·rw [E2.same ga fun c fz e => by rw [hga] at e; exact absurd (cells_ty e) (by decide)]
       exact hga
      ·obtain ⟨⟨zs, k1, k2, k3⟩, k4, k5, k6⟩ := E2
       obtain ⟨_, h4, h5, h6⟩ := hE
       exact ⟨⟨zs, y1.trans k1, k2, k3⟩, h4.trans k4, fun j hj => by rw [k5 j fun c fz e => hj c fz (by rw [← h5 j hj]; exact e)]; exact h5 j hj, k6.trans h6⟩
     rw [e1]
     obtain ⟨lv, hlv⟩ : ∃ lv, lv = leftN (1 + ((aL.take (k + 1)).flatMap dn).length) left := ⟨_, rfl⟩
     rw [← hlv] at CC
     have HLV : Hid (lv = leftN (1 + ((aL.take (k + 1)).flatMap dn).length) left) := hlv
     clear hlv
     have hl0 : (0 : Int) ≤ (l2 : Int) := by omega
     have HM : Hid (k < aL.length) := hlt
     clear HP CI HLN hkl hk hsrc hE e1 e2 q hl2 hga
     generalize aL[k] = a at *
     go_wp2_with (go_at_call 50; (with_reducible refine Calls.mono CC ?_); rintro e' w6 ⟨rfl, HN⟩)
     go_roundw
     case rel =>
      obtain ⟨q1, q2⟩ := HN.out
      exact ⟨k + 1, HM.out, by go_num, by rw [HLV.out], q1, q2.sm ⟨rfl, rfl, rfl, rfl⟩⟩
     case measure =>
      have := HM.out
      simp [intOf]
      omega
    ·have HF : Hid (leftN (dn i).length left = -1 ∧ Ended lo G b wk R xs D dn rt rk w wr) := ⟨leftN_bad (by
      rw [HLN.out]
      have := takeN_flat_le dn aL k
      omega), HP.out.2⟩
     rw [leftN_bad q]
     clear HP CI HLN hkl hk q
     go_wp2
     go_ret
     exact ⟨by rw [HF.out.1]; rfl, HF.out.2⟩
theorem nleft_any {lo G b wk : Nat} {R : Nat → Prop} {D : DataW Unit} {dn : Nat → List Nd} {rt rk : Nat → Nat} : ∀ (N : Nat) (xs : List Gx) (w : World) (i left : Nat), GX w lo G b R xs D wk → DenX xs dn rt rk → (∀ i, (arX xs i).length ≤ 6) → i < xs.length → (dn i).length ≤ N → left ≤ 500 → Calls Tryz.prog 50 #[.pointer (some ⟨G, 0, none⟩), .int .i64 i, .int .i64 left] w fun e w' => e = .returned (.int .i64 (leftN (dn i).length left)) ∧ Ended lo G b wk R xs D dn rt rk w w'
 | 0, _, _, i, _, _, d, _, hi, hN, _ => by
  have := Den.form d hi
  rw [this] at hN
  simp at hN
 | N + 1, xs, w, i, left, h, d, h6, hi, hN, hl => left_step N (nleft_any N) xs w i left h d h6 hi hN hl
end Go.Proofs.YtikpipenhamdbaaGreat

namespace Go.Proofs.YtikpipenhamdbaaGreat
open Go.RowKit Go.Maps

/-- All is as it was, but for where the nodes of a row lead. -/
def Fr (g : Nat) (w w' : World) : Prop := (∀ k, k ≠ g → w'.heap[k]? = w.heap[k]?) ∧ ∀ o, o % 6 ≠ 3 → w'.cell? ⟨g, o, none⟩ = w.cell? ⟨g, o, none⟩
set_option maxHeartbeats 8000000 in
set_option maxRecDepth 10000 in
theorem end_all {w : World} {lo G b wk : Nat} {R : Nat → Prop} {xs : List Gx} {D : DataW Unit} {dn : Nat → List Nd} {rt rk : Nat → Nat} (h : GX w lo G b R xs D wk) (d : DenX xs dn rt rk) (i : Nat) (hi : i < xs.length) {g0 cap0 : Nat} (hg0 : w.cell? ⟨G, 0, none⟩ = some (.slice (some ⟨g0, 0, none⟩) xs.length cap0)) (hgG0 : G ≠ g0) :
  Calls Tryz.prog 46 #[.pointer (some ⟨G, 0, none⟩), .int .i64 i] w fun e w' => e = .returned (.int .i64 (rt i : Nat)) ∧ Ended lo G b wk R xs D dn rt rk w w' ∧ Fr g0 w w' := by
 have HG0 : Hid (w.cell? ⟨G, 0, none⟩ = some (.slice (some ⟨g0, 0, none⟩) xs.length cap0) ∧ G ≠ g0) := ⟨hg0, hgG0⟩
 clear hg0 hgG0
 have H0 : Hid (GX w lo G b R xs D wk ∧ DenX xs dn rt rk) := ⟨h, d⟩
 have HN : Hid (xs.length ≤ 200000000) := h.num.1
 clear h d
 go_enter Tryz.func46, Tryz.ntmps46
 go_wp2
 go_loopw [1] (fun iv wr => ∃ m : Nat, iv = .int .i64 m ∧ Hid (m < xs.length ∧ rt m = rt i ∧ Ended lo G b wk R xs D dn rt rk w wr ∧ Fr g0 w wr)) (fun iv _ => rk (intOf iv).toNat)
 case atStart => exact ⟨i, rfl, hi, rfl, Ended.refl H0.out.1 H0.out.2, fun _ _ => rfl, fun _ _ => rfl⟩
 case round =>
  obtain ⟨m, rfl, HP⟩ := hrel
  obtain ⟨hm, hrm, ⟨⟨ys, hE, hD, hX⟩, hK, hS, hZ⟩, hFr⟩ := HP.out
  have hm' : m < ys.length := by rw [hE.len]; exact hm
  obtain ⟨g, cap, ad, c0, _, hgG, hfr, ⟨_, _, _, n3, _, _⟩, _, hT⟩ := hX.at hm'
  have et : ys[m].tg = tgX ys m := by unfold tgX; rw [getD_at hm']
  rw [et] at n3
  have hnn := HN.out
  have hln : ys.length ≤ 200000000 := by rw [hE.len]; exact hnn
  have i1 : (0 : Int) ≤ (m : Int) := by omega
  have i2 : (m : Int) < (ys.length : Int) := by omega
  by_cases q : tgX ys m = m
  ·rw [q] at n3
   have hr : rt m = m := (Den.root hD m hm' q).1
   have HF : Hid ((Ended lo G b wk R xs D dn rt rk w wr ∧ Fr g0 w wr) ∧ m = rt i) := ⟨⟨⟨⟨ys, hE, hD, hX⟩, hK, hS, hZ⟩, hFr⟩, by rw [← hrm]; exact hr.symm⟩
   clear hE hD hX hK hT hfr HP hrm hr H0 hS hZ hFr HG0
   go_wp2
   go_ret
   exact ⟨by rw [← HF.out.2]; rfl, HF.out.1⟩
  ·have ht' : tgX ys m < ys.length := Den.tow hD m hm'
   obtain ⟨g', cap', ad', c0', _, _, _, ⟨_, _, _, m3, _, _⟩, _, _⟩ := hX.at ht'
   rw [c0] at c0'
   have eg := slice_block c0'
   subst eg
   have et2 : ys[tgX ys m].tg = tgX ys (tgX ys m) := by
    show _ = (ys.getD (tgX ys m) gz).tg
    rw [getD_at ht']
   rw [et2] at m3
   obtain ⟨hT1, hT2⟩ := hT (tgX ys (tgX ys m))
   obtain ⟨l1, _, l3⟩ := Den.link hD m hm' q
   have hu : tgX ys (tgX ys m) < ys.length := Den.tow hD _ ht'
   have hlr : rt (tgX ys (tgX ys m)) = rt m ∧ rk (tgX ys (tgX ys m)) < rk m := by
    by_cases e : tgX ys (tgX ys m) = tgX ys m
    ·rw [e]
     exact ⟨l1.symm, l3⟩
    ·obtain ⟨k1, _, k3⟩ := Den.link hD _ ht' e
     exact ⟨by rw [← k1, l1], by omega⟩
   have HF : Hid (∀ w', Sm (wr.setCell ⟨g, m * 6 + 3, none⟩ (.int .i64 (tgX ys (tgX ys m) : Nat))) w' → tgX ys (tgX ys m) < xs.length ∧ rt (tgX ys (tgX ys m)) = rt i ∧ Ended lo G b wk R xs D dn rt rk w w' ∧ Fr g0 w w') := fun w' s => by
    obtain ⟨cur, hcur⟩ := hX.row c0 (by omega)
    have hgg : g = g0 := by
     obtain ⟨q1, q2⟩ := HG0.out
     have := World.cell?_of_block (w := w) (a := ⟨G, 0, none⟩) (hFr.1 G q2)
     rw [this, q1] at c0
     exact (slice_block c0).symm
    refine ⟨by rw [← hE.len]; exact hu, hlr.1.trans hrm, ⟨⟨_, hE.trans (toX_eqg ys hm' _).1, DenX.half hD hm' q, hT1.sm s⟩, (hK.trans hT2).trans (Gk.of_sm s), fun k hk => ?_, ?_⟩, fun k hk => ?_, fun o ho => ?_⟩
    ·have hkg : k ≠ g := fun e => hk cur (0, 0) (by rw [← hS k hk, e]; exact hcur)
     rw [s.heap, Below.heap_setCell _ _ _ _ hkg]
     exact hS k hk
    ·rw [s.heap, ← hZ]
     simp [World.setCell]
    ·rw [s.heap, Below.heap_setCell _ _ _ _ (by show k ≠ g; rw [hgg]; exact hk)]
     exact hFr.1 k hk
    ·rw [s.cell, World.cell?_setCell_other]
     ·exact hFr.2 o ho
     ·intro e
      have := congrArg Addr.off e
      simp at this
      omega
   have HM : Hid (rk (tgX ys (tgX ys m)) < rk m) := hlr.2
   have hf3 := hfr (m * 6 + 3)
   have hne : ((tgX ys m : Int) != (m : Int)) = true := by simp; omega
   have hne2 : ((tgX ys m : Int) == (m : Int)) = false := by simp; omega
   have e1 : ¬ g = G := hgG
   have e2 : ¬ G = g := fun e => hgG e.symm
   generalize tgX ys (tgX ys m) = u at *
   generalize tgX ys m = t at *
   have j1 : (0 : Int) ≤ (t : Int) := by omega
   have j2 : (t : Int) < (ys.length : Int) := by omega
   have k1 : (0 : Int) ≤ (u : Int) := by omega
   have k2 : (u : Int) < (ys.length : Int) := by omega
   clear hE hD hX hK hS hZ hT hT1 hT2 hfr HP hrm H0 l1 l3 hlr et et2 hFr HG0
   go_wp2
   go_region
   go_wp2
   go_roundw
   case rel => exact ⟨u, by go_num, HF.out _ ⟨rfl, rfl, rfl, rfl⟩⟩
   case measure => simp [intOf]; exact HM.out
end Go.Proofs.YtikpipenhamdbaaGreat

namespace Go.Proofs.YtikpipenhamdbaaGreat
open Go.RowKit Go.Maps

/-- The nodes, wherever they lead by now. -/
def Gr (w : World) (lo G b wk : Nat) (R : Nat → Prop) (xs : List Gx) (D : DataW Unit) (dn : Nat → List Nd) (rt rk : Nat → Nat) : Prop := ∃ ys, Eqg xs ys ∧ DenX ys dn rt rk ∧ GX w lo G b R ys D wk
/-- What typeOf answers. -/
def TypeP (lo G b wk : Nat) (R : Nat → Prop) (xs : List Gx) (D : DataW Unit) (dn : Nat → List Nd) (rt rk : Nat → Nat) (N i : Nat) (w : World) (e : Ending) (w' : World) : Prop :=
 ∃ (k : Int) (n : ByteArray) (ad : Option Addr) (len cap : Nat) (t : Tn N) (rws : List (Value × Nat)), e = .returned (.agg #[.int .i64 k, .string n, .slice ad len cap]) ∧ TyO w' w.heap.size N (.agg #[.int .i64 k, .string n, .slice ad len cap]) t rws ∧ SepB w.heap.size w'.heap.size rws ∧ flat N t = dn i ∧ Gk lo G b w w' ∧ Gr w' lo G b wk R xs D dn rt rk
theorem ok_name {k : Int} {n : List UInt8} {l : Nat} (h : okB k n l = true) : n.length ≤ 4096 := by
 unfold okB at h
 split at h
 ·simp at h
  simp [h.1]
 ·split at h
  ·simp at h
   exact var_len h.1
  ·split at h
   ·simp at h
    simp [h.1]
   ·split at h
    ·simp only [Bool.and_eq_true, dataB, decide_eq_true_eq] at h
     exact h.1.1.2
    ·cases h
theorem kind_any (k : Int) (hk : k = 1 ∨ k = 2 ∨ k = 3 ∨ k = 4) (w : World) : Calls Tryz.prog 73 #[.int .i64 k] w fun e w' => e = .returned (.int .i64 k) ∧ w' = w := by
 have key : (Instr.index 143 (.agg #[.int .i64 0, .int .i64 1, .int .i64 2, .int .i64 3, .int .i64 4]) (.int .i64 k)).run Tryz.prog w = .ok (.int .i64 k) w := by
  rcases hk with rfl | rfl | rfl | rfl <;> kernel_rfl
 go_enter Tryz.func73, Tryz.ntmps73
 go_wp2
 go_ret
 exact ⟨rfl, rfl⟩
/-- The cells of a node that leads nowhere. -/
def Six (W : World) (G g n cap r : Nat) (k : Int) (nm : List UInt8) (ad : Option Addr) (la : Nat) (ins : Bool) (wlk : Nat) : Prop := W.cell? ⟨G, 0, none⟩ = some (.slice (some ⟨g, 0, none⟩) n cap) ∧ W.cell? ⟨g, r * 6, none⟩ = some (.int .i64 k) ∧ W.cell? ⟨g, r * 6 + 1, none⟩ = some (.string ⟨nm.toArray⟩) ∧ W.cell? ⟨g, r * 6 + 2, none⟩ = some (.slice ad la la) ∧ W.cell? ⟨g, r * 6 + 3, none⟩ = some (.int .i64 (r : Nat)) ∧ W.cell? ⟨g, r * 6 + 4, none⟩ = some (.bool ins) ∧ W.cell? ⟨g, r * 6 + 5, none⟩ = some (.int .i64 wlk)
theorem GX.six {w : World} {lo G b wk : Nat} {R : Nat → Prop} {xs : List Gx} {D : DataW Unit} {dn : Nat → List Nd} {rt rk : Nat → Nat} (h : GX w lo G b R xs D wk) (d : DenX xs dn rt rk) (i : Nat) (hi : i < xs.length) : ∃ g cap ad, g ≠ G ∧ g < w.heap.size ∧ Six w G g xs.length cap (rt i) (lbX xs (rt i)).1 (lbX xs (rt i)).2 ad (arX xs (rt i)).length (inX xs (rt i)) (wkX xs (rt i)) ∧ (arX xs (rt i) = [] ∨ ∃ ga, ad = some ⟨ga, 0, none⟩ ∧ w.heap[ga]? = some (.cells ((arX xs (rt i)).map fun (x : Nat) => Value.int .i64 x).toArray 3 (0, 0))) := by
 have hr := Den.rt_lt d hi
 obtain ⟨g, cap, ad', c0, -, hgG, -, ⟨n0, n1, n2, n3, n4, n5⟩, -, -⟩ := h.at hr
 obtain ⟨ad, q1, q2⟩ := h.argRow hr c0
 have e1 : xs[rt i].is = (lbX xs (rt i)).1 := by unfold lbX; rw [getD_at hr]
 have e2 : xs[rt i].name = (lbX xs (rt i)).2 := by unfold lbX; rw [getD_at hr]
 have e3 : xs[rt i].tg = rt i := by
  have := Den.rt_tg d hi
  unfold tgX at this
  rw [getD_at hr] at this
  exact this
 have e4 : xs[rt i].ins = inX xs (rt i) := by unfold inX; rw [getD_at hr]
 have e5 : xs[rt i].walk = wkX xs (rt i) := by unfold wkX; rw [getD_at hr]
 rw [e1] at n0
 rw [e2] at n1
 rw [e3] at n3
 rw [e4] at n4
 rw [e5] at n5
 exact ⟨g, cap, ad, hgG, lt_cell n0, ⟨c0, n0, n1, q1, n3, n4, n5⟩, q2⟩
/-- A node's cells behind end. -/
theorem end_node {w : World} {lo G b wk : Nat} {R : Nat → Prop} {xs : List Gx} {D : DataW Unit} {dn : Nat → List Nd} {rt rk : Nat → Nat} (h : GX w lo G b R xs D wk) (d : DenX xs dn rt rk) (i : Nat) (hi : i < xs.length) {g cap la : Nat} {k : Int} {nm : List UInt8} {ad : Option Addr} {ins : Bool} {wlk : Nat} (hgG : g ≠ G) (hs : Six w G g xs.length cap (rt i) k nm ad la ins wlk) :
  Calls Tryz.prog 46 #[.pointer (some ⟨G, 0, none⟩), .int .i64 i] w fun e w' => e = .returned (.int .i64 (rt i : Nat)) ∧ Six w' G g xs.length cap (rt i) k nm ad la ins wlk ∧ (∀ j, j ≠ g → w'.heap[j]? = w.heap[j]?) ∧ Hid (Gk lo G b w w' ∧ w'.heap.size = w.heap.size ∧ Gr w' lo G b wk R xs D dn rt rk) := by
 obtain ⟨c0, n0, n1, n2, n3, n4, n5⟩ := hs
 refine Calls.mono (end_all h d i hi c0 (Ne.symm hgG)) ?_
 rintro e w' ⟨rfl, E0, hfr, hfc⟩
 have hr := Den.rt_lt d hi
 have c0' : w'.cell? ⟨G, 0, none⟩ = some (.slice (some ⟨g, 0, none⟩) xs.length cap) := (World.cell?_of_block (w := w) (hfr G (Ne.symm hgG))).trans c0
 obtain ⟨ys, hE, hd, hX⟩ := E0.ex
 have hr' : rt i < ys.length := by rw [hE.len]; exact hr
 obtain ⟨g', cap', ad', e0, -, -, -, ⟨-, -, -, n3', -, -⟩, -, -⟩ := hX.at hr'
 rw [c0'] at e0
 have eg := slice_block e0
 subst eg
 have e3 : ys[rt i].tg = rt i := by
  have := Den.rt_tg hd (i := i) (by rw [hE.len]; exact hi)
  unfold tgX at this
  rw [getD_at hr'] at this
  exact this
 rw [e3] at n3'
 exact ⟨rfl, ⟨c0', (hfc _ (by omega)).trans n0, (hfc _ (by omega)).trans n1, (hfc _ (by omega)).trans n2, n3', (hfc _ (by omega)).trans n4, (hfc _ (by omega)).trans n5⟩, hfr, E0.gk, E0.size, ys, hE, hd, hX⟩
/-- A block of another one has turned. -/
theorem GX.far {w w' : World} {lo G b wk : Nat} {R : Nat → Prop} {xs : List Gx} {D : DataW Unit} (h : GX w lo G b R xs D wk) {g n cap z : Nat} (c0 : w.cell? ⟨G, 0, none⟩ = some (.slice (some ⟨g, 0, none⟩) n cap)) (hz : z ≠ g) {c : Array Value} {ty : TypeId} {fz : Nat × Nat} (hzc : w.heap[z]? = some (.cells c ty fz)) (ht : ty ≠ 3 ∧ ty ≠ 66) (hg : w.grownBy w' (some z)) : GX w' lo G b R xs D wk := by
 obtain ⟨v, ns, e, h, hR⟩ := h
 have hk : ∀ (j : Nat) (o : Obj), w.heap[j]? = some o → j ≠ z → w'.heap[j]? = some o := fun j o hj hne => by
  rw [hg.block j (lt_of_heap hj) (fun e => hne (Option.some.inj e))]
  exact hj
 refine ⟨v, ns, e, ⟨hk _ _ h.box fun e => ?_, own_keep h.own fun j hj => ?_, h.map.kept hg (fun e => ?_), h.msz, fun n hn => ?_, h.loG, h.lob, h.num⟩, hR⟩
 ·have := h.box
  rw [e, hzc] at this
  exact ht.2 (cells_ty this)
 ·rcases h.own.2 with ⟨h0, _⟩ | ⟨g', cap', cur, hv, _, hh, _⟩
  ·rw [h0] at hj; cases hj
  ·have hv' := hv
   rw [hv] at hj
   cases hj
   refine (hk _ _ hh fun e => hz ?_).trans hh.symm
   have hb := h.box
   have : w.cell? ⟨G, 0, none⟩ = some v := by simp only [World.cell?, hb]; rfl
   rw [c0, hv'] at this
   rw [← e]
   exact (slice_block this).symm
 ·obtain ⟨es, clock, hb, _⟩ := h.map
  have e := Option.some.inj e
  rw [e, hzc] at hb
  cases hb
 ·rcases h.arg n hn with q1 | ⟨g', q1, q2, q3⟩
  ·exact .inl q1
  ·refine .inr ⟨g', q1, q2, hk _ _ q3 fun e => ?_⟩
   rw [e, hzc] at q3
   exact ht.1 (cells_ty q3)
theorem Gr.far {w w' : World} {lo G b wk : Nat} {R : Nat → Prop} {xs : List Gx} {D : DataW Unit} {dn : Nat → List Nd} {rt rk : Nat → Nat} (h : Gr w lo G b wk R xs D dn rt rk) {g n cap z : Nat} (c0 : w.cell? ⟨G, 0, none⟩ = some (.slice (some ⟨g, 0, none⟩) n cap)) (hz : z ≠ g) {c : Array Value} {ty : TypeId} {fz : Nat × Nat} (hzc : w.heap[z]? = some (.cells c ty fz)) (ht : ty ≠ 3 ∧ ty ≠ 66) (hg : w.grownBy w' (some z)) : Gr w' lo G b wk R xs D dn rt rk := by
 obtain ⟨ys, h1, h2, h3⟩ := h
 exact ⟨ys, h1, h2, h3.far c0 hz hzc ht hg⟩
theorem Gr.below {w w' : World} {lo G b wk : Nat} {R : Nat → Prop} {xs : List Gx} {D : DataW Unit} {dn : Nat → List Nd} {rt rk : Nat → Nat} (h : Gr w lo G b wk R xs D dn rt rk) (hb : Below w.heap.size w w') : Gr w' lo G b wk R xs D dn rt rk := by
 obtain ⟨ys, h1, h2, h3⟩ := h
 exact ⟨ys, h1, h2, h3.below hb⟩
theorem size_set (W : World) (a : Addr) (v : Value) : (W.setCell a v).heap.size = W.heap.size := by simp [World.setCell]
theorem grown_set {U : World} {z : Nat} {V : World} (h : U.grownBy V (some z)) (i : Nat) (v : Value) : U.grownBy (V.setCell ⟨z, i, none⟩ v) (some z) :=
 ⟨h.os, h.tape, h.output, by rw [size_set]; exact h.size, fun k hk hne => by rw [Below.heap_setCell _ _ _ _ (fun e => hne (by rw [e]))]; exact h.block k hk hne⟩
/-- Six stores into a block of six cells. -/
theorem store6 {U : World} {z : Nat} {a0 a1 a2 a3 a4 a5 : Value} {t : TypeId} (h : U.heap[z]? = some (.cells #[a0, a1, a2, a3, a4, a5] t (0, 0))) (b0 b1 b2 b3 b4 b5 : Value) : ∃ W, W = (((((U.setCell ⟨z, 0, none⟩ b0).setCell ⟨z, 1, none⟩ b1).setCell ⟨z, 2, none⟩ b2).setCell ⟨z, 3, none⟩ b3).setCell ⟨z, 4, none⟩ b4).setCell ⟨z, 5, none⟩ b5 ∧ W.heap[z]? = some (.cells #[b0, b1, b2, b3, b4, b5] t (0, 0)) ∧ W.heap.size = U.heap.size ∧ U.grownBy W (some z) := by
 have h0 : (U.setCell ⟨z, 0, none⟩ b0).heap[z]? = some (.cells #[b0, a1, a2, a3, a4, a5] t (0, 0)) := (setCell_block h).trans rfl
 have h1 : ((U.setCell ⟨z, 0, none⟩ b0).setCell ⟨z, 1, none⟩ b1).heap[z]? = some (.cells #[b0, b1, a2, a3, a4, a5] t (0, 0)) := (setCell_block h0).trans rfl
 have g1 : U.grownBy ((U.setCell ⟨z, 0, none⟩ b0).setCell ⟨z, 1, none⟩ b1) (some z) := grown_set (grown_set ⟨rfl, rfl, rfl, Nat.le_refl _, fun _ _ _ => rfl⟩ _ _) _ _
 have s1 : ((U.setCell ⟨z, 0, none⟩ b0).setCell ⟨z, 1, none⟩ b1).heap.size = U.heap.size := by rw [size_set, size_set]
 generalize (U.setCell ⟨z, 0, none⟩ b0).setCell ⟨z, 1, none⟩ b1 = U1 at *
 have h2 : (U1.setCell ⟨z, 2, none⟩ b2).heap[z]? = some (.cells #[b0, b1, b2, a3, a4, a5] t (0, 0)) := (setCell_block h1).trans rfl
 have h3 : ((U1.setCell ⟨z, 2, none⟩ b2).setCell ⟨z, 3, none⟩ b3).heap[z]? = some (.cells #[b0, b1, b2, b3, a4, a5] t (0, 0)) := (setCell_block h2).trans rfl
 have g3 : U.grownBy ((U1.setCell ⟨z, 2, none⟩ b2).setCell ⟨z, 3, none⟩ b3) (some z) := grown_set (grown_set g1 _ _) _ _
 have s3 : ((U1.setCell ⟨z, 2, none⟩ b2).setCell ⟨z, 3, none⟩ b3).heap.size = U.heap.size := by rw [size_set, size_set, s1]
 generalize (U1.setCell ⟨z, 2, none⟩ b2).setCell ⟨z, 3, none⟩ b3 = U3 at *
 have h4 : (U3.setCell ⟨z, 4, none⟩ b4).heap[z]? = some (.cells #[b0, b1, b2, b3, b4, a5] t (0, 0)) := (setCell_block h3).trans rfl
 exact ⟨_, rfl, (setCell_block h4).trans rfl, by rw [size_set, size_set, s3], grown_set (grown_set g3 _ _) _ _⟩
/-- A row of types has grown. -/
theorem GX.grow29 {w w' : World} {lo G b wk : Nat} {R : Nat → Prop} {xs : List Gx} {D : DataW Unit} (h : GX w lo G b R xs D wk) {row : Option Nat} (hg : w.grownBy w' row) (hr : ∀ z, row = some z → ∃ c fz, w.heap[z]? = some (.cells c 29 fz)) : GX w' lo G b R xs D wk := by
 obtain ⟨v, ns, e, h, hR⟩ := h
 have hk : ∀ (j : Nat) (o : Obj), w.heap[j]? = some o → (∀ c fz, o ≠ .cells c 29 fz) → w'.heap[j]? = some o := fun j o hj hne => by
  rw [hg.block j (lt_of_heap hj) (fun e => by
   obtain ⟨c, fz, hc⟩ := hr j e.symm
   rw [hc] at hj
   exact hne _ _ (Option.some.inj hj).symm)]
  exact hj
 refine ⟨v, ns, e, ⟨hk _ _ h.box (by intro c fz e; exact absurd (cells_ty (congrArg some e)) (by decide)), own_keep h.own fun j hj => ?_, h.map.kept hg (fun e => ?_), h.msz, fun n hn => ?_, h.loG, h.lob, h.num⟩, hR⟩
 ·rcases h.own.2 with ⟨h0, _⟩ | ⟨g', cap', cur, hv, _, hh, _⟩
  ·rw [h0] at hj; cases hj
  ·rw [hv] at hj
   cases hj
   exact (hk _ _ hh (by intro c fz e; exact absurd (cells_ty (congrArg some e)) (by decide))).trans hh.symm
 ·obtain ⟨es, clock, hb, _⟩ := h.map
  obtain ⟨c, fz, hc⟩ := hr b e.symm
  rw [hc] at hb
  cases hb
 ·rcases h.arg n hn with q1 | ⟨g', q1, q2, q3⟩
  ·exact .inl q1
  ·exact .inr ⟨g', q1, q2, hk _ _ q3 (by intro c fz e; exact absurd (cells_ty (congrArg some e)) (by decide))⟩
theorem Gr.grow29 {w w' : World} {lo G b wk : Nat} {R : Nat → Prop} {xs : List Gx} {D : DataW Unit} {dn : Nat → List Nd} {rt rk : Nat → Nat} (h : Gr w lo G b wk R xs D dn rt rk) {row : Option Nat} (hg : w.grownBy w' row) (hr : ∀ z, row = some z → ∃ c fz, w.heap[z]? = some (.cells c 29 fz)) : Gr w' lo G b wk R xs D dn rt rk := by
 obtain ⟨ys, h1, h2, h3⟩ := h
 exact ⟨ys, h1, h2, h3.grow29 hg hr⟩
theorem RowO.keep {w w' : World} {lo d : Nat} {v : Value} {es : List El} {ts : List (Tn d)} {rss : List (List (Value × Nat))} (h : RowO w lo d v es ts rss) (hs : w.heap.size ≤ w'.heap.size) (hb : ∀ (g : Nat) (c : Array Value), lo ≤ g → w.heap[g]? = some (.cells c 29 (0, 0)) → w'.heap[g]? = w.heap[g]?) : RowO w' lo d v es ts rss := by
 have ho : ∀ {v : Value} {n : Nat} {xs : List Value}, w.ownsRow lo 29 3 v n xs → ∀ g, v.ownBlock = some g → w'.heap[g]? = w.heap[g]? := fun ho g hg => by
  rcases ho.2 with ⟨h0, _⟩ | ⟨g', cap', cur, hv, h1, hh, _⟩
  ·rw [h0] at hg; cases hg
  ·rw [hv] at hg
   cases hg
   exact hb _ _ h1 hh
 refine ⟨own_keep h.own (ho h.own), h.len, h.rlen, fun j a b c => TyO.on _ _ _ _ (fun p hp g hg => ?_) (h.each j a b c), ⟨fun p hp => ?_, h.sep.2⟩, h.away⟩
 ·obtain ⟨xs, hx⟩ := TyO.each _ _ _ _ (h.each j a b c) p hp
  exact ho hx g hg
 ·obtain ⟨g', e, h1, h2⟩ := h.sep.1 p hp
  exact ⟨g', e, h1, by omega⟩
/-- Between the rounds of typeOf. -/
structure TpW (w : World) (lo G b wk : Nat) (R : Nat → Prop) (xs : List Gx) (D : DataW Unit) (dn : Nat → List Nd) (rt rk : Nat → Nat) (zt : Nat) (k : Int) (nm : List UInt8) (ad : Option Addr) (aL : List Nat) (N : Nat) (wr : World) (v : Value) (es : List El) (ts : List (Tn N)) (rss : List (List (Value × Nat))) : Prop where
 gr : Gr wr lo G b wk R xs D dn rt rk
 gk : Gk lo G b w wr
 res : wr.heap[w.heap.size]? = some (.cells #[.int .i64 0, .string ⟨#[]⟩, .slice none 0 0] 29 (0, 0))
 made : wr.heap[zt]? = some (.cells #[.int .i64 k, .string ⟨nm.toArray⟩, v] 29 (0, 0))
 row : RowO wr (zt + 1) N v es ts rss
 flt : flats N ts = (aL.take ts.length).flatMap dn
 src : aL = [] ∨ ∃ ga, ad = some ⟨ga, 0, none⟩ ∧ wr.heap[ga]? = some (.cells (aL.map fun (x : Nat) => Value.int .i64 x).toArray 3 (0, 0))
 pos : w.heap.size < zt ∧ lo ≤ w.heap.size ∧ G < w.heap.size ∧ b < w.heap.size
/-- One more argument. -/
theorem TpW.step {w : World} {lo G b wk : Nat} {R : Nat → Prop} {xs : List Gx} {D : DataW Unit} {dn : Nat → List Nd} {rt rk : Nat → Nat} {zt : Nat} {k : Int} {nm : List UInt8} {ad : Option Addr} {aL : List Nat} {N : Nat} {wr : World} {va : Option Addr} {j vc : Nat} {es : List El} {ts : List (Tn N)} {rss : List (List (Value × Nat))} (h : TpW w lo G b wk R xs D dn rt rk zt k nm ad aL N wr (.slice va j vc) es ts rss) (hj : ts.length = j) (hjl : j < aL.length)
  {U w2 w3 : World} (hU : Sm wr U) (hk : Gk lo G b U w2) (hgr : Gr w2 lo G b wk R xs D dn rt rk) {e : El} {t : Tn N} {rws : List (Value × Nat)} (T : TyO w2 U.heap.size N (elV e) t rws) (S2 : SepB U.heap.size w2.heap.size rws) (hfl : flat N t = dn aL[j]) {o : Obj} {g cap3 : Nat}
  (hown : w3.ownsRow (zt + 1) 29 3 (.slice (some ⟨g, 0, none⟩) (j + 1) cap3) (j + 1) (es.flatMap elCells ++ elCells e)) (hgrow : (w2.alloc o).grownBy w3 (Value.slice va j vc).ownBlock) (hat : (Value.slice va j vc).ownBlock = some g ∨ g = w2.heap.size + 1) :
  w3.heap[zt]? = some (.cells #[.int .i64 k, .string ⟨nm.toArray⟩, .slice va j vc] 29 (0, 0)) ∧ ∃ V, V = w3.setCell ⟨zt, 2, none⟩ (.slice (some ⟨g, 0, none⟩) (j + 1) cap3) ∧ TpW w lo G b wk R xs D dn rt rk zt k nm ad aL N V (.slice (some ⟨g, 0, none⟩) (j + 1) cap3) (es ++ [e]) (ts ++ [t]) (rss ++ [rws]) := by
 obtain ⟨hp1, hp2, hp3, hp4⟩ := h.pos
 have hzt := lt_of_heap h.made
 have hsU : U.heap.size = wr.heap.size := by rw [hU.heap]
 have hs2 := hk.size
 have hkeep : ∀ (j : Nat) (o : Obj), wr.heap[j]? = some o → j ≠ G → j ≠ b → (∀ c fz, o ≠ .cells c 97 fz) → w2.heap[j]? = some o := fun j o h0 h1 h2 h3 => hk.keep j o (by rw [hU.heap]; exact h0) h1 h2 h3
 have hvb : ∀ j', (Value.slice va j vc).ownBlock = some j' → zt + 1 ≤ j' ∧ j' < wr.heap.size := fun j' hj' => h.row.own.lt j' hj'
 have hbl : ∀ j', j' < w2.heap.size → some j' ≠ (Value.slice va j vc).ownBlock → w3.heap[j']? = w2.heap[j']? := fun j' hj' hne => by
  rw [hgrow.block j' (by simp; omega) hne]
  exact Below.heap_alloc _ _ _ hj'
 have hsz3 : w2.heap.size ≤ w3.heap.size := by have := hgrow.size; simp at this; omega
 have c29 : ∀ (c : Array Value) (fz : Nat × Nat), ∀ c' fz', (Obj.cells c 29 fz) ≠ .cells c' 97 fz' := by intro c fz c' fz' e; exact absurd (cells_ty (congrArg some e)) (by decide)
 have hzt2 : w2.heap[zt]? = some (.cells #[.int .i64 k, .string ⟨nm.toArray⟩, .slice va j vc] 29 (0, 0)) := hkeep _ _ h.made (by omega) (by omega) (c29 _ _)
 have hzt3 : w3.heap[zt]? = some (.cells #[.int .i64 k, .string ⟨nm.toArray⟩, .slice va j vc] 29 (0, 0)) := by
  rw [hbl zt (by omega) (fun e => by have := hvb zt e.symm; omega)]
  exact hzt2
 have row2 : RowO w2 (zt + 1) N (.slice va j vc) es ts rss := h.row.keep (by omega) fun g c h1 h2 => by rw [hkeep g _ h2 (by omega) (by omega) (c29 _ _), h2]
 have row3 : RowO w3 (zt + 1) N (.slice (some ⟨g, 0, none⟩) (j + 1) cap3) (es ++ [e]) (ts ++ [t]) (rss ++ [rws]) := by
  refine row2.snoc (by omega) T S2 (by omega) ⟨fun p hp => ?_, row2.sep.2⟩ (fun j' hj' => by have := hvb j' hj'; omega) ?_ hsz3 hbl ?_
  ·obtain ⟨g', e1, e2, e3⟩ := h.row.sep.1 p hp
   exact ⟨g', e1, e2, by omega⟩
  ·rw [h.row.len, hj]; exact hown
  ·rcases hat with hat | hat
   ·exact .inl hat.symm
   ·exact .inr ⟨g, rfl, by omega⟩
 have hrow29 : ∀ z, (Value.slice va j vc).ownBlock = some z → ∃ c fz, (w2.alloc o).heap[z]? = some (.cells c 29 fz) := fun z hz => by
  rcases h.row.own.2 with ⟨h0, _⟩ | ⟨g', cap', cur, hv, h1, hh, _⟩
  ·rw [h0] at hz; cases hz
  ·rw [hv] at hz
   cases hz
   have hz2 := hkeep _ _ hh (by omega) (by omega) (c29 _ _)
   exact ⟨_, _, (Below.heap_alloc _ _ _ (lt_of_heap hz2)).trans hz2⟩
 have gr3 : Gr w3 lo G b wk R xs D dn rt rk := (hgr.below ((Below.refl _ _).alloc (Nat.le_refl _) o)).grow29 hgrow hrow29
 have hset : w3.grownBy (w3.setCell ⟨zt, 2, none⟩ (.slice (some ⟨g, 0, none⟩) (j + 1) cap3)) (some zt) := grown_set ⟨rfl, rfl, rfl, Nat.le_refl _, fun _ _ _ => rfl⟩ _ _
 have low3 : ∀ j', j' < zt → w3.heap[j']? = w2.heap[j']? := fun j' hj' => hbl j' (by omega) (fun e => by have := hvb j' e.symm; omega)
 refine ⟨hzt3, _, rfl, ⟨gr3.grow29 hset fun z hz => ?_, ⟨?_, ?_, ?_, ?_, fun j' hj' => ?_, fun j' o' a1 a2 a3 a4 => ?_⟩, ?_, ?_, ?_, ?_, ?_, h.pos⟩⟩
 ·have := Option.some.inj hz
  rw [← this]
  exact ⟨_, _, hzt3⟩
 ·exact hgrow.os.trans (hk.os.trans (hU.os.trans h.gk.os))
 ·exact hgrow.tape.trans (hk.tape.trans (hU.tape.trans h.gk.tape))
 ·exact hgrow.output.trans (hk.output.trans (hU.output.trans h.gk.output))
 ·have := h.gk.size
  rw [size_set]
  omega
 ·rw [setCell_else (by omega), low3 j' (by omega), hk.low j' hj', hU.heap]
  exact h.gk.low j' hj'
 ·have := lt_of_heap a1
  rw [setCell_else (by omega), low3 j' (by omega)]
  exact hkeep _ _ (h.gk.keep j' o' a1 a2 a3 a4) a2 a3 a4
 ·rw [setCell_else (by omega), low3 _ hp1]
  exact hkeep _ _ h.res (by omega) (by omega) (c29 _ _)
 ·rw [setCell_block hzt3]
  simp
 ·exact row3.on (by rw [size_set]; exact Nat.le_refl _) fun j' hj' _ => setCell_else (by omega)
 ·rw [flats_app, flats_cons, flats_nil, List.append_nil, h.flt, List.length_append, hj, hfl]
  show _ = (aL.take (j + 1)).flatMap dn
  rw [List.take_succ_eq_append_getElem hjl, List.flatMap_append]
  simp
 ·rcases h.src with q | ⟨ga, q1, q2⟩
  ·exact .inl q
  ·refine .inr ⟨ga, q1, ?_⟩
   have n97 : ∀ c' fz', (Obj.cells (aL.map fun (x : Nat) => Value.int .i64 x).toArray 3 (0, 0)) ≠ .cells c' 97 fz' := by intro c' fz' e; exact absurd (cells_ty (congrArg some e)) (by decide)
   have hGb : ga ≠ G ∧ ga ≠ b := by
    obtain ⟨ys, _, _, v', ns, _, hG, _⟩ := h.gr
    refine ⟨fun e => ?_, fun e => ?_⟩
    ·have := hG.box
     rw [← e, q2] at this
     exact absurd (cells_ty this) (by decide)
    ·obtain ⟨es', clock, hb', _⟩ := hG.map
     rw [← e, q2] at hb'
     cases hb'
   have h2 := hkeep _ _ q2 hGb.1 hGb.2 n97
   rw [setCell_else (fun e => by rw [e, hzt2] at h2; exact absurd (cells_ty h2) (by decide)), hbl ga (lt_of_heap h2) (fun e => by
    rcases row2.own.2 with ⟨h0, _⟩ | ⟨g', cap', cur, hv, h1, hh, _⟩
    ·rw [h0] at e; cases e
    ·rw [hv] at e
     cases e
     rw [hh] at h2
     exact absurd (cells_ty h2) (by decide))]
   exact h2
/-- All arguments are there. -/
theorem TpW.fin {w : World} {lo G b wk : Nat} {R : Nat → Prop} {xs : List Gx} {D : DataW Unit} {dn : Nat → List Nd} {rt rk : Nat → Nat} {zt : Nat} {k : Int} {nm : List UInt8} {ad : Option Addr} {aL : List Nat} {N i : Nat} {wr : World} {va : Option Addr} {vc : Nat} {es : List El} {ts : List (Tn N)} {rss : List (List (Value × Nat))} (h : TpW w lo G b wk R xs D dn rt rk zt k nm ad aL N wr (.slice va aL.length vc) es ts rss) (hl : ts.length = aL.length) (hn : nm.length < 140737488355328) (h6 : aL.length ≤ 6) (hd : dn i = (k, nm, aL.length) :: aL.flatMap dn) :
  ∃ W, W = ((wr.setCell ⟨w.heap.size, 0, none⟩ (.int .i64 k)).setCell ⟨w.heap.size, 1, none⟩ (.string ⟨nm.toArray⟩)).setCell ⟨w.heap.size, 2, none⟩ (.slice va aL.length vc) ∧ W.heap[w.heap.size]? = some (.cells #[.int .i64 k, .string ⟨nm.toArray⟩, .slice va aL.length vc] 29 (0, 0)) ∧ TypeP lo G b wk R xs D dn rt rk (N + 1) i w (.returned (.agg #[.int .i64 k, .string ⟨nm.toArray⟩, .slice va aL.length vc])) W := by
 obtain ⟨hp1, hp2, hp3, hp4⟩ := h.pos
 obtain ⟨W, hW, k1, k2⟩ := put_box h.res (.int .i64 k) (.string ⟨nm.toArray⟩) (.slice va aL.length vc)
 have hg : wr.grownBy W (some w.heap.size) := by
  rw [hW]
  exact grown_set (grown_set (grown_set ⟨rfl, rfl, rfl, Nat.le_refl _, fun _ _ _ => rfl⟩ _ _) _ _) _ _
 have hsz : W.heap.size = wr.heap.size := by rw [hW, size_set, size_set, size_set]
 have hfar : ∀ j, j ≠ w.heap.size → W.heap[j]? = wr.heap[j]? := fun j hj => by
  rw [hW, setCell_else hj, setCell_else hj, setCell_else hj]
 have hgk : Gk lo G b w W := by
  have hh := h.gk
  refine ⟨hg.os.trans hh.os, hg.tape.trans hh.tape, hg.output.trans hh.output, by rw [hsz]; exact hh.size, fun j hj => ?_, fun j o a1 a2 a3 a4 => ?_⟩
  ·rw [hfar j (by omega)]
   exact hh.low j hj
  ·have := lt_of_heap a1
   rw [hfar j (by omega)]
   exact hh.keep j o a1 a2 a3 a4
 have hgr : Gr W lo G b wk R xs D dn rt rk := h.gr.grow29 hg fun z hz => by
  rw [← Option.some.inj hz]
  exact ⟨_, _, h.res⟩
 have hflat : flat (N + 1) ((k, nm), ts) = dn i := by
  rw [flat_succ, h.flt, hd, hl, List.take_length]
 have row : RowO W (zt + 1) N (.slice va aL.length vc) es ts rss := h.row.on (by omega) fun j hj _ => hfar j (by omega)
 refine ⟨W, hW, k1, ?_⟩
 by_cases h0 : ts = []
 ·have hz : aL.length = 0 := by rw [← hl, h0]; rfl
  refine ⟨k, _, va, aL.length, vc, ((k, nm), ts), [], rfl, ⟨_, rfl, hn, by show ts.length < _; omega, .inl ⟨h0, ⟨va, vc, by rw [hz]⟩, rfl⟩⟩, ⟨fun p hp => by simp at hp, by simp⟩, hflat, hgk, hgr⟩
 ·obtain ⟨T, S⟩ := row.tree h0 k nm hn (by omega)
  refine ⟨k, _, va, aL.length, vc, ((k, nm), ts), _, rfl, TyO.mono (by omega) _ _ _ _ T, ⟨fun p hp => ?_, S.2⟩, hflat, hgk, hgr⟩
  obtain ⟨g', e1, e2, e3⟩ := S.1 p hp
  exact ⟨g', e1, by omega, e3⟩
/-- The node is copied. -/
structure AtW (W0 wc : World) (lo G b wk : Nat) (R : Nat → Prop) (xs : List Gx) (D : DataW Unit) (dn : Nat → List Nd) (rt rk : Nat → Nat) (g : Nat) (k : Int) (nm : List UInt8) (ad : Option Addr) (la : Nat) (r : Nat) (ins : Bool) (wlk : Nat) : Prop where
 new : wc.heap[W0.heap.size]? = some (.cells #[.int .i64 k, .string ⟨nm.toArray⟩, .slice ad la la, .int .i64 r, .bool ins, .int .i64 wlk] 97 (0, 0))
 size : wc.heap.size = W0.heap.size + 1
 old : ∀ j, j ≠ g → j < W0.heap.size → wc.heap[j]? = W0.heap[j]?
 gk : Gk lo G b W0 wc
 gr : Gr wc lo G b wk R xs D dn rt rk
set_option maxHeartbeats 8000000 in
set_option maxRecDepth 10000 in
theorem type_step {lo G b wk : Nat} {R : Nat → Prop} {D : DataW Unit} {dn : Nat → List Nd} {rt rk : Nat → Nat} (N : Nat) (IH : ∀ (xs : List Gx) (w : World) (i : Nat), GX w lo G b R xs D wk → DenX xs dn rt rk → i < xs.length → (dn i).length ≤ N → Okr (dn i) → Calls Tryz.prog 53 #[.pointer (some ⟨G, 0, none⟩), .int .i64 i] w (TypeP lo G b wk R xs D dn rt rk N i w))
  (xs : List Gx) (w : World) (i : Nat) (h : GX w lo G b R xs D wk) (d : DenX xs dn rt rk) (hi : i < xs.length) (hN : (dn i).length ≤ N + 1) (hO : Okr (dn i)) :
  Calls Tryz.prog 53 #[.pointer (some ⟨G, 0, none⟩), .int .i64 i] w (TypeP lo G b wk R xs D dn rt rk (N + 1) i w) := by
 have hform := Den.form d hi
 have hr := Den.rt_lt d hi
 rw [hform] at hO
 obtain ⟨hok, hO2⟩ := Okr.cons.1 hO
 have CI : Hid (∀ (W : World) (a : Nat), Gr W lo G b wk R xs D dn rt rk → a ∈ arX xs (rt i) → Calls Tryz.prog 53 #[.pointer (some ⟨G, 0, none⟩), .int .i64 a] W (TypeP lo G b wk R xs D dn rt rk N a W)) := fun W a hG ha => by
  obtain ⟨ys, hE, hd, hX⟩ := hG
  have hlt := Den.less d hi ha
  refine Calls.mono (IH ys W a hX hd (by rw [hE.len]; exact Den.argr d hi ha) (by omega) fun nd hn => hO2 nd (List.mem_flatMap.2 ⟨a, ha, hn⟩)) ?_
  rintro e w' ⟨k, n, ad, len, cap, t, rws, h1, h2, h3, h4, h5, zs, z1, z2, z3⟩
  exact ⟨k, n, ad, len, cap, t, rws, h1, h2, h3, h4, h5, zs, hE.trans z1, z2, z3⟩
 have hnum := h.num
 obtain ⟨W0, hW0, hbW0, hsW0, _, _, _⟩ := cells_box w (.int .i64 0) (.string ⟨#[]⟩) (.slice none 0 0) 29
 have hz : W0.heap[w.heap.size]? = some (.cells #[.int .i64 0, .string ⟨#[]⟩, .slice none 0 0] 29 (0, 0)) := by rw [hW0]; exact heap_alloc_new w _
 have h0 := h.below hbW0
 obtain ⟨g, cap, ad, hgG, hgl, S0, hsrc⟩ := h0.six d i hi
 have C1 : ∀ W, Sm W0 W → Calls Tryz.prog 46 #[.pointer (some ⟨G, 0, none⟩), .int .i64 i] W fun e w' => e = .returned (.int .i64 (rt i : Nat)) ∧ Six w' G g xs.length cap (rt i) (lbX xs (rt i)).1 (lbX xs (rt i)).2 ad (arX xs (rt i)).length (inX xs (rt i)) (wkX xs (rt i)) ∧ Hid ((∀ j, j ≠ g → w'.heap[j]? = W0.heap[j]?) ∧ Gk lo G b W0 w' ∧ w'.heap.size = W0.heap.size ∧ Gr w' lo G b wk R xs D dn rt rk) := fun W s => by
  refine Calls.mono (end_node (h0.sm s) d i hi hgG (by obtain ⟨s0, s1, s2, s3, s4, s5, s6⟩ := S0; exact ⟨(s.cell _).trans s0, (s.cell _).trans s1, (s.cell _).trans s2, (s.cell _).trans s3, (s.cell _).trans s4, (s.cell _).trans s5, (s.cell _).trans s6⟩)) ?_
  rintro e w' ⟨rfl, h1, h2, h3, h4, h5⟩
  exact ⟨rfl, h1, fun j hj => (h2 j hj).trans (by rw [s.heap]), (Gk.of_sm s).trans h3, by rw [h4, s.heap], h5⟩
 have C2 : ∀ W, Sm (W0.alloc (Obj.cells #[.int .i64 0, .string ⟨#[]⟩, .slice none 0 0, .int .i64 0, .bool false, .int .i64 0] 97)) W → Calls Tryz.prog 46 #[.pointer (some ⟨G, 0, none⟩), .int .i64 i] W fun e w' => e = .returned (.int .i64 (rt i : Nat)) ∧ Six w' G g xs.length cap (rt i) (lbX xs (rt i)).1 (lbX xs (rt i)).2 ad (arX xs (rt i)).length (inX xs (rt i)) (wkX xs (rt i)) ∧ w'.heap[W0.heap.size]? = some (.cells #[.int .i64 0, .string ⟨#[]⟩, .slice none 0 0, .int .i64 0, .bool false, .int .i64 0] 97 (0, 0)) ∧ Hid ((∀ j, j ≠ g → j < W0.heap.size → w'.heap[j]? = W0.heap[j]?) ∧ Gk lo G b W0 w' ∧ w'.heap.size = W0.heap.size + 1 ∧ Gr w' lo G b wk R xs D dn rt rk) := fun W s => by
  have hb := (Below.refl W0.heap.size W0).alloc (Nat.le_refl _) (Obj.cells #[.int .i64 0, .string ⟨#[]⟩, .slice none 0 0, .int .i64 0, .bool false, .int .i64 0] 97)
  have hnew := heap_alloc_new W0 (.cells #[.int .i64 0, .string ⟨#[]⟩, .slice none 0 0, .int .i64 0, .bool false, .int .i64 0] 97)
  refine Calls.mono (end_node ((h0.below hb).sm s) d i hi hgG (by obtain ⟨s0, s1, s2, s3, s4, s5, s6⟩ := S0; exact ⟨(s.cell _).trans (alloc_keep s0 _), (s.cell _).trans (alloc_keep s1 _), (s.cell _).trans (alloc_keep s2 _), (s.cell _).trans (alloc_keep s3 _), (s.cell _).trans (alloc_keep s4 _), (s.cell _).trans (alloc_keep s5 _), (s.cell _).trans (alloc_keep s6 _)⟩)) ?_
  rintro e w' ⟨rfl, h1, h2, h3, h4, h5⟩
  refine ⟨rfl, h1, ?_, fun j hj hl => ?_, (Gk.of_below hb h0.num.2.1).trans ((Gk.of_sm s).trans h3), ?_, h5⟩
  ·rw [h2 _ (by omega), s.heap]
   exact hnew
  ·rw [h2 j hj, s.heap]
   exact hb.block j hl
  ·rw [h4, s.heap]
   simp
 have i1 : (0 : Int) ≤ ((rt i : Nat) : Int) := by omega
 have i2 : ((rt i : Nat) : Int) < (xs.length : Int) := by omega
 obtain ⟨hk4, hL6⟩ := ok_kind hok
 have HSRC : Hid (arX xs (rt i) = [] ∨ ∃ ga, ad = some ⟨ga, 0, none⟩ ∧ ga ≠ g ∧ W0.heap[ga]? = some (.cells ((arX xs (rt i)).map fun (x : Nat) => Value.int .i64 x).toArray 3 (0, 0))) := by
  rcases hsrc with q | ⟨ga, q1, q2⟩
  ·exact .inl q
  ·refine .inr ⟨ga, q1, fun e => ?_, q2⟩
   obtain ⟨cur, hcur⟩ := h0.row S0.1 (by omega)
   rw [e, hcur] at q2
   exact absurd (cells_ty q2) (by decide)
 have HG97 : Hid (∃ cur, W0.heap[g]? = some (.cells cur 97 (0, 0))) := h0.row S0.1 (by omega)
 clear h h0 hN d IH hsrc
 generalize inX xs (rt i) = ins at *
 generalize wkX xs (rt i) = wlk at *
 generalize arX xs (rt i) = aL at *
 generalize (lbX xs (rt i)).1 = k at *
 generalize (lbX xs (rt i)).2 = nm at *
 unfold Six at S0 C1 C2
 go_enter Tryz.func53, Tryz.ntmps53
 go_upto_region 1 with fail
 rw [← hW0]
 clear hW0
 have q1 : ¬ G = W0.heap.size := by omega
 have q2 : ¬ g = W0.heap.size := by omega
 have q3 : ¬ W0.heap.size = G := fun e => q1 e.symm
 have q4 : ¬ W0.heap.size = g := fun e => q2 e.symm
 have HS0 : Hid (W0.heap.size = w.heap.size + 1) := hsW0
 clear hsW0
 go_cut [5] from 9 to 17 (fun s wc => s = .pointer (some ⟨W0.heap.size, 0, none⟩) ∧ Hid (AtW W0 wc lo G b wk R xs D dn rt rk g k nm ad aL.length (rt i) ins wlk))
 case first =>
  go_region_held3 (fun w' => w'.cell? ⟨G, 0, none⟩ = some (.slice (some ⟨g, 0, none⟩) xs.length cap) ∧ w'.cell? ⟨g, rt i * 6, none⟩ = some (.int .i64 k) ∧ w'.cell? ⟨g, rt i * 6 + 1, none⟩ = some (.string ⟨nm.toArray⟩) ∧ w'.cell? ⟨g, rt i * 6 + 2, none⟩ = some (.slice ad aL.length aL.length) ∧ w'.cell? ⟨g, rt i * 6 + 3, none⟩ = some (.int .i64 (rt i : Nat)) ∧ w'.cell? ⟨g, rt i * 6 + 4, none⟩ = some (.bool ins) ∧ w'.cell? ⟨g, rt i * 6 + 5, none⟩ = some (.int .i64 wlk)) (first | (with_reducible exact S0) | (with_reducible exact S5) | (with_reducible assumption) | go_keep) (first
   | (go_at_call 46; (with_reducible refine Calls.mono (C1 _ ?_) ?_); exact ⟨rfl, rfl, rfl, rfl⟩; rintro e' w5 ⟨rfl, S5, HE⟩)
   | (go_at_call 46; (with_reducible refine Calls.mono (C2 _ ?_) ?_); exact ⟨rfl, rfl, rfl, rfl⟩; rintro e' w5 ⟨rfl, S5, Z5, HE⟩; obtain ⟨⟨e0, e1, e2, e3, e4, e5⟩, f0, f1, f2, f3, f4, f5⟩ := six_cells Z5))
  ·go_wp2_with fail
   go_meet
   obtain ⟨h1, h2, h3, h4⟩ := HE.out
   have hb := (Below.refl w5.heap.size w5).alloc (Nat.le_refl _) (Obj.cells #[.int .i64 k, .string ⟨nm.toArray⟩, .slice ad aL.length aL.length, .int .i64 (rt i : Nat), .bool ins, .int .i64 wlk] 97)
   refine ⟨by rw [h3], ?_, by simp [h3], fun j hj hl => ?_, h2.trans (Gk.of_below hb (by have := HS0.out; omega)), h4.below hb⟩
   ·rw [← h3]
    exact heap_alloc_new w5 _
   ·exact (hb.block j (by omega)).trans (h1 j hj)
  ·go_wp2_with fail
   go_meet
   obtain ⟨h1, h2, h3, h4⟩ := HE.out
   obtain ⟨V, hV, v1, v2, v3⟩ := store6 Z5 (.int .i64 k) (.string ⟨nm.toArray⟩) (.slice ad aL.length aL.length) (.int .i64 (rt i : Nat)) (.bool ins) (.int .i64 wlk)
   rw [← hV]
   have hlo : lo ≤ W0.heap.size := by have := HS0.out; omega
   refine ⟨rfl, v1, by rw [v2, h3], fun j hj hl => ?_, ⟨v3.os.trans h2.os, v3.tape.trans h2.tape, v3.output.trans h2.output, by omega, fun j hj => ?_, fun j o a1 a2 a3 a4 => ?_⟩, h4.far S5.1 q4 Z5 ⟨by decide, by decide⟩ v3⟩
   ·rw [v3.block j (by omega) (fun e => by have := Option.some.inj e; omega)]
    exact h1 j hj hl
   ·rw [v3.block j (by omega) (fun e => by have := Option.some.inj e; omega)]
    exact h2.low j hj
   ·have := lt_of_heap a1
    rw [v3.block j (by omega) (fun e => by have := Option.some.inj e; omega)]
    exact h2.keep j o a1 a2 a3 a4
 case rest =>
  obtain ⟨rfl, HA⟩ := hcut
  clear C1 C2 S0
  have hs1 : wc.heap.size = W0.heap.size + 1 := HA.out.size
  have HS1 : Hid (wc.heap.size = W0.heap.size + 1) := hs1
  have hx1 := HA.out.new
  have hz1 : wc.heap[w.heap.size]? = some (.cells #[.int .i64 0, .string ⟨#[]⟩, .slice none 0 0] 29 (0, 0)) := by
   have hlt := lt_of_heap hz
   rw [HA.out.old _ (fun e => ?_) hlt]
   ·exact hz
   ·have := HG97.out
    obtain ⟨cur, hc⟩ := this
    rw [← e, hz] at hc
    exact absurd (cells_ty hc) (by decide)
  obtain ⟨⟨e0, e1, e2, e3, e4, e5⟩, f0, f1, f2, f3, f4, f5⟩ := six_cells hx1
  have q5 : ¬ W0.heap.size = wc.heap.size := by omega
  have q6 : ¬ wc.heap.size = W0.heap.size := by omega
  clear hs1 q1 q2 q3 q4
  have CK : ∀ W, Calls Tryz.prog 73 #[.int .i64 k] W fun e w' => e = .returned (.int .i64 k) ∧ w' = W := fun W => kind_any k hk4 W
  go_upto_region 2 with fail
  go_cut [6] from 18 to 23 (fun s wd => s = .pointer (some ⟨wc.heap.size, 0, none⟩) ∧ wd = (wc.alloc (Obj.cells #[.int .i64 k, .string ⟨nm.toArray⟩, .slice none 0 0] 29)).drew)
  case first =>
   go_region_held3 (fun w' => w'.cell? ⟨W0.heap.size, 0, none⟩ = some (.int .i64 k) ∧ w'.cell? ⟨W0.heap.size, 1, none⟩ = some (.string ⟨nm.toArray⟩)) (first | exact ⟨e0, e1⟩ | assumption | exact ⟨alloc_keep e0 _, alloc_keep e1 _⟩ | go_keep) (first
    | (go_at_call 73; (with_reducible refine Calls.mono (CK _) ?_); rintro e' w5 ⟨rfl, rfl⟩))
   all_goals (go_wp2_with fail; go_meet; exact ⟨rfl, rfl⟩)
  case rest =>
   obtain ⟨rfl, rfl⟩ := hcut
   obtain ⟨W2, hW2⟩ : ∃ W2, W2 = (wc.alloc (Obj.cells #[.int .i64 k, .string ⟨nm.toArray⟩, .slice none 0 0] 29)).drew := ⟨_, rfl⟩
   rw [← hW2]
   have hb2 : Below wc.heap.size wc W2 := by rw [hW2]; exact ((Below.refl _ _).alloc (Nat.le_refl _) _).drew
   have hx2 : W2.heap[wc.heap.size]? = some (.cells #[.int .i64 k, .string ⟨nm.toArray⟩, .slice none 0 0] 29 (0, 0)) := by rw [hW2]; exact heap_alloc_new wc _
   have i2 : W2.cell? ⟨W0.heap.size, 2, none⟩ = some (.slice ad aL.length aL.length) := (World.cell?_of_block (w := wc) (hb2.block _ (lt_cell e2))).trans e2
   clear e0 e1 e2 e3 e4 e5 f0 f1 f2 f3 f4 f5 hW2
   have HT0 : Hid (TpW w lo G b wk R xs D dn rt rk wc.heap.size k nm ad aL N W2 (.slice none 0 0) [] [] []) := by
    have hs0 := HS0.out
    have hs1 := HS1.out
    have gk1 : Gk lo G b w wc := (Gk.of_below hbW0 (by omega)).trans HA.out.gk
    refine ⟨HA.out.gr.below hb2, gk1.trans (Gk.of_below hb2 (by omega)), (hb2.block _ (lt_of_heap hz1)).trans hz1, hx2, RowO.nil _ _ _, by simp [flats], ?_, by omega⟩
    rcases HSRC.out with q | ⟨ga, q1, q2, q3⟩
    ·exact .inl q
    ·have := lt_of_heap q3
     exact .inr ⟨ga, q1, (hb2.block _ (by omega)).trans ((HA.out.old ga q2 this).trans q3)⟩
   have HFIN : Hid (dn i = (k, nm, aL.length) :: aL.flatMap dn ∧ nm.length < 140737488355328 ∧ w.heap.size < wc.heap.size) := by
    refine ⟨hform, ?_, by have := HS0.out; have := HS1.out; omega⟩
    have h4 : nm.length ≤ 4096 := ok_name hok
    omega
   have hL6 : aL.length ≤ 6 := hL6
   clear hx1 hz1 hx2 hb2 HA HSRC CK q5 q6 HG97 hO hO2 hform hok hbW0 hz hgG hgl hk4
   generalize wc.heap.size = zt at *
   obtain ⟨i0, hi, hz0, hz1, hz2⟩ := info_parts Tryz.info29
   go_upto_region 3 with fail
   go_wp2
   go_loopw [27] (fun iv wr => ∃ (j : Nat) (v : Value) (es : List El) (ts : List (Tn N)) (rss : List (List (Value × Nat))), j ≤ aL.length ∧ iv = .int .i64 j ∧ Hid (ts.length = j ∧ TpW w lo G b wk R xs D dn rt rk zt k nm ad aL N wr v es ts rss)) (fun iv _ => aL.length - (intOf iv).toNat)
   case atStart => exact ⟨0, _, _, _, _, by omega, by go_num, rfl, HT0.out⟩
   case round =>
    obtain ⟨j, v, es, ts, rss, hj, rfl, HP⟩ := hrel
    obtain ⟨htl, T⟩ := HP.out
    obtain ⟨va, vc, rfl⟩ := row_form T.row
    rw [htl] at HP T
    clear HT0
    by_cases hlt : j < aL.length
    ·have hlt' : (j : Int) < (aL.length : Int) := by omega
     obtain ⟨ga, rfl, hga⟩ := T.src.resolve_left (fun e => by rw [e] at hlt; simp at hlt)
     have hcell : wr.cell? ⟨ga, j, none⟩ = some (.int .i64 (aL[j] : Nat)) := by
      simp only [World.cell?, hga]
      simp [List.getElem?_eq_getElem hlt]
     have CJ : ∀ U, Sm wr U → Calls Tryz.prog 53 #[.pointer (some ⟨G, 0, none⟩), .int .i64 (aL[j] : Nat)] U (TypeP lo G b wk R xs D dn rt rk N aL[j] U) := fun U s => CI.out U _ (by
      obtain ⟨ys, h1, h2, h3⟩ := T.gr
      exact ⟨ys, h1, h2, h3.sm s⟩) (List.getElem_mem hlt)
     have hq := lt_of_heap T.made
     have hel0 : es.length = j := by rw [T.row.len]; exact htl
     have HOW : Hid (wr.ownsRow (zt + 1) 29 3 (.slice va j vc) j (es.flatMap elCells)) := by have := T.row.own; rw [hel0] at this; exact this
     have y2 : wr.cell? ⟨zt, 2, none⟩ = some (.slice va j vc) := (heap_cells T.made).2.2
     have HKP : Hid (∀ U w2, Sm wr U → Gk lo G b U w2 → w2.cell? ⟨zt, 2, none⟩ = some (.slice va j vc) ∧ w2.ownsRow (zt + 1) 29 3 (.slice va j vc) j (es.flatMap elCells) ∧ zt + 1 ≤ w2.heap.size) := fun U w2 s hk => by
      obtain ⟨hp1, hp2, hp3, hp4⟩ := T.pos
      have c29 : ∀ (c : Array Value) (fz : Nat × Nat), ∀ c' fz', (Obj.cells c 29 fz) ≠ .cells c' 97 fz' := by intro c fz c' fz' e; exact absurd (cells_ty (congrArg some e)) (by decide)
      have h2 := hk.keep _ _ (by rw [s.heap]; exact T.made) (by omega) (by omega) (c29 _ _)
      refine ⟨(heap_cells h2).2.2, own_keep HOW.out fun g hg => ?_, lt_of_heap h2⟩
      rcases HOW.out.2 with ⟨h0, _⟩ | ⟨g', cap', cur, hv, h1, hh, _⟩
      ·rw [h0] at hg; cases hg
      ·rw [hv] at hg
       cases hg
       rw [hk.keep _ _ (by rw [s.heap]; exact hh) (by show g' ≠ G; omega) (by show g' ≠ b; omega) (c29 _ _), hh]
     clear hga T
     generalize haj : aL[j] = aj at *
     have HAJ : Hid (∃ h : j < aL.length, aL[j] = aj) := ⟨hlt, haj⟩
     clear haj
     go_upto_block 1 with fail
     go_cut [8, 27] from 29 to 38 (fun _ i wx => i = .int .i64 j ∧ ∃ v' es' ts' rss', Hid (ts'.length = j + 1 ∧ TpW w lo G b wk R xs D dn rt rk zt k nm (some ⟨ga, 0, none⟩) aL N wx v' es' ts' rss'))
     case first =>
      go_upto_region 6 with fail
      go_region_law (first
       | (go_simp; go_at_call 53; (with_reducible refine Calls.mono (CJ _ ?_) ?_); exact ⟨rfl, rfl, rfl, rfl⟩; intro e' w2 hp; obtain ⟨k2, n2, ad2, l2, cp2, t2, rws2, rfl, hT2, hS2, hfl2, hk2, hgr2⟩ := hp; obtain ⟨c2, own2, hz2w⟩ := HKP.out wr.drew _ ⟨rfl, rfl, rfl, rfl⟩ hk2; have KA : ∀ o, (w2.alloc o).cell? ⟨zt, 2, none⟩ = some (.slice va j vc) := fun o => cellA c2 o)
       | (refine step_append_lies _ (by rfl) _ _ _ (by rfl) (zt + 1) 29 i0 _ 3 48 Tryz.underlying27 hi hz0 hz1 hz2 rfl (by omega) (.slice va j vc) j (es.flatMap elCells) (by rfl) (own2.alloc _) ⟨w2.heap.size, 0, none⟩ 1 1 [.int .i64 k2, .string n2, .slice ad2 l2 cp2] (by rfl) (by rfl) (World.news_of_block (cs := #[.int .i64 k2, .string n2, .slice ad2 l2 cp2]) (t := 29) (fr := (0, 0)) (heap_alloc_new w2 _)) (by simp [Value.oneCell']) (by omega) (by unfold maxLen; omega) (by omega) (by simp; omega) (w2.heap.size + 1) (by simp) ?_; intro g3 cap3 w3 hown3 hgrow hat hlt3; obtain ⟨hq3, V, hV, HPV⟩ := HP.out.2.step htl hlt (U := wr.drew) ⟨rfl, rfl, rfl, rfl⟩ hk2 hgr2 (e := (k2, n2, .slice ad2 l2 cp2)) hT2 hS2 (by rw [HAJ.out.2]; exact hfl2) hown3 hgrow hat; obtain ⟨e0, e1, e2⟩ := heap_cells hq3; have f2 := heap_frozen (o := 2) hq3))
      all_goals
       rw [← hV]
       have HPV : Hid (TpW w lo G b wk R xs D dn rt rk zt k nm (some ⟨ga, 0, none⟩) aL N V (.slice (some ⟨g3, 0, none⟩) (j + 1) cap3) (es ++ [(k2, n2, .slice ad2 l2 cp2)]) (ts ++ [t2]) (rss ++ [rws2])) := HPV
       clear hV hown3 hgrow hat hlt3 hT2 hS2 e0 e1 e2 f2 own2 KA
       go_wp2_with fail
       go_meet
       exact ⟨rfl, _, _, _, _, by simp [htl], HPV.out⟩
     case rest =>
      obtain ⟨rfl, v', es', ts', rss', HP'⟩ := hcut
      clear HP CJ HOW hel0 HKP y2 hcell
      go_wp2
      go_roundw
      case rel => exact ⟨j + 1, _, _, _, _, hlt, by go_num, HP'.out⟩
      case measure => simp [intOf]; omega
    ·have hlt' : ¬ (j : Int) < (aL.length : Int) := by omega
     have hjl : j = aL.length := by omega
     obtain ⟨m0, m1, m2⟩ := heap_cells T.made
     obtain ⟨r0, r1, r2⟩ := heap_cells T.res
     have g0 := heap_frozen (o := 0) T.res
     have g1 := heap_frozen (o := 1) T.res
     have g2 := heap_frozen (o := 2) T.res
     have HT : Hid (TpW w lo G b wk R xs D dn rt rk zt k nm ad aL N wr (.slice va j vc) es ts rss) := T
     have q7 : ¬ zt = w.heap.size := by have := HFIN.out.2.2; omega
     have q8 : ¬ w.heap.size = zt := fun e => q7 e.symm
     subst hjl
     obtain ⟨W, hWe, k1, HTP⟩ := HT.out.fin htl HFIN.out.2.1 hL6 HFIN.out.1
     have HTP : Hid (TypeP lo G b wk R xs D dn rt rk (N + 1) i w (.returned (.agg #[.int .i64 k, .string ⟨nm.toArray⟩, .slice va aL.length vc])) W) := HTP
     clear T HP CI HT HFIN
     go_wp2
     rw [← hWe]
     obtain ⟨s0, s1, s2⟩ := heap_cells k1
     refine bodyPost_ret (v := .agg #[.int .i64 k, .string ⟨nm.toArray⟩, .slice va aL.length vc]) (by simp [results, Tryz.results53, go_sem, s0, s1, s2]) rfl ?_
     exact HTP.out
theorem type_any {lo G b wk : Nat} {R : Nat → Prop} {D : DataW Unit} {dn : Nat → List Nd} {rt rk : Nat → Nat} : ∀ (N : Nat) (xs : List Gx) (w : World) (i : Nat), GX w lo G b R xs D wk → DenX xs dn rt rk → i < xs.length → (dn i).length ≤ N → Okr (dn i) → Calls Tryz.prog 53 #[.pointer (some ⟨G, 0, none⟩), .int .i64 i] w (TypeP lo G b wk R xs D dn rt rk N i w)
 | 0, _, _, i, _, d, hi, hN, _ => by
  have := Den.form d hi
  rw [this] at hN
  simp at hN
 | N + 1, xs, w, i, h, d, hi, hN, hO => type_step N (type_any N) xs w i h d hi hN hO
end Go.Proofs.YtikpipenhamdbaaGreat
