/- The graph in memory and what its nodes stand for; the contract of end. The graph in memory, with what it means; what laying and marking turn. The graph: the contract of lay, at a node that is no variable. The graph: the contract of lay. The graph: the contract of nodesLeft. The graph: the contract of end, with all blocks that it leaves. -/
import Derived.Test.YtikpipenhamdbaaMlx
import Derived.Test.YtikpipenhamdbaaMox
namespace Go.Proofs.Ytikpipenhamdbaa
open Go.RowKit Go.Maps

def gz : Gx := { is := 0, name := [], ar := [], tg := 0, ins := false, walk := 0 }
def lbX (xs : List Gx) (i : Nat) : Int × List UInt8 := ((xs.getD i gz).is, (xs.getD i gz).name)
def arX (xs : List Gx) (i : Nat) : List Nat := (xs.getD i gz).ar
def tgX (xs : List Gx) (i : Nat) : Nat := (xs.getD i gz).tg
def inX (xs : List Gx) (i : Nat) : Bool := (xs.getD i gz).ins
def wkX (xs : List Gx) (i : Nat) : Nat := (xs.getD i gz).walk
/-- What the nodes of a graph in memory stand for. -/
abbrev DenX (xs : List Gx) (dn : Nat → List Nd) (rt rk : Nat → Nat) : Prop := Den xs.length (lbX xs) (arX xs) (tgX xs) dn rt rk
theorem getD_at {xs : List Gx} {i : Nat} (hi : i < xs.length) : xs.getD i gz = xs[i] := by
  rw [List.getD_eq_getElem?_getD, List.getElem?_eq_getElem hi]
  rfl
theorem getD_mod (xs : List Gx) (f : Gx → Gx) {i : Nat} (hi : i < xs.length) (j : Nat) : (xs.modify i f).getD j gz = if j = i then f (xs.getD j gz) else xs.getD j gz := by
  rw [List.getD_eq_getElem?_getD, List.getElem?_modify, List.getD_eq_getElem?_getD]
  by_cases q : j = i
  · subst q
    rw [if_pos rfl, List.getElem?_eq_getElem hi]
    simp
  · rw [if_neg q]
    simp [Ne.symm q]
/-- The same nodes, but for where they lead. -/
structure Eqg (xs ys : List Gx) : Prop where
  len : ys.length = xs.length
  lb : lbX ys = lbX xs
  ar : arX ys = arX xs
  ins : inX ys = inX xs
  wk : wkX ys = wkX xs
theorem Eqg.refl (xs : List Gx) : Eqg xs xs := ⟨rfl, rfl, rfl, rfl, rfl⟩
theorem Eqg.trans {xs ys zs : List Gx} (h : Eqg xs ys) (k : Eqg ys zs) : Eqg xs zs := ⟨k.len.trans h.len, k.lb.trans h.lb, k.ar.trans h.ar, k.ins.trans h.ins, k.wk.trans h.wk⟩
theorem toX_eqg (xs : List Gx) {i : Nat} (hi : i < xs.length) (t : Nat) : Eqg xs (toX xs i t) ∧ tgX (toX xs i t) = putN (tgX xs) i t := by
  have key := getD_mod xs (fun x => { x with tg := t }) hi
  refine ⟨⟨by simp [toX], ?_, ?_, ?_, ?_⟩, ?_⟩ <;> (funext j; simp only [toX, lbX, arX, inX, wkX, tgX, putN, key]; split <;> rfl)
theorem DenX.half {xs : List Gx} {dn : Nat → List Nd} {rt rk : Nat → Nat} (h : DenX xs dn rt rk) {i : Nat} (hi : i < xs.length) (ht : tgX xs i ≠ i) : DenX (toX xs i (tgX xs (tgX xs i))) dn rt rk := by
  obtain ⟨e1, e2⟩ := toX_eqg xs hi (tgX xs (tgX xs i))
  unfold DenX
  rw [e1.len, e1.lb, e1.ar, e2]
  exact Den.half h hi ht
/-- What end does. -/
structure Ended (lo G b wk : Nat) (R : Nat → Prop) (xs : List Gx) (D : DataW Unit) (dn : Nat → List Nd) (rt rk : Nat → Nat) (w w' : World) : Prop where
  ex : ∃ ys, Eqg xs ys ∧ DenX ys dn rt rk ∧ GX w' lo G b R ys D wk
  gk : Gk lo G b w w'
  same : ∀ k : Nat, (∀ c fz, w.heap[k]? ≠ some (Obj.cells c 80 fz)) → w'.heap[k]? = w.heap[k]?
  size : w'.heap.size = w.heap.size
theorem Ended.refl {lo G b wk : Nat} {R : Nat → Prop} {xs : List Gx} {D : DataW Unit} {dn : Nat → List Nd} {rt rk : Nat → Nat} {w : World} (h : GX w lo G b R xs D wk) (d : DenX xs dn rt rk) : Ended lo G b wk R xs D dn rt rk w w := ⟨⟨xs, Eqg.refl xs, d, h⟩, Gk.refl _ _ _ _, fun _ _ => rfl, rfl⟩
theorem Ended.sm {lo G b wk : Nat} {R : Nat → Prop} {xs : List Gx} {D : DataW Unit} {dn : Nat → List Nd} {rt rk : Nat → Nat} {w w1 w2 : World} (h : Ended lo G b wk R xs D dn rt rk w w1) (s : Sm w1 w2) : Ended lo G b wk R xs D dn rt rk w w2 := by
  obtain ⟨⟨ys, h1, h2, h3⟩, h4, h5, h6⟩ := h
  exact ⟨⟨ys, h1, h2, h3.sm s⟩, h4.trans (Gk.of_sm s), fun k hk => by rw [s.heap]; exact h5 k hk, by rw [s.heap]; exact h6⟩
/-- The row of nodes is one of nodes. -/
theorem GX.row {w : World} {lo G b wk : Nat} {R : Nat → Prop} {xs : List Gx} {D : DataW Unit} (h : GX w lo G b R xs D wk) {g cap : Nat} (c0 : w.cell? ⟨G, 0, none⟩ = some (.slice (some ⟨g, 0, none⟩) xs.length cap)) (hp : 0 < xs.length) : ∃ cur, w.heap[g]? = some (.cells cur 80 (0, 0)) := by
  obtain ⟨v, ns, rfl, hG, hr⟩ := h
  rw [List.length_map] at c0 hp
  obtain ⟨g', cap', hv, _, _, hcur, ⟨c0', _, _⟩, _⟩ := hG.cells hp
  rw [c0] at c0'
  rw [slice_block c0']
  exact hcur
set_option maxHeartbeats 8000000 in
set_option maxRecDepth 10000 in
theorem end_any {w : World} {lo G b wk : Nat} {R : Nat → Prop} {xs : List Gx} {D : DataW Unit} {dn : Nat → List Nd} {rt rk : Nat → Nat} (h : GX w lo G b R xs D wk) (d : DenX xs dn rt rk) (i : Nat) (hi : i < xs.length) :
    Calls Try.prog 29 #[.pointer (some ⟨G, 0, none⟩), .int .i64 i] w fun e w' => e = .returned (.int .i64 (rt i : Nat)) ∧ Ended lo G b wk R xs D dn rt rk w w' := by
  have H0 : Hid (GX w lo G b R xs D wk ∧ DenX xs dn rt rk) := ⟨h, d⟩
  have HN : Hid (xs.length ≤ 200000000) := h.num.1
  clear h d
  go_enter Try.func29, Try.ntmps29
  go_wp2
  go_loopw [1] (fun iv wr => ∃ m : Nat, iv = .int .i64 m ∧ Hid (m < xs.length ∧ rt m = rt i ∧ Ended lo G b wk R xs D dn rt rk w wr)) (fun iv _ => rk (intOf iv).toNat)
  case atStart => exact ⟨i, rfl, hi, rfl, Ended.refl H0.out.1 H0.out.2⟩
  case round =>
    obtain ⟨m, rfl, HP⟩ := hrel
    obtain ⟨hm, hrm, ⟨ys, hE, hD, hX⟩, hK, hS, hZ⟩ := HP.out
    have hm' : m < ys.length := by rw [hE.len]; exact hm
    obtain ⟨g, cap, ad, c0, _, hgG, hfr, ⟨_, _, _, n3, _, _⟩, _, hT⟩ := hX.at hm'
    have et : ys[m].tg = tgX ys m := by unfold tgX; rw [getD_at hm']
    rw [et] at n3
    have hnn := HN.out
    have hln : ys.length ≤ 200000000 := by rw [hE.len]; exact hnn
    have i1 : (0 : Int) ≤ (m : Int) := by omega
    have i2 : (m : Int) < (ys.length : Int) := by omega
    by_cases q : tgX ys m = m
    · rw [q] at n3
      have hr : rt m = m := (Den.root hD m hm' q).1
      have HF : Hid (Ended lo G b wk R xs D dn rt rk w wr ∧ m = rt i) := ⟨⟨⟨ys, hE, hD, hX⟩, hK, hS, hZ⟩, by rw [← hrm]; exact hr.symm⟩
      clear hE hD hX hK hT hfr HP hrm hr H0 hS hZ
      go_wp2
      go_ret
      exact ⟨by rw [← HF.out.2]; rfl, HF.out.1⟩
    · have ht' : tgX ys m < ys.length := Den.tow hD m hm'
      obtain ⟨g', cap', ad', c0', _, _, _, ⟨_, _, _, m3, _, _⟩, _, _⟩ := hX.at ht'
      rw [c0] at c0'
      have eg := slice_block c0'
      subst eg
      have et2 : ys[tgX ys m].tg = tgX ys (tgX ys m) := by
        show _ = (ys.getD (tgX ys m) gz).tg
        rw [getD_at ht']
      rw [et2] at m3
      obtain ⟨hT1, hT2⟩ := hT (tgX ys (tgX ys m))
      obtain ⟨l1, _, l3⟩ := Den.link hD m hm' q
      have hu : tgX ys (tgX ys m) < ys.length := Den.tow hD _ ht'
      have hlr : rt (tgX ys (tgX ys m)) = rt m ∧ rk (tgX ys (tgX ys m)) < rk m := by
        by_cases e : tgX ys (tgX ys m) = tgX ys m
        · rw [e]
          exact ⟨l1.symm, l3⟩
        · obtain ⟨k1, _, k3⟩ := Den.link hD _ ht' e
          exact ⟨by rw [← k1, l1], by omega⟩
      have HF : Hid (∀ w', Sm (wr.setCell ⟨g, m * 6 + 3, none⟩ (.int .i64 (tgX ys (tgX ys m) : Nat))) w' → tgX ys (tgX ys m) < xs.length ∧ rt (tgX ys (tgX ys m)) = rt i ∧ Ended lo G b wk R xs D dn rt rk w w') := fun w' s => by
        obtain ⟨cur, hcur⟩ := hX.row c0 (by omega)
        refine ⟨by rw [← hE.len]; exact hu, hlr.1.trans hrm, ⟨_, hE.trans (toX_eqg ys hm' _).1, DenX.half hD hm' q, hT1.sm s⟩, (hK.trans hT2).trans (Gk.of_sm s), fun k hk => ?_, ?_⟩
        · have hkg : k ≠ g := fun e => hk cur (0, 0) (by rw [← hS k hk, e]; exact hcur)
          rw [s.heap, Below.heap_setCell _ _ _ _ hkg]
          exact hS k hk
        · rw [s.heap, ← hZ]
          simp [World.setCell]
      have HM : Hid (rk (tgX ys (tgX ys m)) < rk m) := hlr.2
      have hf3 := hfr (m * 6 + 3)
      have hne : ((tgX ys m : Int) != (m : Int)) = true := by simp; omega
      have hne2 : ((tgX ys m : Int) == (m : Int)) = false := by simp; omega
      have e1 : ¬ g = G := hgG
      have e2 : ¬ G = g := fun e => hgG e.symm
      generalize tgX ys (tgX ys m) = u at *
      generalize tgX ys m = t at *
      have j1 : (0 : Int) ≤ (t : Int) := by omega
      have j2 : (t : Int) < (ys.length : Int) := by omega
      have k1 : (0 : Int) ≤ (u : Int) := by omega
      have k2 : (u : Int) < (ys.length : Int) := by omega
      clear hE hD hX hK hS hZ hT hT1 hT2 hfr HP hrm H0 l1 l3 hlr et et2
      go_wp2
      go_region
      go_wp2
      go_roundw
      case rel => exact ⟨u, by go_num, HF.out _ ⟨rfl, rfl, rfl, rfl⟩⟩
      case measure => simp [intOf]; exact HM.out
end Go.Proofs.Ytikpipenhamdbaa

namespace Go.Proofs.Ytikpipenhamdbaa
open Go.RowKit Go.Maps

/-- The map of variables. -/
structure Vm (D : DataW Unit) (xs : List Gx) : Prop where
  is : IsMap D
  has : ∀ n : List UInt8, Maps.has D (.string n) = true ↔ ∃ i, i < xs.length ∧ lbX xs i = (2, n)
  get : ∀ i, i < xs.length → (lbX xs i).1 = 2 → D.atKey (.string (lbX xs i).2) (.lit (.int .i64 0)) = .lit (.int .i64 i)
  all : ∀ kl (c : Int), (∀ zd, D.atKey kl zd = .lit (.int .i64 c)) → ∃ i : Nat, i < xs.length ∧ (lbX xs i).1 = 2 ∧ c = i
  nn : ∀ i, i < xs.length → (lbX xs i).1 = 2 → varB (lbX xs i).2 = true
/-- What is bound: variables stand for it; of those alone something is bound that are there. -/
structure Vb (xs : List Gx) (dn : Nat → List Nd) (L : List (List UInt8 × List Nd)) : Prop where
  dn : ∀ i, i < xs.length → (lbX xs i).1 = 2 → dn i = subL L [(2, (lbX xs i).2, 0)]
  low : ∀ c ∈ L, ∃ i, i < xs.length ∧ lbX xs i = (2, c.1)
/-- What the graph means. -/
structure Mn (wk : Nat) (xs : List Gx) (D : DataW Unit) (dn : Nat → List Nd) (rt rk : Nat → Nat) (L : List (List UInt8 × List Nd)) : Prop where
  den : DenX xs dn rt rk
  mrk : Mk xs.length (lbX xs) (arX xs) rt (inX xs)
  vm : Vm D xs
  wm : ∀ i, wkX xs i ≤ wk
  few : ∀ i, (arX xs i).length ≤ 6
  vb : Vb xs dn L
theorem Vm.eqg {D : DataW Unit} {xs ys : List Gx} (h : Vm D xs) (e : ys.length = xs.length) (l : lbX ys = lbX xs) : Vm D ys := by
  obtain ⟨h0, h1, h2, h3, h4⟩ := h
  rw [← e, ← l] at h1 h2 h3 h4
  exact ⟨h0, h1, h2, h3, h4⟩
theorem Vb.eqg {xs ys : List Gx} {dn : Nat → List Nd} {L : List (List UInt8 × List Nd)} (h : Vb xs dn L) (e : ys.length = xs.length) (l : lbX ys = lbX xs) : Vb ys dn L := by
  obtain ⟨h1, h2⟩ := h
  rw [← e, ← l] at h1 h2
  exact ⟨h1, h2⟩
/-- Ways alone have turned. -/
theorem Mn.eqg {wk : Nat} {xs ys : List Gx} {D : DataW Unit} {dn : Nat → List Nd} {rt rk : Nat → Nat} {L : List (List UInt8 × List Nd)} (h : Mn wk xs D dn rt rk L) (e : Eqg xs ys) (d : DenX ys dn rt rk) : Mn wk ys D dn rt rk L :=
  ⟨d, by rw [e.len, e.lb, e.ar, e.ins]; exact h.mrk, h.vm.eqg e.len e.lb, by rw [e.wk]; exact h.wm, by rw [e.ar]; exact h.few, h.vb.eqg e.len e.lb⟩
theorem insX_eq (xs : List Gx) {i : Nat} (hi : i < xs.length) : (insX xs i).length = xs.length ∧ lbX (insX xs i) = lbX xs ∧ arX (insX xs i) = arX xs ∧ tgX (insX xs i) = tgX xs ∧ wkX (insX xs i) = wkX xs ∧ inX (insX xs i) = setM (inX xs) i := by
  have key := getD_mod xs (fun x => { x with ins := true }) hi
  refine ⟨by simp [insX], ?_, ?_, ?_, ?_, ?_⟩ <;> (funext j; simp only [insX, lbX, arX, inX, wkX, tgX, setM, key]; split <;> rfl)
theorem Mn.mark {wk : Nat} {xs : List Gx} {D : DataW Unit} {dn : Nat → List Nd} {rt rk : Nat → Nat} {L : List (List UInt8 × List Nd)} (h : Mn wk xs D dn rt rk L) {i : Nat} (hi : i < xs.length) : Mn wk (insX xs i) D dn rt rk L := by
  obtain ⟨e1, e2, e3, e4, e5, e6⟩ := insX_eq xs hi
  refine ⟨by unfold DenX; rw [e1, e2, e3, e4]; exact h.den, ?_, h.vm.eqg e1 e2, by rw [e5]; exact h.wm, by rw [e3]; exact h.few, h.vb.eqg e1 e2⟩
  rw [e1, e2, e3, e6]
  exact fun j hj a ha hv => setM_mono _ _ _ (h.mrk j hj a ha hv)
/-- A node more. -/
theorem app_eq (xs : List Gx) (x : Gx) : (xs ++ [x]).length = xs.length + 1 ∧ lbX (xs ++ [x]) = (fun j => if j = xs.length then (x.is, x.name) else lbX xs j) ∧ arX (xs ++ [x]) = (fun j => if j = xs.length then x.ar else arX xs j) ∧ tgX (xs ++ [x]) = putN (tgX xs) xs.length x.tg ∧ wkX (xs ++ [x]) = putN (wkX xs) xs.length x.walk ∧ ∀ j, inX (xs ++ [x]) j = if j = xs.length then x.ins else inX xs j := by
  have key : ∀ j, (xs ++ [x]).getD j gz = if j = xs.length then x else xs.getD j gz := fun j => by
    rw [List.getD_eq_getElem?_getD, List.getD_eq_getElem?_getD]
    by_cases q : j = xs.length
    · rw [if_pos q, q]
      simp
    · rw [if_neg q]
      by_cases q2 : j < xs.length
      · rw [List.getElem?_append_left q2]
      · rw [List.getElem?_eq_none (by simp; omega), List.getElem?_eq_none (by omega)]
  refine ⟨by simp, ?_, ?_, ?_, ?_, ?_⟩
  · funext j
    simp only [lbX, key]
    split <;> rfl
  · funext j
    simp only [arX, key]
    split <;> rfl
  · funext j
    simp only [tgX, key, putN]
    split <;> rfl
  · funext j
    simp only [wkX, key, putN]
    split <;> rfl
  · intro j
    simp only [inX, key]
    split <;> rfl
/-- A node more, and what comes of it. -/
theorem Mn.more {wk : Nat} {xs : List Gx} {D D' : DataW Unit} {dn : Nat → List Nd} {rt rk : Nat → Nat} {L : List (List UInt8 × List Nd)} (h : Mn wk xs D dn rt rk L) (x : Gx) (ht : x.tg = xs.length) (hw : x.walk = 0) (ha : ∀ a ∈ x.ar, a < xs.length ∧ ((lbX xs (rt a)).1 = 2 → inX xs (rt a) = true)) (h6 : x.ar.length ≤ 6)
    (hv : x.is = 2 → x.ar = [] ∧ varB x.name = true ∧ Maps.has D (.string x.name) = false) (hD : D' = if x.is = 2 then D.put (.string x.name) (.lit (.int .i64 xs.length)) else D) :
    ∃ dn' rt', Mn wk (xs ++ [x]) D' dn' rt' rk L ∧ (∀ j, j < xs.length → dn' j = dn j ∧ rt' j = rt j) ∧ dn' xs.length = (if x.is = 2 then [(2, x.name, 0)] else (x.is, x.name, x.ar.length) :: x.ar.flatMap dn) := by
  obtain ⟨e1, e2, e3, e4, e5, e6⟩ := app_eq xs x
  have hfresh : x.is = 2 → ∀ i, i < xs.length → (lbX xs i).1 = 2 → (lbX xs i).2 ≠ x.name := fun q i hi h2 e => by
    have := (h.vm.has x.name).2 ⟨i, hi, by rw [← e, ← h2]⟩
    rw [(hv q).2.2] at this
    cases this
  have den := Den.more h.den (x.is, x.name) x.ar (fun a q => (ha a q).1) fun q => ⟨(hv q).1, hfresh q⟩
  refine ⟨_, _, ⟨by unfold DenX; rw [e1, e2, e3, e4, ht]; exact den, ?_, ?_, ?_, ?_, ?_⟩, fun j hj => ⟨if_neg (by omega), putN_other _ _ (by omega)⟩, ?_⟩
  · rw [e1, e2, e3]
    intro i hi a q h2
    by_cases qi : i = xs.length
    · rw [qi] at q
      simp only [if_true] at q
      obtain ⟨g1, g2⟩ := ha a q
      have hr := Den.rt_lt h.den g1
      have h2 : ((fun j => if j = xs.length then (x.is, x.name) else lbX xs j) (putN rt xs.length xs.length a)).1 = 2 := h2
      show inX (xs ++ [x]) (putN rt xs.length xs.length a) = true
      rw [putN_other _ _ (show a ≠ xs.length by omega)] at h2 ⊢
      rw [e6, if_neg (show rt a ≠ xs.length by omega)]
      simp only [if_neg (show rt a ≠ xs.length by omega)] at h2
      exact g2 h2
    · simp only [if_neg qi] at q
      have hi' : i < xs.length := by omega
      have g1 := Den.arg h.den i hi' a q
      have hr := Den.rt_lt h.den g1
      have h2 : ((fun j => if j = xs.length then (x.is, x.name) else lbX xs j) (putN rt xs.length xs.length a)).1 = 2 := h2
      show inX (xs ++ [x]) (putN rt xs.length xs.length a) = true
      rw [putN_other _ _ (show a ≠ xs.length by omega)] at h2 ⊢
      rw [e6, if_neg (show rt a ≠ xs.length by omega)]
      simp only [if_neg (show rt a ≠ xs.length by omega)] at h2
      exact h.mrk i hi' a q h2
  · have key : IsMap D' := by
      rw [hD]
      split
      · obtain ⟨es, rfl⟩ := h.vm.is
        exact ⟨_, rfl⟩
      · exact h.vm.is
    refine ⟨key, fun n => ?_, fun i hi h2 => ?_, fun kl c hc => ?_, fun i hi h2 => ?_⟩
    · rw [e1, e2, hD]
      by_cases q : x.is = 2
      · rw [if_pos q]
        by_cases qn : n = x.name
        · rw [qn, Maps.has_put_same h.vm.is (by simp [WideAt.IsKeyLit])]
          exact ⟨fun _ => ⟨xs.length, by omega, by simp [q]⟩, fun _ => rfl⟩
        · rw [Maps.has_put_other (by simpa using qn), h.vm.has]
          constructor
          · rintro ⟨i, hi, e⟩
            exact ⟨i, by omega, by simp only [if_neg (show i ≠ xs.length by omega)]; exact e⟩
          · rintro ⟨i, hi, e⟩
            by_cases qi : i = xs.length
            · simp only [qi, if_true] at e
              injection e with _ e
              exact absurd e.symm qn
            · simp only [if_neg qi] at e
              exact ⟨i, by omega, e⟩
      · rw [if_neg q, h.vm.has]
        constructor
        · rintro ⟨i, hi, e⟩
          exact ⟨i, by omega, by simp only [if_neg (show i ≠ xs.length by omega)]; exact e⟩
        · rintro ⟨i, hi, e⟩
          by_cases qi : i = xs.length
          · simp only [qi, if_true] at e
            injection e with e _
            exact absurd e q
          · simp only [if_neg qi] at e
            exact ⟨i, by omega, e⟩
    · rw [e1] at hi
      rw [e2] at h2 ⊢
      rw [hD]
      by_cases qi : i = xs.length
      · simp only [qi, if_true] at h2 ⊢
        rw [if_pos h2, Maps.atKey_put_same h.vm.is (by simp [WideAt.IsKeyLit])]
      · simp only [if_neg qi] at h2 ⊢
        have hg := h.vm.get i (by omega) h2
        split
        · rename_i q
          rw [Maps.atKey_put_other (by simpa using hfresh q i (by omega) h2)]
          exact hg
        · exact hg
    · rw [hD] at hc
      rw [e1, e2]
      have old : ∀ c : Int, (∃ i : Nat, i < xs.length ∧ (lbX xs i).1 = 2 ∧ c = i) → ∃ i : Nat, i < xs.length + 1 ∧ ((if i = xs.length then (x.is, x.name) else lbX xs i)).1 = 2 ∧ c = i := fun c ⟨i, h1, h2, h3⟩ => ⟨i, by omega, by rw [if_neg (show i ≠ xs.length by omega)]; exact h2, h3⟩
      split at hc
      · rename_i q
        by_cases qk : kl = .string x.name
        · have := hc (.lit (.int .i64 0))
          rw [qk, Maps.atKey_put_same h.vm.is (by simp [WideAt.IsKeyLit])] at this
          refine ⟨xs.length, by omega, by simp [q], ?_⟩
          injection this with this
          injection this with _ this
          exact this.symm
        · refine old c (h.vm.all kl c fun zd => ?_)
          have := hc zd
          rw [Maps.atKey_put_other qk] at this
          exact this
      · exact old c (h.vm.all kl c hc)
    · rw [e1] at hi
      rw [e2] at h2 ⊢
      by_cases qi : i = xs.length
      · simp only [qi, if_true] at h2 ⊢
        exact (hv h2).2.1
      · simp only [if_neg qi] at h2 ⊢
        exact h.vm.nn i (by omega) h2
  · rw [e5]
    intro i
    by_cases qi : i = xs.length
    · rw [qi, putN_self, hw]
      omega
    · rw [putN_other _ _ qi]
      exact h.wm i
  · rw [e3]
    intro i
    by_cases qi : i = xs.length
    · simp only [qi, if_true]
      exact h6
    · simp only [if_neg qi]
      exact h.few i
  · refine ⟨fun i hi h2 => ?_, fun c hc => ?_⟩
    · rw [e1] at hi
      rw [e2] at h2 ⊢
      by_cases qi : i = xs.length
      · simp only [qi, if_true] at h2 ⊢
        rw [h2, (hv h2).1]
        refine (subL_free (vok_cons.2 ⟨fun _ => rfl, vok_nil⟩) fun c hc hm => ?_).symm
        obtain ⟨k, hk, e⟩ := h.vb.low c hc
        have e' : c.1 = x.name := by
          have := List.mem_singleton.1 hm
          injection this with _ this
          injection this with this _
        exact hfresh h2 k hk (by rw [e]) (by rw [e]; exact e')
      · simp only [if_neg qi] at h2 ⊢
        exact h.vb.dn i (by omega) h2
    · obtain ⟨k, hk, e⟩ := h.vb.low c hc
      rw [e1, e2]
      exact ⟨k, by omega, by simp only [if_neg (show k ≠ xs.length by omega)]; exact e⟩
  · simp only [if_true]
    split
    · rename_i q
      rw [(hv q).1, q]
      rfl
    · rfl
end Go.Proofs.Ytikpipenhamdbaa

namespace Go.Proofs.Ytikpipenhamdbaa
open Go.RowKit Go.Maps

/-- Between the rounds of lay's loop. -/
structure LyR (lo G b wk : Nat) (R : Nat → Prop) (w0 wr : World) (z za : Nat) (hd : Array Value) (xs : List Gx) (D : DataW Unit) (cs : List Nat) : Prop where
  gx : GX wr lo G b (fun g => g = za ∨ R g) xs D wk
  gk : Gk lo G b w0 wr
  row : wr.heap[za]? = some (.cells (cs.map fun (x : Nat) => Value.int .i64 x).toArray 3 (0, 0))
  box : wr.heap[z]? = some (.cells hd 31 (0, 0))
theorem LyR.next {lo G b wk z za : Nat} {R : Nat → Prop} {w0 wr w1 : World} {hd : Array Value} {xs xs' : List Gx} {D D' : DataW Unit} {cs : List Nat} (h : LyR lo G b wk R w0 wr z za hd xs D cs) (hn : za ≠ G ∧ za ≠ b ∧ z ≠ G ∧ z ≠ b) (hk : Gk lo G b wr w1) (hx : GX w1 lo G b (fun g => g = za ∨ R g) xs' D' wk) : LyR lo G b wk R w0 w1 z za hd xs' D' cs :=
  ⟨hx, h.gk.trans hk, hk.keep _ _ h.row hn.1 hn.2.1 (by intro c fz e; exact absurd (cells_ty (congrArg some e)) (by decide)), hk.keep _ _ h.box hn.2.2.1 hn.2.2.2 (by intro c fz e; exact absurd (cells_ty (congrArg some e)) (by decide))⟩
theorem LyR.sm {lo G b wk z za : Nat} {R : Nat → Prop} {w0 wr w1 : World} {hd : Array Value} {xs : List Gx} {D : DataW Unit} {cs : List Nat} (h : LyR lo G b wk R w0 wr z za hd xs D cs) (hn : za ≠ G ∧ za ≠ b ∧ z ≠ G ∧ z ≠ b) (s : Sm wr w1) : LyR lo G b wk R w0 w1 z za hd xs D cs := h.next hn (Gk.of_sm s) (h.gx.sm s)
theorem LyR.store {lo G b wk z za : Nat} {R : Nat → Prop} {w0 wr : World} {hd : Array Value} {xs : List Gx} {D : DataW Unit} {cs : List Nat} (h : LyR lo G b wk R w0 wr z za hd xs D cs) (hz : w0.heap.size ≤ za) (hlo : lo ≤ w0.heap.size) (hzz : z ≠ za) (j c : Nat) : LyR lo G b wk R w0 (wr.setCell ⟨za, j, none⟩ (.int .i64 c)) z za hd xs D (cs.set j c) := by
  have hoth : ∀ k, k ≠ za → (wr.setCell ⟨za, j, none⟩ (.int .i64 c)).heap[k]? = wr.heap[k]? := fun k hk => Below.heap_setCell _ _ _ _ hk
  refine ⟨h.gx.aside (.inl rfl) h.row _ _, ⟨h.gk.os, h.gk.tape, h.gk.output, by simpa [World.setCell] using h.gk.size, fun k hk => ?_, fun k o h1 h2 h3 h4 => ?_⟩, ?_, ?_⟩
  · rw [hoth k (by omega)]
    exact h.gk.low k hk
  · rw [hoth k (by have := lt_of_heap h1; omega)]
    exact h.gk.keep k o h1 h2 h3 h4
  · rw [setCell_block h.row, List.map_set]
    simp
  · rw [hoth z hzz]
    exact h.box
theorem LyR.cell {lo G b wk z za : Nat} {R : Nat → Prop} {w0 wr : World} {hd : Array Value} {xs : List Gx} {D : DataW Unit} {cs : List Nat} (h : LyR lo G b wk R w0 wr z za hd xs D cs) (j : Nat) : wr.cell? ⟨za, j, none⟩ = (cs[j]?).map fun (x : Nat) => Value.int .i64 x := by
  simp only [World.cell?, h.row]
  simp
/-- What was there is there, and means what it meant. -/
def Old (xs ys : List Gx) (dn dn' : Nat → List Nd) (rt rt' : Nat → Nat) : Prop := ∀ j, j < xs.length → dn' j = dn j ∧ rt' j = rt j ∧ lbX ys j = lbX xs j ∧ (inX xs j = true → inX ys j = true)
theorem Old.refl (xs : List Gx) (dn : Nat → List Nd) (rt : Nat → Nat) : Old xs xs dn dn rt rt := fun _ _ => ⟨rfl, rfl, rfl, id⟩
theorem Old.trans {xs ys zs : List Gx} {dn dn' dn2 : Nat → List Nd} {rt rt' rt2 : Nat → Nat} (h : Old xs ys dn dn' rt rt') (hl : xs.length ≤ ys.length) (k : Old ys zs dn' dn2 rt' rt2) : Old xs zs dn dn2 rt rt2 := fun j hj => by
  obtain ⟨a1, a2, a3, a4⟩ := h j hj
  obtain ⟨b1, b2, b3, b4⟩ := k j (by omega)
  exact ⟨b1.trans a1, b2.trans a2, b3.trans a3, fun q => b4 (a4 q)⟩
/-- What a call of lay does. -/
def LayAll (w0 : World) (lo G b wk : Nat) (L : List (List UInt8 × List Nd)) (x : Value) (row : List Nd) : Prop :=
  ∀ (w : World) (R : Nat → Prop) (xs : List Gx) (D : DataW Unit) (dn : Nat → List Nd) (rt rk : Nat → Nat), Below lo w0 w → (∀ g, R g → g < w.heap.size) → GX w lo G b R xs D wk → Mn wk xs D dn rt rk L → xs.length + row.length ≤ 200000000 →
    Calls Try.prog 18 #[.pointer (some ⟨G, 0, none⟩), x] w fun e w' => ∃ k : Nat, e = .returned (.int .i64 k) ∧ Gk lo G b w w' ∧ ∃ (ys : List Gx) (D' : DataW Unit) (dn' : Nat → List Nd) (rt' rk' : Nat → Nat), GX w' lo G b R ys D' wk ∧ Mn wk ys D' dn' rt' rk' L ∧ k < ys.length ∧ dn' k = subL L row ∧ xs.length ≤ ys.length ∧ ys.length ≤ xs.length + row.length ∧ Old xs ys dn dn' rt rt'
theorem Gk.below {lo G b : Nat} {w w' : World} (h : Gk lo G b w w') : Below lo w w' := ⟨h.os, h.tape, h.output, h.size, h.low⟩
/-- The rounds, with what they mean: j arguments are laid. -/
structure LyM (lo G b wk : Nat) (R : Nat → Prop) (L : List (List UInt8 × List Nd)) (w0 wr : World) (z za : Nat) (hd : Array Value) (d : Nat) (ts : List (Tn d)) (xs0 : List Gx) (dn0 : Nat → List Nd) (rt0 : Nat → Nat) (j : Nat) : Prop where
  ex : ∃ (xs : List Gx) (D : DataW Unit) (dn : Nat → List Nd) (rt rk : Nat → Nat) (cs : List Nat), LyR lo G b wk R w0 wr z za hd xs D cs ∧ Mn wk xs D dn rt rk L ∧ cs.length = ts.length ∧ (∀ i (h : i < cs.length) (h' : i < ts.length), i < j → cs[i] < xs.length ∧ dn cs[i] = subL L (flat d ts[i]) ∧ ((lbX xs (rt cs[i])).1 = 2 → inX xs (rt cs[i]) = true)) ∧ xs0.length ≤ xs.length ∧ xs.length ≤ xs0.length + (flats d (ts.take j)).length ∧ Old xs0 xs dn0 dn rt0 rt
theorem flat_laid {d : Nat} (dn : Nat → List Nd) (L : List (List UInt8 × List Nd)) : ∀ (cs : List Nat) (ts : List (Tn d)), cs.length = ts.length → (∀ i (h : i < cs.length) (h' : i < ts.length), dn cs[i] = subL L (flat d ts[i])) → cs.flatMap dn = subL L (flats d ts)
  | [], [], _, _ => by rw [flats_nil, subL_nil]; rfl
  | [], _ :: _, h, _ => by simp at h
  | _ :: _, [], h, _ => by simp at h
  | c :: cs, t :: ts, h, hp => by
    rw [List.flatMap_cons, flats_cons, subL_app, flat_laid dn L cs ts (by simpa using h) fun i h1 h2 => hp (i + 1) (by simpa using h1) (by simpa using h2)]
    congr 1
    exact hp 0 (by simp) (by simp)
set_option maxHeartbeats 16000000 in
set_option maxRecDepth 10000 in
theorem lay_node {lo G b wk : Nat} {L : List (List UInt8 × List Nd)} (w0 : World) (d : Nat) (IH : ∀ (x : Value) (t : Tn d), TyAt w0 lo d x t → formB d t = true → LayAll w0 lo G b wk L x (flat d t)) (k : Int) (n : List UInt8) (ts : List (Tn d)) (x : Value) (hx : TyAt w0 lo (d + 1) x ((k, n), ts)) (hf : formB (d + 1) ((k, n), ts) = true) (hk : k = 3 ∨ k = 4) : LayAll w0 lo G b wk L x (flat (d + 1) ((k, n), ts)) := by
  intro w R xs D dn rt rk hb0 hR hX hM hnum
  obtain ⟨v, hx, hnl, htl, hr⟩ := hx
  simp only at hx hnl htl hr
  subst hx
  rw [form_succ, Bool.and_eq_true, List.all_eq_true] at hf
  obtain ⟨hok, hall⟩ := hf
  have h6 : ts.length ≤ 6 := by
    rcases hk with rfl | rfl
    · simp [okB] at hok
      omega
    · simp [okB] at hok
      omega
  have hfN : formN k n ts.length = k := by unfold formN; rw [if_pos hok]
  obtain ⟨ad, cap, hv, hcl⟩ := hr.cells
  subst hv
  have CF : ∀ W, Calls Try.prog 32 #[.agg #[.int .i64 k, .string ⟨n.toArray⟩, .slice ad ts.length cap]] W fun e w' => e = .returned (.int .i64 k) ∧ Below W.heap.size W w' := fun W => by
    have := formOf_any k n ad ts.length cap W hnl (by omega)
    rw [hfN] at this
    exact this
  have hlt := hX.num
  obtain ⟨W, hW, hbW, hsW, b0, b1, b2⟩ := cells_box w (.int .i64 k) (.string ⟨n.toArray⟩) (.slice ad ts.length cap) 31
  have HX : Hid (∀ w1, Below W.heap.size W w1 → GX w1 lo G b R xs D wk ∧ Gk lo G b w w1 ∧ w1.heap[w.heap.size]? = some (.cells #[.int .i64 k, .string ⟨n.toArray⟩, .slice ad ts.length cap] 31 (0, 0))) := fun w1 hb => by
    have hb0 : Below w.heap.size w w1 := hbW.trans (hb.mono hbW.size)
    refine ⟨hX.below hb0, Gk.of_below hb0 hlt.2.1, ?_⟩
    rw [hb.block _ (by omega), hW]
    exact heap_alloc_new w _
  clear hbW hsW b0 b1 b2
  have hk2 : ¬ k = 2 := by omega
  have hk2' : (k == 2) = false := by simp; omega
  go_enter Try.func18, Try.ntmps18
  go_upto_region 1 with fail
  rw [← hW]
  clear hW
  obtain ⟨_, _, hbx⟩ := HX.out W (Below.refl _ _)
  obtain ⟨a0, a1, a2⟩ := heap_cells hbx
  go_upto_region 2 with (first | (go_at_call 32; (with_reducible refine Calls.mono (CF _) ?_); rintro e' w1 ⟨rfl, hb1⟩))
  obtain ⟨h1, k1', hbx1⟩ := HX.out _ hb1
  obtain ⟨x0, x1, x2⟩ := heap_cells hbx1
  obtain ⟨lc, hrun, c1⟩ : ∃ lc : Int, (∀ m, (Instr.lookup 48 (.map (some b)) (.string ⟨n.toArray⟩) true).run Try.prog (w1.drewN m) = .ok (.tuple #[.int .i64 lc, .bool (Maps.has D (.string n))]) (w1.drewN m)) ∧ w1.cell? ⟨G, 1, none⟩ = some (.map (some b)) := by
    obtain ⟨v, ns, _, hG, _⟩ := h1
    obtain ⟨lc, _, hat⟩ := hG.look n hnl
    refine ⟨lc, fun m => ?_, (heap_cells hG.box).2.1⟩
    obtain ⟨lc', hr, hat'⟩ := (hG.sm (w' := w1.drewN m) ⟨rfl, rfl, rfl, rfl⟩).look n hnl
    rw [hat] at hat'
    cases hat'
    exact hr
  clear CF hbx a0 a1 a2
  go_quiet (fail)
  generalize hw2 : w1.drewN _ = w2
  have s2 : Sm w1 w2 := by rw [← hw2]; exact ⟨rfl, rfl, rfl, rfl⟩
  clear hw2 hrun
  have h2 := h1.sm s2
  have hbx2 : w2.heap[w.heap.size]? = some (.cells #[.int .i64 k, .string ⟨n.toArray⟩, .slice ad ts.length cap] 31 (0, 0)) := by rw [s2.heap]; exact hbx1
  obtain ⟨y0, y1, y2⟩ := heap_cells hbx2
  have hmk := make_ints w2 ts.length (by omega)
  obtain ⟨cz, hcz⟩ : ∃ cz, cz = madeCells (Value.int .i64 0).cells ts.length := ⟨_, rfl⟩
  have hczl : cz = ((List.replicate ts.length 0).map fun (x : Nat) => Value.int .i64 x).toArray := by
    rw [hcz]
    apply Array.ext
    · simp [madeCells]
    · intro j h1 h2
      simp [madeCells, Value.cells, Nat.mod_one]
  rw [← hcz] at hmk
  have HCZ : Hid (cz = ((List.replicate ts.length 0).map fun (x : Nat) => Value.int .i64 x).toArray) := hczl
  clear hcz hczl
  go_upto_region 6 with fail
  have hza : w.heap.size < w2.heap.size := lt_of_heap hbx2
  have hb3 : Below w2.heap.size w2 (w2.alloc (.cells cz 3)) := (Below.refl _ _).alloc (Nat.le_refl _) _
  have k2' : Gk lo G b w w2 := k1'.trans (Gk.of_sm s2)
  have F0 : LyR lo G b wk R w (w2.alloc (.cells cz 3)) w.heap.size w2.heap.size #[.int .i64 k, .string ⟨n.toArray⟩, .slice ad ts.length cap] xs D (List.replicate ts.length 0) := by
    refine ⟨?_, k2'.trans (Gk.of_below hb3 (by omega)), by rw [← HCZ.out]; exact heap_alloc_new w2 _, (hb3.block _ hza).trans hbx2⟩
    obtain ⟨v, ns, e, hG, hr⟩ := h2
    refine ⟨v, ns, e, hG.below hb3, fun m hm h0 g hg => ?_⟩
    rcases hg with rfl | hg
    · intro e2
      rcases hG.arg m hm with q | ⟨g', q1, _, q3⟩
      · exact h0 q
      · rw [q1] at e2
        have e2 : g' = w2.heap.size := by cases e2; rfl
        have := lt_of_heap q3
        omega
    · exact hr m hm h0 g hg
  clear hmk hbx2 y0 y1 y2 hb3 k2' s2 h1 k1' hbx1 x0 x1 x2 c1 hb1 HX h2
  generalize w2.alloc (.cells cz 3) = w3 at *
  generalize w2.heap.size = za at *
  have hne : za ≠ G ∧ za ≠ b ∧ w.heap.size ≠ G ∧ w.heap.size ≠ b := by omega
  obtain ⟨y0, y1, y2⟩ := heap_cells F0.box
  have M0 : LyM lo G b wk R L w w3 w.heap.size za #[.int .i64 k, .string ⟨n.toArray⟩, .slice ad ts.length cap] d ts xs dn rt 0 := ⟨xs, D, dn, rt, rk, _, F0, hM, by simp, fun i _ _ h => by omega, Nat.le_refl _, by simp, Old.refl _ _ _⟩
  have HW0 : Hid (Below lo w0 w) := hb0
  have HRw : Hid (∀ g, R g → g < w.heap.size) := hR
  have HCL : Hid (ts ≠ [] → ∃ g o, ad = some ⟨g, o, none⟩ ∧ ts.length ≤ cap ∧ g < lo ∧ ∀ j (h : j < ts.length), ∃ k n ad' len' cap', (∀ w', Below lo w0 w' → w'.cell? ⟨g, o + j * 3, none⟩ = some (.int .i64 k) ∧ w'.cell? ⟨g, o + j * 3 + 1, none⟩ = some (.string n) ∧ w'.cell? ⟨g, o + j * 3 + 2, none⟩ = some (.slice ad' len' cap')) ∧ TyAt w0 lo d (.agg #[.int .i64 k, .string n, .slice ad' len' cap']) ts[j]) := hcl
  have HIH : Hid (∀ (x : Value) (t : Tn d), TyAt w0 lo d x t → formB d t = true → LayAll w0 lo G b wk L x (flat d t)) := IH
  have HAL : Hid (∀ t ∈ ts, formB d t = true) := hall
  have HNU : Hid (xs.length + (flats d ts).length + 1 ≤ 200000000) := by
    show _ ≤ _
    rw [flat_succ, List.length_cons] at hnum
    omega
  have HMS : Hid (LyM lo G b wk R L w w3 w.heap.size za #[.int .i64 k, .string ⟨n.toArray⟩, .slice ad ts.length cap] d ts xs dn rt 0) := M0
  have HLO : Hid (lo ≤ w.heap.size) := hlt.2.1
  clear F0 hM M0 hb0 hR hcl IH hall hnum hX
  go_wp2
  go_loopw [36] (fun i wr => ∃ j : Nat, j ≤ ts.length ∧ i = .int .i64 j ∧ Hid (LyM lo G b wk R L w wr w.heap.size za #[.int .i64 k, .string ⟨n.toArray⟩, .slice ad ts.length cap] d ts xs dn rt j)) (fun i _ => ts.length - (intOf i).toNat)
  case atStart => exact ⟨0, by omega, by go_num, HMS.out⟩
  case round =>
    obtain ⟨j, hj, rfl, HP⟩ := hrel
    obtain ⟨xs1, D1, dn1, rt1, rk1, cs, F, M, hcl, hcs, hg1, hg2, hold⟩ := HP.out
    by_cases hjt : j < ts.length
    · have hjt' : (j : Int) < (ts.length : Int) := by omega
      obtain ⟨g0, o0, hadr, hcapt, hgB, hel⟩ := HCL.out (by intro e; rw [e] at hjt; simp at hjt)
      subst hadr
      obtain ⟨k1, n1, ad1, l1, cp1, hcel, T1⟩ := hel j hjt
      have hbw : Below lo w0 wr := HW0.out.trans F.gk.below
      obtain ⟨p0, p1, p2⟩ := hcel wr hbw
      have hbU : Below wr.heap.size wr (wr.alloc (Obj.cells #[.int .i64 k1, .string n1, .slice ad1 l1 cp1] 31)) := (Below.refl _ _).alloc (Nat.le_refl _) _
      have hlo2 : lo ≤ wr.heap.size := by have := F.gk.size; have := HLO.out; omega
      have F1 := F.next hne (Gk.of_below hbU hlo2) (F.gx.below hbU)
      have hfl : (flats d (ts.take (j + 1))).length = (flats d (ts.take j)).length + (flat d ts[j]).length := by
        rw [List.take_succ_eq_append_getElem hjt, flats_app, List.length_append, flats_cons, flats_nil, List.append_nil]
      have hfl2 : (flats d (ts.take (j + 1))).length ≤ (flats d ts).length := by
        have : flats d ts = flats d (ts.take (j + 1)) ++ flats d (ts.drop (j + 1)) := by rw [← flats_app, List.take_append_drop]
        rw [this, List.length_append]
        omega
      have CJ := HIH.out _ ts[j] T1 (HAL.out _ (List.getElem_mem hjt)) (wr.alloc (Obj.cells #[.int .i64 k1, .string n1, .slice ad1 l1 cp1] 31)) (fun g => g = za ∨ R g) xs1 D1 dn1 rt1 rk1 (hbw.trans (hbU.mono hlo2)) (fun g hg => by
        rcases hg with e | e
        · rw [e]
          exact lt_of_heap F1.row
        · have := HRw.out g e
          have := F1.gk.size
          omega) F1.gx M (by have := HNU.out; omega)
      have C1 : Calls Try.prog 18 #[.pointer (some ⟨G, 0, none⟩), .agg #[.int .i64 k1, .string n1, .slice ad1 l1 cp1]] (wr.alloc (Obj.cells #[.int .i64 k1, .string n1, .slice ad1 l1 cp1] 31)) fun e w' => ∃ kk : Nat, e = .returned (.int .i64 kk) ∧ kk ≤ 200000000 ∧ w'.cell? ⟨za, j, none⟩ ≠ none ∧ w'.frozen? ⟨za, j, none⟩ = false ∧ Hid (∃ (ys : List Gx) (D' : DataW Unit) (dn' : Nat → List Nd) (rt' rk' : Nat → Nat), LyR lo G b wk R w w' w.heap.size za #[.int .i64 k, .string ⟨n.toArray⟩, .slice (some ⟨g0, o0, none⟩) ts.length cap] ys D' cs ∧ Mn wk ys D' dn' rt' rk' L ∧ kk < ys.length ∧ dn' kk = subL L (flat d ts[j]) ∧ xs1.length ≤ ys.length ∧ ys.length ≤ xs1.length + (flat d ts[j]).length ∧ Old xs1 ys dn1 dn' rt1 rt') := by
        refine Calls.mono CJ ?_
        rintro e w' ⟨kk, rfl, hk4, ys, D', dn', rt', rk', hX4, hM4, h5, h6, h7, h8, h9⟩
        have F4 := F1.next hne hk4 hX4
        refine ⟨kk, rfl, by have := hX4.num.1; omega, ?_, heap_frozen F4.row, ys, D', dn', rt', rk', F4, hM4, h5, h6, h7, h8, h9⟩
        rw [F4.cell j, List.getElem?_eq_getElem (by omega)]
        simp
      obtain ⟨y0, y1, y2⟩ := heap_cells F.box
      clear F1 hbU hbw CJ hel hcel T1
      go_upto_region 10 with (first
        | (go_at_call 18; (with_reducible refine Calls.mono C1 ?_); rintro e' w4 ⟨kk, rfl, hkk, hcc, fA, HE⟩; obtain ⟨uu, rA⟩ := Option.ne_none_iff_exists'.1 hcc))
      obtain ⟨ys, D', dn', rt', rk', F4, M4, hkl, hdk, hl1, hl2, hold4⟩ := HE.out
      have F5 := F4.store (by omega) HLO.out (by omega) j kk
      generalize w4.setCell ⟨za, j, none⟩ (.int .i64 kk) = v1 at F5 ⊢
      have F6 := F5.sm hne (w1 := v1.drew) ⟨rfl, rfl, rfl, rfl⟩
      have C2 := end_any F6.gx M4.den kk hkl
      have rB : v1.cell? ⟨za, j, none⟩ = some (.int .i64 kk) := by
        rw [F5.cell j, List.getElem?_set_self (by omega)]
        rfl
      obtain ⟨g1, cp1', ad2, m0, _, mgG, _⟩ := F5.gx.at hkl
      have hrl : rt' kk < ys.length := Den.rt_lt M4.den hkl
      have C3 : Calls Try.prog 29 #[.pointer (some ⟨G, 0, none⟩), .int .i64 kk] v1.drew fun e w' => e = .returned (.int .i64 (rt' kk : Nat)) ∧ (w'.cell? ⟨G, 0, none⟩ = some (.slice (some ⟨g1, 0, none⟩) ys.length cp1') ∧ w'.cell? ⟨za, j, none⟩ = some (.int .i64 kk) ∧ w'.frozen? ⟨g1, rt' kk * 6 + 4, none⟩ = false ∧ (∃ u, w'.cell? ⟨g1, rt' kk * 6 + 4, none⟩ = some u) ∧ g1 ≠ za) ∧ Hid (∀ w2, Sm (w'.setCell ⟨g1, rt' kk * 6 + 4, none⟩ (.bool true)) w2 → LyM lo G b wk R L w w2 w.heap.size za #[.int .i64 k, .string ⟨n.toArray⟩, .slice (some ⟨g0, o0, none⟩) ts.length cap] d ts xs dn rt (j + 1)) := by
        refine Calls.mono C2 ?_
        rintro e w' ⟨rfl, ⟨ys2, hE2, hD2, hX2⟩, hK2, hS2, hZ2⟩
        have F7 := F6.next hne hK2 hX2
        obtain ⟨g2, cap2, r0, r1, r2, ⟨r3, r4⟩, r5, r6⟩ := hX2.mark (i := rt' kk) (by rw [hE2.len]; exact hrl)
        have eG : w'.cell? ⟨G, 0, none⟩ = some (.slice (some ⟨g1, 0, none⟩) ys.length cp1') := by
          have : v1.drew.heap[G]? = w'.heap[G]? := (hS2 G fun c fz e => by
            obtain ⟨v, ns, _, hG, _⟩ := F6.gx
            rw [hG.box] at e
            exact absurd (cells_ty e) (by decide)).symm
          rw [← m0]
          exact (World.cell?_of_block (w := v1.drew) this.symm)
        have e12 : g1 = g2 := by
          rw [r0] at eG
          exact (slice_block eG).symm
        subst e12
        refine ⟨rfl, ⟨eG, ?_, r1, r2, r4 _ _ F7.row⟩, fun w2 s => ?_⟩
        · rw [F7.cell j, List.getElem?_set_self (by omega)]
          rfl
        · have F8 := (F7.next hne r6 r5).sm hne s
          obtain ⟨i1, i2, i3, i4, i5, i6⟩ := insX_eq ys2 (i := rt' kk) (by rw [hE2.len]; exact hrl)
          refine ⟨insX ys2 (rt' kk), D', dn', rt', rk', cs.set j kk, F8, (M4.eqg hE2 hD2).mark (by rw [hE2.len]; exact hrl), by rw [List.length_set]; exact hcl, fun i h h' hij => ?_, by rw [i1, hE2.len]; omega, by rw [i1, hE2.len]; omega, hold.trans hg1 (hold4.trans hl1 fun q hq => ⟨rfl, rfl, by rw [i2, hE2.lb], fun hin => by rw [i6, hE2.ins]; exact setM_mono _ _ _ hin⟩)⟩
          rw [i1, i2, i6, hE2.len, hE2.lb, hE2.ins]
          by_cases hji : i = j
          · subst hji
            rw [List.getElem_set_self]
            exact ⟨hkl, hdk, fun _ => setM_self _ _⟩
          · rw [List.getElem_set_ne (by omega)]
            obtain ⟨t1, t2, t3⟩ := hcs i (by simpa using h) h' (by omega)
            obtain ⟨u1, u2, u3, u4⟩ := hold4 _ t1
            refine ⟨by omega, u1.trans t2, fun q => setM_mono _ _ _ ?_⟩
            have hr1 := Den.rt_lt M.den t1
            rw [u2] at q ⊢
            obtain ⟨_, _, v3, v4⟩ := hold4 _ hr1
            rw [v3] at q
            exact v4 (t3 q)
      have hx1 := F5.gx.num.1
      generalize rt' kk = rr at C3 hrl
      have j1 : (0 : Int) ≤ (rr : Int) := by omega
      have j2 : (rr : Int) < (ys.length : Int) := by omega
      have j3 : (0 : Int) ≤ (j : Int) := by omega
      have e1 : ¬ g1 = G := mgG
      have e2 : ¬ G = g1 := fun e => mgG e.symm
      clear C1 F F4 F5 F6 C2 M M4 HE HP hcs hold hold4 hdk rA fA hcc
      go_region_held3 (fun w' => w'.cell? ⟨G, 0, none⟩ = some (.slice (some ⟨g1, 0, none⟩) ys.length cp1') ∧ w'.cell? ⟨za, j, none⟩ = some (.int .i64 kk)) (first | exact ⟨m0, rB⟩ | exact ⟨q0, q1⟩ | assumption | go_keep) (first | (go_at_call 29; (with_reducible refine Calls.mono C3 ?_); rintro e' w5 ⟨rfl, ⟨q0, q1, q2, ⟨uu2, q3⟩, q4⟩, HF⟩; have e3 : ¬ g1 = za := q4; have e4 : ¬ za = g1 := fun e => q4 e.symm))
      go_wp2
      go_roundw
      case rel => exact ⟨j + 1, by omega, by go_num, HF.out _ ⟨rfl, rfl, rfl, rfl⟩⟩
      case measure => simp [intOf]; omega
    · have hjn : ¬ (j : Int) < (ts.length : Int) := by omega
      have hje : j = ts.length := by omega
      subst hje
      have HFL : Hid (cs.flatMap dn1 = subL L (flats d ts)) := flat_laid dn1 L cs ts hcl fun i h h' => (hcs i h h' h').2.1
      have hlen1 : xs1.length + 1 ≤ 200000000 := by
        rw [List.take_length] at hg2
        have := HNU.out
        omega
      obtain ⟨dn2, rt2, hM2, hold2, hdn2⟩ := M.more (D' := D1) { is := k, name := n, ar := cs, tg := xs1.length, ins := false, walk := 0 } rfl rfl (fun a ha => by
        obtain ⟨i, hi, rfl⟩ := List.mem_iff_getElem.1 ha
        obtain ⟨q1, _, q3⟩ := hcs i hi (by rw [← hcl]; exact hi) (by rw [← hcl]; exact hi)
        exact ⟨q1, q3⟩) (by show cs.length ≤ 6; omega) (fun e => absurd e hk2) (by show D1 = if k = 2 then _ else _; rw [if_neg hk2])
      have HRES : Hid (∀ U, GX U lo G b R (xs1 ++ [{ is := k, name := n, ar := cs, tg := xs1.length, ins := false, walk := 0 }]) D1 wk → Gk lo G b w U → ∃ kk : Nat, Ending.returned (.int .i64 (xs1.length : Nat)) = .returned (.int .i64 kk) ∧ Gk lo G b w U ∧ ∃ (ys : List Gx) (D' : DataW Unit) (dn' : Nat → List Nd) (rt' rk' : Nat → Nat), GX U lo G b R ys D' wk ∧ Mn wk ys D' dn' rt' rk' L ∧ kk < ys.length ∧ dn' kk = subL L (flat (d + 1) ((k, n), ts)) ∧ xs.length ≤ ys.length ∧ ys.length ≤ xs.length + (flat (d + 1) ((k, n), ts)).length ∧ Old xs ys dn dn' rt rt') := fun U h1 h2 => by
        refine ⟨xs1.length, rfl, h2, _, _, _, _, _, h1, hM2, by simp, ?_, by simp; omega, ?_, hold.trans hg1 fun q hq => ?_⟩
        · rw [hdn2]
          show (if k = 2 then _ else _) = _
          rw [if_neg hk2, flat_succ, subL_node (show ((k, n, ts.length) : Nd).1 ≠ 2 from hk2), ← HFL.out, ← hcl]
        · rw [flat_succ, List.length_cons]
          rw [List.take_length] at hg2
          simp
          omega
        · obtain ⟨_, a2, _, _, _, a6⟩ := app_eq xs1 { is := k, name := n, ar := cs, tg := xs1.length, ins := false, walk := 0 }
          obtain ⟨b1, b2⟩ := hold2 q hq
          refine ⟨b1, b2, by rw [a2]; exact if_neg (by omega), fun hin => ?_⟩
          rw [a6, if_neg (by omega)]
          exact hin
      obtain ⟨gx, gk, row, box⟩ := F
      obtain ⟨v, ns, hst, hG, hr⟩ := gx
      have HNL : Hid (ns.length = xs1.length) := by show _ = _; rw [← hst, List.length_map]
      have hnn : ns.length < 200000000 := by have := HNL.out; omega
      obtain ⟨va, vc, rfl⟩ := hG.form
      obtain ⟨d0, d1, d2⟩ := heap_cells hG.box
      obtain ⟨y0, y1, y2⟩ := heap_cells box
      obtain ⟨i0, hi, hz0, hz1, hz2⟩ := info_parts Try.info80
      have FIN : Hid (∀ g' cap' w5, w5.ownsRow lo 80 6 (.slice (some ⟨g', 0, none⟩) (ns.length + 1) cap') (ns.length + 1) (ns.flatMap gnC ++ [.int .i64 k, .string ⟨n.toArray⟩, .slice (some ⟨za, 0, none⟩) ts.length ts.length, .int .i64 ns.length, .bool false, .int .i64 0]) → ((wr.alloc (Obj.cells #[.int .i64 k, .string ⟨n.toArray⟩, .slice (some ⟨za, 0, none⟩) ts.length ts.length, .int .i64 ns.length, .bool false, .int .i64 0] 80)).drew).grownBy w5 (Value.slice va ns.length vc).ownBlock → w5.heap[G]? = some (.cells #[.slice va ns.length vc, .map (some b), .int .i64 wk] 51 (0, 0)) ∧ ∃ U, U = w5.setCell ⟨G, 0, none⟩ (.slice (some ⟨g', 0, none⟩) (ns.length + 1) cap') ∧ GX U lo G b R (xs1 ++ [{ is := k, name := n, ar := cs, tg := xs1.length, ins := false, walk := 0 }]) D1 wk ∧ Gk lo G b w U ∧ U.heap[w.heap.size]? = some (.cells #[.int .i64 k, .string ⟨n.toArray⟩, .slice ad ts.length cap] 31 (0, 0))) := fun g' cap' w5 ho hg' => by
        obtain ⟨q1, U, q2, q3, q4⟩ := hG.put (n := { is := k, name := n, ad := some ⟨za, 0, none⟩, ar := cs, tg := ns.length, ins := false, walk := 0 }) hnn (.inr ⟨za, rfl, by have := HLO.out; omega, row⟩) (by rw [show gnC { is := k, name := n, ad := some ⟨za, 0, none⟩, ar := cs, tg := ns.length, ins := false, walk := 0 } = [.int .i64 k, .string ⟨n.toArray⟩, .slice (some ⟨za, 0, none⟩) ts.length ts.length, .int .i64 ns.length, .bool false, .int .i64 0] by simp [gnC, Gn.av, hcl]]; exact ho) (o := Obj.cells #[.int .i64 k, .string ⟨n.toArray⟩, .slice (some ⟨za, 0, none⟩) ts.length ts.length, .int .i64 ns.length, .bool false, .int .i64 0] 80) ⟨hg'.os, hg'.tape, hg'.output, hg'.size, hg'.block⟩
        refine ⟨q1, U, q2, ⟨_, _, ?_, q3, fun m hm h0 g hg => ?_⟩, gk.trans q4, q4.keep _ _ box (by omega) (by omega) (by intro c fz e; exact absurd (cells_ty (congrArg some e)) (by decide))⟩
        · rw [List.map_append, hst]
          simp [Gn.st, HNL.out]
        · rcases List.mem_append.1 hm with hm | hm
          · exact hr m hm h0 g (.inr hg)
          · have hm := List.mem_singleton.1 hm
            rw [hm]
            intro e
            have e : za = g := by cases e; rfl
            have := HRw.out g hg
            omega
      have hlo3 := hG.lt.1
      have hG3 := hG.lt.2.1
      have hzl := lt_of_heap box
      have nG : ¬ G = wr.heap.size := by omega
      have nG' : ¬ wr.heap.size = G := by omega
      have nz : ¬ w.heap.size = wr.heap.size := by omega
      have nz' : ¬ wr.heap.size = w.heap.size := by omega
      have hown3 := hG.own
      clear hG gk hr hst HP M hcs hold hM2 hold2 hdn2 row
      go_wp2
      go_region_law ((refine step_append_lies _ (by rfl) _ _ _ (by rfl) lo 80 i0 _ 6 72 Try.underlying49 hi hz0 hz1 hz2 rfl (by omega) (.slice va ns.length vc) ns.length (ns.flatMap gnC) (by rfl) ((hown3.alloc _).drew) ⟨wr.heap.size, 0, none⟩ 1 1 [.int .i64 k, .string ⟨n.toArray⟩, .slice (some ⟨za, 0, none⟩) ts.length ts.length, .int .i64 ns.length, .bool false, .int .i64 0] (by rfl) (by rfl) (World.news_of_block (cs := #[.int .i64 k, .string ⟨n.toArray⟩, .slice (some ⟨za, 0, none⟩) ts.length ts.length, .int .i64 ns.length, .bool false, .int .i64 0]) (t := 80) (fr := (0, 0)) (heap_alloc_new wr _)) (by simp [Value.oneCell']) (by omega) (by unfold maxLen; omega) (by omega) (by simp; omega) (wr.heap.size + 1) (by simp) ?_; intro g' cap' w5 hown5 hgrow hat hlt5; obtain ⟨hG5, U, hU, hGS, hGk, hbU⟩ := FIN.out g' cap' w5 hown5 hgrow; obtain ⟨e0, e1, e2⟩ := heap_cells hG5; have fG := heap_frozen (o := 0) hG5))
      all_goals
        rw [← hU]
        clear hU hG5 e0 e1 e2 fG
        go_wp2
        go_ret
        obtain ⟨kk, r1, r2⟩ := HRES.out U hGS hGk
        exact ⟨kk, by rw [← r1, ← HNL.out]; rfl, r2⟩
end Go.Proofs.Ytikpipenhamdbaa

namespace Go.Proofs.Ytikpipenhamdbaa
open Go.RowKit Go.Maps

theorem lay_any {lo G b wk : Nat} {L : List (List UInt8 × List Nd)} (w0 : World) : ∀ (d : Nat) (x : Value) (t : Tn d), TyAt w0 lo d x t → formB d t = true → LayAll w0 lo G b wk L x (flat d t)
  | 0, _, t, _, _ => t.elim
  | d + 1, x, ((k, n), ts), hx, hf => by
    by_cases hk : k = 3 ∨ k = 4
    · exact lay_node w0 d (lay_any w0 d) k n ts x hx hf hk
    · intro w R xs D dn rt rk hb0 hR hX hM hnum
      have hf' := hf
      rw [form_succ, Bool.and_eq_true] at hf'
      obtain ⟨hok, _⟩ := hf'
      have hk12 : (k = 1 ∨ k = 2) ∧ ts = [] := by
        unfold okB at hok
        split at hok
        · rename_i q
          rw [Bool.and_eq_true, decide_eq_true_eq] at hok
          exact ⟨.inl q, List.length_eq_zero_iff.1 hok.2⟩
        · split at hok
          · rename_i q
            rw [Bool.and_eq_true, decide_eq_true_eq] at hok
            exact ⟨.inr q, List.length_eq_zero_iff.1 hok.2⟩
          · split at hok
            · rename_i q
              exact absurd (.inl q) hk
            · split at hok
              · rename_i q
                exact absurd (.inr q) hk
              · cases hok
      obtain ⟨h12, rfl⟩ := hk12
      obtain ⟨v, hx, hnl, _, hr⟩ := hx
      simp only at hx hnl hr
      subst hx
      obtain ⟨ad, cap, rfl⟩ := hr.len
      have hfN : formN k n 0 = k := by
        have hok : okB k n 0 = true := hok
        unfold formN
        rw [if_pos hok]
      have hfl : flat (d + 1) ((k, n), ([] : List (Tn d))) = [(k, n, 0)] := by rw [flat_succ, flats_nil]; rfl
      rw [hfl] at hnum ⊢
      have hnum : xs.length + 1 ≤ 200000000 := hnum
      by_cases hD : Maps.has D (.string n) = true
      · have hk2 : k = 2 := by
          rcases h12 with rfl | rfl
          · exfalso
            have hn0 : n = [] := by
              simp [okB] at hok
              exact hok
            obtain ⟨i, hi, e⟩ := (hM.vm.has n).1 hD
            have hv := hM.vm.nn i hi (by rw [e])
            rw [e, hn0] at hv
            exact absurd hv (by decide)
          · rfl
        subst hk2
        obtain ⟨i, hi, e⟩ := (hM.vm.has n).1 hD
        have hg := hM.vm.get i hi (by rw [e])
        rw [e] at hg
        refine Calls.mono (layP_old lo G b wk n ad cap i xs D hnl hfN hD hg w R hR hX) ?_
        rintro e' w' ⟨rfl, hK, hX'⟩
        refine ⟨i, rfl, hK, xs, D, dn, rt, rk, hX', hM, hi, ?_, Nat.le_refl _, by omega, Old.refl _ _ _⟩
        have := hM.vb.dn i hi (by rw [e])
        rw [e] at this
        exact this
      · have hD : Maps.has D (.string n) = false := by simpa using hD
        have hn2 : k = 2 → varB n = true := fun q => by
          rw [q] at hok
          simp [okB] at hok
          exact hok
        obtain ⟨dn2, rt2, hM2, hold2, hdn2⟩ := hM.more (D' := if k = 2 then D.put (.string n) (.lit (.int .i64 xs.length)) else D) { is := k, name := n, ar := [], tg := xs.length, ins := false, walk := 0 } rfl rfl (fun a ha => by simp at ha) (by simp) (fun e => ⟨rfl, hn2 e, hD⟩) rfl
        refine Calls.mono (layP_leaf lo G b wk k n ad cap xs D hnl h12 hfN hD (by omega) w R hR hX) ?_
        rintro e' w' ⟨rfl, hK, hX'⟩
        refine ⟨xs.length, rfl, hK, _, _, dn2, rt2, rk, hX', hM2, by simp, ?_, by simp, by simp, fun q hq => ?_⟩
        · by_cases hk2 : k = 2
          · subst hk2
            have := hM2.vb.dn xs.length (by simp) (by rw [(app_eq xs _).2.1]; simp)
            rw [(app_eq xs _).2.1] at this
            simpa using this
          · rw [hdn2]
            show (if k = 2 then _ else _) = _
            rw [if_neg hk2, subL_node (show ((k, n, 0) : Nd).1 ≠ 2 from hk2), subL_nil]
            rfl
        · obtain ⟨_, a2, _, _, _, a6⟩ := app_eq xs { is := k, name := n, ar := [], tg := xs.length, ins := false, walk := 0 }
          obtain ⟨b1, b2⟩ := hold2 q hq
          refine ⟨b1, b2, by rw [a2]; exact if_neg (by omega), fun hin => ?_⟩
          rw [a6, if_neg (by omega)]
          exact hin
end Go.Proofs.Ytikpipenhamdbaa

namespace Go.Proofs.Ytikpipenhamdbaa
open Go.RowKit Go.Maps

theorem Ended.trans {lo G b wk : Nat} {R : Nat → Prop} {xs : List Gx} {D : DataW Unit} {dn : Nat → List Nd} {rt rk : Nat → Nat} {w w1 w2 : World} (h : Ended lo G b wk R xs D dn rt rk w w1) (k : ∀ ys, Eqg xs ys → DenX ys dn rt rk → GX w1 lo G b R ys D wk → Ended lo G b wk R ys D dn rt rk w1 w2) : Ended lo G b wk R xs D dn rt rk w w2 := by
  obtain ⟨⟨ys, h1, h2, h3⟩, h4, h5, h6⟩ := h
  obtain ⟨⟨zs, k1, k2, k3⟩, k4, k5, k6⟩ := k ys h1 h2 h3
  refine ⟨⟨zs, h1.trans k1, k2, k3⟩, h4.trans k4, fun j hj => ?_, k6.trans h6⟩
  rw [k5 j fun c fz e => hj c fz (by rw [← h5 j hj]; exact e)]
  exact h5 j hj
/-- The row of a node's arguments, block and all. -/
theorem GX.argRow {w : World} {lo G b wk : Nat} {R : Nat → Prop} {xs : List Gx} {D : DataW Unit} (h : GX w lo G b R xs D wk) {i : Nat} (hi : i < xs.length) {g cap : Nat} (c0 : w.cell? ⟨G, 0, none⟩ = some (.slice (some ⟨g, 0, none⟩) xs.length cap)) :
    ∃ ad, w.cell? ⟨g, i * 6 + 2, none⟩ = some (.slice ad (arX xs i).length (arX xs i).length) ∧ (arX xs i = [] ∨ ∃ ga, ad = some ⟨ga, 0, none⟩ ∧ w.heap[ga]? = some (.cells ((arX xs i).map fun (x : Nat) => Value.int .i64 x).toArray 3 (0, 0))) := by
  have e2 : xs[i].ar = arX xs i := by unfold arX; rw [getD_at hi]
  obtain ⟨v, ns, rfl, hG, hr⟩ := h
  have hi' : i < ns.length := by simpa using hi
  rw [List.length_map] at c0
  obtain ⟨g', cap', hv, _, _, _, ⟨c0', _, _⟩, ⟨n0, n1, n2, n3, n4, n5⟩, _⟩ := hG.cells hi'
  rw [c0] at c0'
  have eg := slice_block c0'
  subst eg
  have ea : ns[i].ar = arX (ns.map Gn.st) i := by rw [← e2]; simp [Gn.st]
  have n2 : w.cell? ⟨g, i * 6 + 2, none⟩ = some (.slice ns[i].ad ns[i].ar.length ns[i].ar.length) := n2
  rw [ea] at n2
  refine ⟨ns[i].ad, n2, ?_⟩
  rcases hG.arg ns[i] (List.getElem_mem hi') with q | ⟨g2, q1, _, q3⟩
  · exact .inl (by rw [← ea]; exact q)
  · exact .inr ⟨g2, q1, by rw [ea] at q3; exact q3⟩
/-- Where a row in a cell lies. -/
def sliceAd (w : World) (p : Addr) : Option Addr := match w.cell? p with | some (.slice ad _ _) => ad | _ => none
theorem sliceAd_eq {w : World} {p : Addr} {ad : Option Addr} {n c : Nat} (h : w.cell? p = some (.slice ad n c)) : w.cell? p = some (.slice (sliceAd w p) n c) ∧ sliceAd w p = ad := by
  have : sliceAd w p = ad := by unfold sliceAd; rw [h]
  exact ⟨by rw [this]; exact h, this⟩
/-- How many of so many are left behind so many. -/
def leftN (n left : Nat) : Int := if n ≤ left then ((left - n : Nat) : Int) else -1
theorem leftN_ok {n left : Nat} (h : n ≤ left) : leftN n left = ((left - n : Nat) : Int) := if_pos h
theorem leftN_bad {n left : Nat} (h : ¬ n ≤ left) : leftN n left = -1 := if_neg h
theorem leftN_more {n m left : Nat} (h : n ≤ left) : leftN m (left - n) = leftN (n + m) left := by
  unfold leftN
  by_cases q : m ≤ left - n
  · rw [if_pos q, if_pos (by omega)]
    omega
  · rw [if_neg q, if_neg (by omega)]
theorem takeN_flat (dn : Nat → List Nd) (aL : List Nat) (k : Nat) (h : k < aL.length) : ((aL.take (k + 1)).flatMap dn).length = ((aL.take k).flatMap dn).length + (dn aL[k]).length := by
  rw [List.take_succ_eq_append_getElem h, List.flatMap_append, List.length_append]
  simp
theorem takeN_flat_le (dn : Nat → List Nd) (aL : List Nat) (k : Nat) : ((aL.take k).flatMap dn).length ≤ (aL.flatMap dn).length := by
  have := congrArg (fun l : List Nat => (l.flatMap dn).length) (List.take_append_drop k aL)
  simp only [List.flatMap_append, List.length_append] at this
  omega
set_option maxHeartbeats 8000000 in
set_option maxRecDepth 10000 in
theorem left_step {lo G b wk : Nat} {R : Nat → Prop} {D : DataW Unit} {dn : Nat → List Nd} {rt rk : Nat → Nat} (N : Nat) (IH : ∀ (xs : List Gx) (w : World) (i left : Nat), GX w lo G b R xs D wk → DenX xs dn rt rk → (∀ i, (arX xs i).length ≤ 6) → i < xs.length → (dn i).length ≤ N → left ≤ 500 → Calls Try.prog 33 #[.pointer (some ⟨G, 0, none⟩), .int .i64 i, .int .i64 left] w fun e w' => e = .returned (.int .i64 (leftN (dn i).length left)) ∧ Ended lo G b wk R xs D dn rt rk w w')
    (xs : List Gx) (w : World) (i left : Nat) (h : GX w lo G b R xs D wk) (d : DenX xs dn rt rk) (h6 : ∀ i, (arX xs i).length ≤ 6) (hi : i < xs.length) (hN : (dn i).length ≤ N + 1) (hl : left ≤ 500) :
    Calls Try.prog 33 #[.pointer (some ⟨G, 0, none⟩), .int .i64 i, .int .i64 left] w fun e w' => e = .returned (.int .i64 (leftN (dn i).length left)) ∧ Ended lo G b wk R xs D dn rt rk w w' := by
  have hform := Den.form d hi
  have hr := Den.rt_lt d hi
  have hlen : (dn i).length = 1 + ((arX xs (rt i)).flatMap dn).length := by rw [hform]; simp; omega
  have CI : Hid (∀ (ys : List Gx) (W : World) (a l : Nat), Eqg xs ys → DenX ys dn rt rk → GX W lo G b R ys D wk → a ∈ arX xs (rt i) → l ≤ 500 → Calls Try.prog 33 #[.pointer (some ⟨G, 0, none⟩), .int .i64 a, .int .i64 l] W fun e w' => e = .returned (.int .i64 (leftN (dn a).length l)) ∧ Ended lo G b wk R ys D dn rt rk W w') := fun ys W a l hE hd hX ha hl2 => by
    have hlt := Den.less d hi ha
    exact IH ys W a l hX hd (by rw [hE.ar]; exact h6) (by rw [hE.len]; exact Den.argr d hi ha) (by omega) hl2
  obtain ⟨g, cap, ad0, c0, -, hgG, hfr, -, -, -⟩ := h.at hr
  have hnum := h.num.1
  have i1 : (0 : Int) ≤ ((rt i : Nat) : Int) := by omega
  have i2 : ((rt i : Nat) : Int) < (xs.length : Int) := by omega
  have C1 : ∀ W, Sm w W → Calls Try.prog 29 #[.pointer (some ⟨G, 0, none⟩), .int .i64 i] W fun e w' => e = .returned (.int .i64 (rt i : Nat)) ∧ (w'.cell? ⟨G, 0, none⟩ = some (.slice (some ⟨g, 0, none⟩) xs.length cap) ∧ w'.cell? ⟨g, rt i * 6 + 2, none⟩ = some (.slice (sliceAd w' ⟨g, rt i * 6 + 2, none⟩) (arX xs (rt i)).length (arX xs (rt i)).length)) ∧ Hid ((arX xs (rt i) = [] ∨ ∃ ga, sliceAd w' ⟨g, rt i * 6 + 2, none⟩ = some ⟨ga, 0, none⟩ ∧ w'.heap[ga]? = some (.cells ((arX xs (rt i)).map fun (x : Nat) => Value.int .i64 x).toArray 3 (0, 0))) ∧ Ended lo G b wk R xs D dn rt rk w w') := fun W s => by
    refine Calls.mono (end_any (h.sm s) d i hi) ?_
    rintro e w' ⟨rfl, E⟩
    have E0 : Ended lo G b wk R xs D dn rt rk w w' := by
      obtain ⟨h1, h2, h3, h4⟩ := E
      exact ⟨h1, (Gk.of_sm s).trans h2, fun k hk => by rw [h3 k (by rw [s.heap]; exact hk), s.heap], by rw [h4, s.heap]⟩
    have c0' : w'.cell? ⟨G, 0, none⟩ = some (.slice (some ⟨g, 0, none⟩) xs.length cap) := by
      refine (World.cell?_of_block (w := w) (E0.same G fun c fz e => ?_)).trans c0
      obtain ⟨v, ns, _, hG, _⟩ := h
      rw [hG.box] at e
      exact absurd (cells_ty e) (by decide)
    obtain ⟨ys, hE, _, hX⟩ := E0.ex
    obtain ⟨ad, q1, q2⟩ := hX.argRow (i := rt i) (by rw [hE.len]; exact hr) (by rw [hE.len]; exact c0')
    rw [hE.ar] at q1 q2
    obtain ⟨k1, k2⟩ := sliceAd_eq q1
    rw [← k2] at q2
    exact ⟨rfl, ⟨c0', k1⟩, q2, E0⟩
  obtain ⟨_, q0, -⟩ := h.argRow hr c0
  have n0 := (sliceAd_eq q0).1
  clear q0
  have hL6 := h6 (rt i)
  have HLN : Hid ((dn i).length = 1 + ((arX xs (rt i)).flatMap dn).length) := hlen
  clear h d IH hform hlen hN hfr
  generalize arX xs (rt i) = aL at *
  go_enter Try.func33, Try.ntmps33
  go_wp2
  go_region_with (first | (go_at_call 29; (with_reducible refine Calls.mono (C1 _ ?_) ?_); exact ⟨rfl, rfl, rfl, rfl⟩; rintro e' w5 ⟨rfl, ⟨c5, n5⟩, HE⟩))
  all_goals
    obtain ⟨HSRC, HE0⟩ := HE.out
    generalize sliceAd w5 ⟨g, rt i * 6 + 2, none⟩ = ad at *
    go_wp2
    go_loopw [2, 8] (fun lv iv wr => ∃ k : Nat, k ≤ aL.length ∧ iv = .int .i64 k ∧ lv = .int .i64 (leftN (1 + ((aL.take k).flatMap dn).length) left) ∧ Hid ((aL = [] ∨ ∃ ga, ad = some ⟨ga, 0, none⟩ ∧ wr.heap[ga]? = some (.cells (aL.map fun (x : Nat) => Value.int .i64 x).toArray 3 (0, 0))) ∧ Ended lo G b wk R xs D dn rt rk w wr)) (fun _ iv _ => aL.length - (intOf iv).toNat)
    case atStart =>
      refine ⟨0, by omega, rfl, ?_, HSRC, HE0.sm ⟨rfl, rfl, rfl, rfl⟩⟩
      simp only [List.take_zero, List.flatMap_nil, List.length_nil]
      congr 1
      unfold leftN
      split <;> omega
    case round =>
      obtain ⟨k, hk, rfl, rfl, HP⟩ := hrel
      clear HSRC HE0 HE C1 c0 n0 c5 n5
      by_cases hkl : k = aL.length
      · have HF : Hid (leftN (1 + ((aL.take k).flatMap dn).length) left = leftN (dn i).length left ∧ Ended lo G b wk R xs D dn rt rk w wr) := ⟨by rw [HLN.out, hkl, List.take_length], HP.out.2⟩
        have hkk : ¬ (k : Int) < (aL.length : Int) := by omega
        clear HP CI HLN hkl hk
        generalize leftN (1 + ((aL.take k).flatMap dn).length) left = lv at *
        go_wp2
        go_ret
        exact ⟨by rw [HF.out.1]; rfl, HF.out.2⟩
      · have hlt : k < aL.length := by omega
        have hkk : (k : Int) < (aL.length : Int) := by omega
        have hk0 : (0 : Int) ≤ (k : Int) := by omega
        by_cases q : 1 + ((aL.take k).flatMap dn).length ≤ left
        · obtain ⟨l2, hl2⟩ : ∃ l2, l2 = left - (1 + ((aL.take k).flatMap dn).length) := ⟨_, rfl⟩
          have e1 : leftN (1 + ((aL.take k).flatMap dn).length) left = (l2 : Int) := by rw [leftN_ok q, hl2]
          have e2 : leftN (dn aL[k]).length l2 = leftN (1 + ((aL.take (k + 1)).flatMap dn).length) left := by
            rw [hl2, leftN_more q, takeN_flat dn aL k hlt, Nat.add_assoc]
          obtain ⟨hsrc, hE⟩ := HP.out
          obtain ⟨ga, rfl, hga⟩ := hsrc.resolve_left (fun e => by rw [e] at hlt; simp at hlt)
          have hcell : wr.cell? ⟨ga, k, none⟩ = some (.int .i64 (aL[k] : Nat)) := by
            simp only [World.cell?, hga]
            simp [List.getElem?_eq_getElem hlt]
          have CC : Calls Try.prog 33 #[.pointer (some ⟨G, 0, none⟩), .int .i64 (aL[k] : Nat), .int .i64 l2] wr fun e w' => e = .returned (.int .i64 (leftN (1 + ((aL.take (k + 1)).flatMap dn).length) left)) ∧ Hid ((aL = [] ∨ ∃ ga', some (⟨ga, 0, none⟩ : Addr) = some ⟨ga', 0, none⟩ ∧ w'.heap[ga']? = some (.cells (aL.map fun (x : Nat) => Value.int .i64 x).toArray 3 (0, 0))) ∧ Ended lo G b wk R xs D dn rt rk w w') := by
            obtain ⟨ys, y1, y2, y3⟩ := hE.ex
            refine Calls.mono (CI.out ys wr aL[k] l2 y1 y2 y3 (List.getElem_mem hlt) (by omega)) ?_
            rintro e w' ⟨rfl, E2⟩
            refine ⟨by rw [e2], .inr ⟨ga, rfl, ?_⟩, ?_⟩
            · rw [E2.same ga fun c fz e => by rw [hga] at e; exact absurd (cells_ty e) (by decide)]
              exact hga
            · obtain ⟨⟨zs, k1, k2, k3⟩, k4, k5, k6⟩ := E2
              obtain ⟨_, h4, h5, h6⟩ := hE
              exact ⟨⟨zs, y1.trans k1, k2, k3⟩, h4.trans k4, fun j hj => by rw [k5 j fun c fz e => hj c fz (by rw [← h5 j hj]; exact e)]; exact h5 j hj, k6.trans h6⟩
          rw [e1]
          obtain ⟨lv, hlv⟩ : ∃ lv, lv = leftN (1 + ((aL.take (k + 1)).flatMap dn).length) left := ⟨_, rfl⟩
          rw [← hlv] at CC
          have HLV : Hid (lv = leftN (1 + ((aL.take (k + 1)).flatMap dn).length) left) := hlv
          clear hlv
          have hl0 : (0 : Int) ≤ (l2 : Int) := by omega
          have HM : Hid (k < aL.length) := hlt
          clear HP CI HLN hkl hk hsrc hE e1 e2 q hl2 hga
          generalize aL[k] = a at *
          go_wp2_with (go_at_call 33; (with_reducible refine Calls.mono CC ?_); rintro e' w6 ⟨rfl, HN⟩)
          go_roundw
          case rel =>
            obtain ⟨q1, q2⟩ := HN.out
            exact ⟨k + 1, HM.out, by go_num, by rw [HLV.out], q1, q2.sm ⟨rfl, rfl, rfl, rfl⟩⟩
          case measure =>
            have := HM.out
            simp [intOf]
            omega
        · have HF : Hid (leftN (dn i).length left = -1 ∧ Ended lo G b wk R xs D dn rt rk w wr) := ⟨leftN_bad (by
            rw [HLN.out]
            have := takeN_flat_le dn aL k
            omega), HP.out.2⟩
          rw [leftN_bad q]
          clear HP CI HLN hkl hk q
          go_wp2
          go_ret
          exact ⟨by rw [HF.out.1]; rfl, HF.out.2⟩
theorem nleft_any {lo G b wk : Nat} {R : Nat → Prop} {D : DataW Unit} {dn : Nat → List Nd} {rt rk : Nat → Nat} : ∀ (N : Nat) (xs : List Gx) (w : World) (i left : Nat), GX w lo G b R xs D wk → DenX xs dn rt rk → (∀ i, (arX xs i).length ≤ 6) → i < xs.length → (dn i).length ≤ N → left ≤ 500 → Calls Try.prog 33 #[.pointer (some ⟨G, 0, none⟩), .int .i64 i, .int .i64 left] w fun e w' => e = .returned (.int .i64 (leftN (dn i).length left)) ∧ Ended lo G b wk R xs D dn rt rk w w'
  | 0, _, _, i, _, _, d, _, hi, hN, _ => by
    have := Den.form d hi
    rw [this] at hN
    simp at hN
  | N + 1, xs, w, i, left, h, d, h6, hi, hN, hl => left_step N (nleft_any N) xs w i left h d h6 hi hN hl
end Go.Proofs.Ytikpipenhamdbaa

namespace Go.Proofs.Ytikpipenhamdbaa
open Go.RowKit Go.Maps

/-- All is as it was, but for where the nodes of a row lead. -/
def Fr (g : Nat) (w w' : World) : Prop := (∀ k, k ≠ g → w'.heap[k]? = w.heap[k]?) ∧ ∀ o, o % 6 ≠ 3 → w'.cell? ⟨g, o, none⟩ = w.cell? ⟨g, o, none⟩
set_option maxHeartbeats 8000000 in
set_option maxRecDepth 10000 in
theorem end_all {w : World} {lo G b wk : Nat} {R : Nat → Prop} {xs : List Gx} {D : DataW Unit} {dn : Nat → List Nd} {rt rk : Nat → Nat} (h : GX w lo G b R xs D wk) (d : DenX xs dn rt rk) (i : Nat) (hi : i < xs.length) {g0 cap0 : Nat} (hg0 : w.cell? ⟨G, 0, none⟩ = some (.slice (some ⟨g0, 0, none⟩) xs.length cap0)) (hgG0 : G ≠ g0) :
    Calls Try.prog 29 #[.pointer (some ⟨G, 0, none⟩), .int .i64 i] w fun e w' => e = .returned (.int .i64 (rt i : Nat)) ∧ Ended lo G b wk R xs D dn rt rk w w' ∧ Fr g0 w w' := by
  have HG0 : Hid (w.cell? ⟨G, 0, none⟩ = some (.slice (some ⟨g0, 0, none⟩) xs.length cap0) ∧ G ≠ g0) := ⟨hg0, hgG0⟩
  clear hg0 hgG0
  have H0 : Hid (GX w lo G b R xs D wk ∧ DenX xs dn rt rk) := ⟨h, d⟩
  have HN : Hid (xs.length ≤ 200000000) := h.num.1
  clear h d
  go_enter Try.func29, Try.ntmps29
  go_wp2
  go_loopw [1] (fun iv wr => ∃ m : Nat, iv = .int .i64 m ∧ Hid (m < xs.length ∧ rt m = rt i ∧ Ended lo G b wk R xs D dn rt rk w wr ∧ Fr g0 w wr)) (fun iv _ => rk (intOf iv).toNat)
  case atStart => exact ⟨i, rfl, hi, rfl, Ended.refl H0.out.1 H0.out.2, fun _ _ => rfl, fun _ _ => rfl⟩
  case round =>
    obtain ⟨m, rfl, HP⟩ := hrel
    obtain ⟨hm, hrm, ⟨⟨ys, hE, hD, hX⟩, hK, hS, hZ⟩, hFr⟩ := HP.out
    have hm' : m < ys.length := by rw [hE.len]; exact hm
    obtain ⟨g, cap, ad, c0, _, hgG, hfr, ⟨_, _, _, n3, _, _⟩, _, hT⟩ := hX.at hm'
    have et : ys[m].tg = tgX ys m := by unfold tgX; rw [getD_at hm']
    rw [et] at n3
    have hnn := HN.out
    have hln : ys.length ≤ 200000000 := by rw [hE.len]; exact hnn
    have i1 : (0 : Int) ≤ (m : Int) := by omega
    have i2 : (m : Int) < (ys.length : Int) := by omega
    by_cases q : tgX ys m = m
    · rw [q] at n3
      have hr : rt m = m := (Den.root hD m hm' q).1
      have HF : Hid ((Ended lo G b wk R xs D dn rt rk w wr ∧ Fr g0 w wr) ∧ m = rt i) := ⟨⟨⟨⟨ys, hE, hD, hX⟩, hK, hS, hZ⟩, hFr⟩, by rw [← hrm]; exact hr.symm⟩
      clear hE hD hX hK hT hfr HP hrm hr H0 hS hZ hFr HG0
      go_wp2
      go_ret
      exact ⟨by rw [← HF.out.2]; rfl, HF.out.1⟩
    · have ht' : tgX ys m < ys.length := Den.tow hD m hm'
      obtain ⟨g', cap', ad', c0', _, _, _, ⟨_, _, _, m3, _, _⟩, _, _⟩ := hX.at ht'
      rw [c0] at c0'
      have eg := slice_block c0'
      subst eg
      have et2 : ys[tgX ys m].tg = tgX ys (tgX ys m) := by
        show _ = (ys.getD (tgX ys m) gz).tg
        rw [getD_at ht']
      rw [et2] at m3
      obtain ⟨hT1, hT2⟩ := hT (tgX ys (tgX ys m))
      obtain ⟨l1, _, l3⟩ := Den.link hD m hm' q
      have hu : tgX ys (tgX ys m) < ys.length := Den.tow hD _ ht'
      have hlr : rt (tgX ys (tgX ys m)) = rt m ∧ rk (tgX ys (tgX ys m)) < rk m := by
        by_cases e : tgX ys (tgX ys m) = tgX ys m
        · rw [e]
          exact ⟨l1.symm, l3⟩
        · obtain ⟨k1, _, k3⟩ := Den.link hD _ ht' e
          exact ⟨by rw [← k1, l1], by omega⟩
      have HF : Hid (∀ w', Sm (wr.setCell ⟨g, m * 6 + 3, none⟩ (.int .i64 (tgX ys (tgX ys m) : Nat))) w' → tgX ys (tgX ys m) < xs.length ∧ rt (tgX ys (tgX ys m)) = rt i ∧ Ended lo G b wk R xs D dn rt rk w w' ∧ Fr g0 w w') := fun w' s => by
        obtain ⟨cur, hcur⟩ := hX.row c0 (by omega)
        have hgg : g = g0 := by
          obtain ⟨q1, q2⟩ := HG0.out
          have := World.cell?_of_block (w := w) (a := ⟨G, 0, none⟩) (hFr.1 G q2)
          rw [this, q1] at c0
          exact (slice_block c0).symm
        refine ⟨by rw [← hE.len]; exact hu, hlr.1.trans hrm, ⟨⟨_, hE.trans (toX_eqg ys hm' _).1, DenX.half hD hm' q, hT1.sm s⟩, (hK.trans hT2).trans (Gk.of_sm s), fun k hk => ?_, ?_⟩, fun k hk => ?_, fun o ho => ?_⟩
        · have hkg : k ≠ g := fun e => hk cur (0, 0) (by rw [← hS k hk, e]; exact hcur)
          rw [s.heap, Below.heap_setCell _ _ _ _ hkg]
          exact hS k hk
        · rw [s.heap, ← hZ]
          simp [World.setCell]
        · rw [s.heap, Below.heap_setCell _ _ _ _ (by show k ≠ g; rw [hgg]; exact hk)]
          exact hFr.1 k hk
        · rw [s.cell, World.cell?_setCell_other]
          · exact hFr.2 o ho
          · intro e
            have := congrArg Addr.off e
            simp at this
            omega
      have HM : Hid (rk (tgX ys (tgX ys m)) < rk m) := hlr.2
      have hf3 := hfr (m * 6 + 3)
      have hne : ((tgX ys m : Int) != (m : Int)) = true := by simp; omega
      have hne2 : ((tgX ys m : Int) == (m : Int)) = false := by simp; omega
      have e1 : ¬ g = G := hgG
      have e2 : ¬ G = g := fun e => hgG e.symm
      generalize tgX ys (tgX ys m) = u at *
      generalize tgX ys m = t at *
      have j1 : (0 : Int) ≤ (t : Int) := by omega
      have j2 : (t : Int) < (ys.length : Int) := by omega
      have k1 : (0 : Int) ≤ (u : Int) := by omega
      have k2 : (u : Int) < (ys.length : Int) := by omega
      clear hE hD hX hK hS hZ hT hT1 hT2 hfr HP hrm H0 l1 l3 hlr et et2 hFr HG0
      go_wp2
      go_region
      go_wp2
      go_roundw
      case rel => exact ⟨u, by go_num, HF.out _ ⟨rfl, rfl, rfl, rfl⟩⟩
      case measure => simp [intOf]; exact HM.out
end Go.Proofs.Ytikpipenhamdbaa
