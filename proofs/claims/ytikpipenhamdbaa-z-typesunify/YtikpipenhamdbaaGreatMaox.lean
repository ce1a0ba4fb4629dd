/- The board: the contract of number. The board: a place more; what lay leaves as it was. The board: the contract of size. -/
import Derived.Test.YtikpipenhamdbaaGreatManx
import Derived.Sort.Walk0
namespace Go.Proofs.YtikpipenhamdbaaGreat
open Go.RowKit Go.Maps

/-- The names and the places of the variables, as they lie. -/
theorem BX.names {w : World} {lo G : Nat} {xs : List Px} {N : List (List UInt8)} {tn : Nat} (h : BX w lo G xs N tn) : ∃ ad cp, w.cell? ⟨G, 1, none⟩ = some (.slice ad N.length cp) ∧ (N ≠ [] → ∃ g, ad = some ⟨g, 0, none⟩ ∧ N.length ≤ cp ∧ ∀ j (hj : j < N.length), w.cell? ⟨g, j, none⟩ = some (.string ⟨N[j].toArray⟩)) := by
 obtain ⟨v, nv, vv, ps, rfl, hB⟩ := h
 obtain ⟨b0, b1, b2, b3⟩ := four_cells hB.box
 rcases id hB.nam.2 with ⟨h0, h1⟩ | ⟨g, cap, cur, hv, hg, hh, hrest⟩
 ·exact ⟨none, 0, by rw [b1, h0, h1], fun q => absurd (List.length_eq_zero_iff.1 h1) q⟩
 ·refine ⟨_, cap, by rw [b1, hv], fun _ => ⟨g, rfl, hrest.1, fun j hj => ?_⟩⟩
  have hn := hB.nam
  rw [hv] at hn
  have := hn.cellAt j (by omega)
  rw [List.getElem?_map, List.getElem?_eq_getElem hj] at this
  exact this
theorem BX.vars {w : World} {lo G : Nat} {xs : List Px} {N : List (List UInt8)} {tn : Nat} (h : BX w lo G xs N tn) : ∃ ad cp, w.cell? ⟨G, 2, none⟩ = some (.slice ad N.length cp) ∧ (N ≠ [] → ∃ g, ad = some ⟨g, 0, none⟩ ∧ N.length ≤ cp ∧ ∀ j, j < N.length → w.cell? ⟨g, j, none⟩ = some (.int .i64 (j : Nat))) := by
 obtain ⟨v, nv, vv, ps, rfl, hB⟩ := h
 obtain ⟨b0, b1, b2, b3⟩ := four_cells hB.box
 rcases id hB.var.2 with ⟨h0, h1⟩ | ⟨g, cap, cur, hv, hg, hh, hrest⟩
 ·exact ⟨none, 0, by rw [b2, h0, h1], fun q => absurd (List.length_eq_zero_iff.1 h1) q⟩
 ·refine ⟨_, cap, by rw [b2, hv], fun _ => ⟨g, rfl, hrest.1, fun j hj => ?_⟩⟩
  have hn := hB.var
  rw [hv] at hn
  have := hn.cellAt j (by omega)
  rw [intsV, List.getElem?_map, List.getElem?_range hj] at this
  exact this
set_option maxHeartbeats 8000000 in
set_option maxRecDepth 10000 in
theorem number_any {w : World} {lo G tn : Nat} {xs : List Px} {N : List (List UInt8)} (h : BX w lo G xs N tn) (hs : N.Pairwise (fun a b => a < b)) (hl : N.length ≤ 200000000) (q : Nat) (hq : q < N.length) :
  Calls Tryz.prog 78 #[.pointer (some ⟨G, 0, none⟩), .string ⟨N[q].toArray⟩] w fun e w' => e = .returned (.int .i64 q) ∧ w' = w := by
 obtain ⟨ad, cp, c1, hc⟩ := h.names
 obtain ⟨g, rfl, hcp, hcell⟩ := hc (by intro e; rw [e] at hq; simp at hq)
 have HC : Hid (∀ j (hj : j < N.length), w.cell? ⟨g, j, none⟩ = some (.string ⟨N[j].toArray⟩)) := hcell
 have HS : Hid (N.Pairwise (fun a b => a < b)) := hs
 have HQ : Hid (q < N.length) := hq
 have hl1 : (N.length : Int) ≤ 200000000 := by omega
 have hp : 0 < N.length := by omega
 clear h hs hcell
 generalize hnq : N[q] = nq at *
 have HNQ : Hid (N[q]'hq = nq) := hnq
 clear hnq
 go_enter Tryz.func78, Tryz.ntmps78
 go_upto_region 3 with fail
 go_loop [5, 6] (fun lv hv => ∃ a b : Nat, lv = .int .i64 a ∧ hv = .int .i64 b ∧ b ≤ 200000000 ∧ Hid (a ≤ q ∧ q ≤ b ∧ b < N.length)) (fun lv hv => (intOf hv).toNat - (intOf lv).toNat)
 case atStart => exact ⟨0, N.length - 1, by go_num, by go_num, by omega, by omega, by have := HQ.out; omega, by omega⟩
 case round =>
  obtain ⟨a, b, rfl, rfl, hb2, HP⟩ := hrel
  obtain ⟨h1, h2, h3⟩ := HP.out
  by_cases hlt : a < b
  ·have hlt' : (a : Int) < (b : Int) := by omega
   have hm : (a + b) / 2 < N.length := by omega
   have c2 := HC.out _ hm
   have m1 : (0 : Int) ≤ ((a + b) / 2 : Nat) := by omega
   have m2 : (((a + b) / 2 : Nat) : Int) < (N.length : Int) := by omega
   by_cases hn : N[(a + b) / 2] < nq
   ·have hbl : Op.bytesLess N[(a + b) / 2] nq = true := by rw [Go.Proofs.bytesLess_eq]; simpa using hn
    have HX : Hid ((a + b) / 2 + 1 ≤ q ∧ q ≤ b ∧ b < N.length) := by
     refine ⟨Nat.lt_of_not_le fun hle => ?_, h2, h3⟩
     have e := HNQ.out
     rcases Nat.lt_or_eq_of_le hle with p | p
     ·have := List.pairwise_iff_getElem.1 HS.out q _ HQ.out hm p
      rw [e] at this
      exact List.lt_irrefl _ (List.lt_trans this hn)
     ·subst p
      rw [e] at hn
      exact List.lt_irrefl _ hn
    clear HP h1 h2 h3 hn HC
    go_wp2
    go_round
    case rel => exact ⟨(a + b) / 2 + 1, b, by simp only [Value.int.injEq, true_and]; omega, rfl, hb2, HX.out⟩
    case measure => simp [intOf]; omega
   ·have hbl : Op.bytesLess N[(a + b) / 2] nq = false := by rw [Go.Proofs.bytesLess_eq]; simpa using hn
    have HX : Hid (a ≤ q ∧ q ≤ (a + b) / 2 ∧ (a + b) / 2 < N.length) := by
     refine ⟨h1, Nat.le_of_not_lt fun hlt2 => hn ?_, hm⟩
     have := List.pairwise_iff_getElem.1 HS.out _ q hm HQ.out hlt2
     rw [HNQ.out] at this
     exact this
    clear HP h1 h2 h3 hn HC
    go_wp2
    go_round
    case rel => exact ⟨a, (a + b) / 2, rfl, by simp only [Value.int.injEq, true_and]; omega, by omega, HX.out⟩
    case measure => simp [intOf]; omega
  ·have hlt' : ¬ (a : Int) < (b : Int) := by omega
   have HF : Hid (a = q) := by show _ = _; omega
   clear HP h1 h2 h3
   go_wp2
   go_ret
   exact ⟨by rw [HF.out]; rfl, rfl⟩
end Go.Proofs.YtikpipenhamdbaaGreat

namespace Go.Proofs.YtikpipenhamdbaaGreat
open Go.RowKit Go.Maps

section
variable {n : Nat} {lb : Nat → Int × List UInt8} {ar : Nat → List Nat} {tg : Nat → Nat} {dn : Nat → List Nd} {rt rk : Nat → Nat} {dp : Nat → List Nd}
theorem Bs.more (h : Bs n lb ar tg dn rt rk dp) (l : Int × List UInt8) (aL : List Nat) (ha : ∀ a ∈ aL, a < n) (h2 : l.1 ≠ 2) :
  Bs (n + 1) (fun j => if j = n then l else lb j) (fun j => if j = n then aL else ar j) (putN tg n n) (fun j => if j = n then (l.1, l.2, aL.length) :: aL.flatMap dn else dn j) (putN rt n n) rk (fun j => if j = n then (l.1, l.2, aL.length) :: aL.flatMap dp else dp j) := by
 obtain ⟨ρ, hρ, he⟩ := h.oth
 refine ⟨h.den.more l aL ha fun q => absurd q h2, ρ, hρ, fun k hk => ?_⟩
 by_cases q : k = n
 ·simp only [q, if_true]
  rw [ren_cons, rnd_node ρ (show (((l.1, l.2, aL.length) : Nd)).1 ≠ 2 from h2), ren_flat]
  congr 1
  exact flat_same aL fun a q => he a (ha a q)
 ·simp only [if_neg q]
  exact he k (by omega)
end
/-- What the board means between the pairs: L is bound. -/
structure Bn (xs : List Px) (N : List (List UInt8)) (tn : Nat) (dn : Nat → List Nd) (rt rk : Nat → Nat) (dp : Nat → List Nd) (L : List (List UInt8 × List Nd)) : Prop where
 bm : Bm xs tn dn rt rk dp
 nv : N.length ≤ xs.length
 isv : ∀ i, i < xs.length → (lbP xs i).1 = 2 → i < N.length
 nam : ∀ i (h : i < N.length), lbP xs i = (2, N[i])
 val : ∀ i (h : i < N.length), dp i = subL L [(2, N[i], 0)]
 siz : ∀ i, szQ xs i = 0
theorem appP_eq (xs : List Px) (x : Px) : (xs ++ [x]).length = xs.length + 1 ∧ lbP (xs ++ [x]) = (fun j => if j = xs.length then (x.kd, x.nm) else lbP xs j) ∧ arP (xs ++ [x]) = (fun j => if j = xs.length then x.ar else arP xs j) ∧ (∀ j, loP (xs ++ [x]) j = if j = xs.length then x.lk else loP xs j) ∧ (∀ j, mrP (xs ++ [x]) j = if j = xs.length then x.mrk else mrP xs j) ∧ ∀ j, szQ (xs ++ [x]) j = if j = xs.length then x.sz else szQ xs j := by
 have key : ∀ j, (xs ++ [x]).getD j pz = if j = xs.length then x else xs.getD j pz := fun j => by
  rw [List.getD_eq_getElem?_getD, List.getD_eq_getElem?_getD]
  by_cases q : j = xs.length
  ·rw [if_pos q, q]
   simp
  ·rw [if_neg q]
   by_cases q2 : j < xs.length
   ·rw [List.getElem?_append_left q2]
   ·rw [List.getElem?_eq_none (by simp; omega), List.getElem?_eq_none (by omega)]
 refine ⟨by simp, ?_, ?_, fun j => ?_, fun j => ?_, fun j => ?_⟩
 ·funext j
  simp only [lbP, key]
  split <;> rfl
 ·funext j
  simp only [arP, key]
  split <;> rfl
 ·simp only [loP, key]
  split <;> rfl
 ·simp only [mrP, key]
  split <;> rfl
 ·simp only [szQ, key]
  split <;> rfl
/-- A place more that is no variable, and what comes of it. -/
theorem Bn.more {xs : List Px} {N : List (List UInt8)} {tn : Nat} {dn : Nat → List Nd} {rt rk : Nat → Nat} {dp : Nat → List Nd} {L : List (List UInt8 × List Nd)} (h : Bn xs N tn dn rt rk dp L) (k : Int) (n : List UInt8) (aL : List Nat) (hk : k ≠ 2) (ha : ∀ a ∈ aL, a < xs.length) (h6 : aL.length ≤ 6) :
  ∃ dn' rt' dp', Bn (xs ++ [{ kd := k, nm := n, ar := aL, lk := none, mrk := 0, sz := 0 }]) N tn dn' rt' rk dp' L ∧ (∀ j, j < xs.length → dp' j = dp j) ∧ dp' xs.length = (k, n, aL.length) :: aL.flatMap dp := by
 obtain ⟨e1, e2, e3, e4, e5, e6⟩ := appP_eq xs { kd := k, nm := n, ar := aL, lk := none, mrk := 0, sz := 0 }
 have htg : tgP (xs ++ [{ kd := k, nm := n, ar := aL, lk := none, mrk := 0, sz := 0 }]) = putN (tgP xs) xs.length xs.length := by
  funext j
  unfold tgP putN
  rw [e4]
  split
  ·rename_i q
   rw [q]
   rfl
  ·rfl
 have hb := h.bm.bx.bs.more (k, n) aL ha hk
 refine ⟨fun j => if j = xs.length then (k, n, aL.length) :: aL.flatMap dn else dn j, putN rt xs.length xs.length, fun j => if j = xs.length then (k, n, aL.length) :: aL.flatMap dp else dp j, ⟨⟨⟨by rw [e1, e2, e3, htg]; exact hb, fun i => ?_, fun i => ?_⟩, fun i => ?_, ?_⟩, by rw [e1]; have := h.nv; omega, fun i hi q => ?_, fun i hi => ?_, fun i hi => ?_, fun i => ?_⟩, fun j hj => if_neg (by omega), if_pos rfl⟩
 ·rw [e4]
  split
  ·exact fun q => by cases q
  ·exact h.bm.bx.slf i
 ·rw [e3]
  by_cases q : i = xs.length
  ·simp only [q, if_true]
   exact h6
  ·simp only [if_neg q]
   exact h.bm.bx.few i
 ·rw [e5]
  split
  ·exact Nat.zero_le _
  ·exact h.bm.mr i
 ·rw [e1, e2]
  have hc := cv_more (lbP xs) (fun j => if j = xs.length then (k, n) else lbP xs j) rt (putN rt xs.length xs.length) xs.length (fun j hj => ⟨if_neg (by omega), putN_other _ _ (by omega)⟩) 1
  have := h.bm.cnt
  show tn + cv (fun j => if j = xs.length then (k, n) else lbP xs j) (putN rt xs.length xs.length) (xs.length + 1) ≤ xs.length + 1
  omega
 ·rw [e1] at hi
  rw [e2] at q
  by_cases q2 : i = xs.length
  ·simp only [q2, if_true] at q
   exact absurd q hk
  ·simp only [if_neg q2] at q
   exact h.isv i (by omega) q
 ·rw [e2]
  have := h.nv
  simp only [if_neg (show i ≠ xs.length by omega)]
  exact h.nam i hi
 ·have := h.nv
  simp only [if_neg (show i ≠ xs.length by omega)]
  exact h.val i hi
 ·rw [e6]
  split
  ·rfl
  ·exact h.siz i
/-- The board in memory; of the blocks of which R says so none is a place's, nor that of the variables. -/
def BXR (w : World) (lo G : Nat) (R : Nat → Prop) (xs : List Px) (N : List (List UInt8)) (tn : Nat) : Prop := ∃ v nv vv ps, ps.map Pn.st = xs ∧ BS w lo G v nv vv ps N tn ∧ (∀ g, R g → vv.ownBlock ≠ some g) ∧ ∀ p ∈ ps, ∀ g, R g → p.av.ownBlock ≠ some g
theorem BXR.bx {w : World} {lo G : Nat} {R : Nat → Prop} {xs : List Px} {N : List (List UInt8)} {tn : Nat} (h : BXR w lo G R xs N tn) : BX w lo G xs N tn := by
 obtain ⟨v, nv, vv, ps, e, h, _⟩ := h
 exact ⟨v, nv, vv, ps, e, h⟩
theorem BX.r {w : World} {lo G : Nat} {xs : List Px} {N : List (List UInt8)} {tn : Nat} (h : BX w lo G xs N tn) : BXR w lo G (fun _ => False) xs N tn := by
 obtain ⟨v, nv, vv, ps, e, h⟩ := h
 exact ⟨v, nv, vv, ps, e, h, fun _ q => q.elim, fun _ _ _ q => q.elim⟩
theorem BXR.below {w w' : World} {lo G : Nat} {R : Nat → Prop} {xs : List Px} {N : List (List UInt8)} {tn : Nat} (h : BXR w lo G R xs N tn) (hb : Below w.heap.size w w') : BXR w' lo G R xs N tn := by
 obtain ⟨v, nv, vv, ps, e, h, h1, h2⟩ := h
 exact ⟨v, nv, vv, ps, e, h.below hb, h1, h2⟩
theorem BXR.less {w : World} {lo G : Nat} {R R' : Nat → Prop} {xs : List Px} {N : List (List UInt8)} {tn : Nat} (h : BXR w lo G R xs N tn) (hR : ∀ g, R' g → R g) : BXR w lo G R' xs N tn := by
 obtain ⟨v, nv, vv, ps, e, h, h1, h2⟩ := h
 exact ⟨v, nv, vv, ps, e, h, fun g q => h1 g (hR g q), fun p hp g q => h2 p hp g (hR g q)⟩
/-- A row besides has grown. -/
theorem BXR.aside {w W3 : World} {lo G base m : Nat} {R : Nat → Prop} {xs : List Px} {N : List (List UInt8)} {tn : Nat} {av av' : Value} {cs : List Value} {o : Obj} (h : BXR w lo G (fun g => av.ownBlock = some g ∨ R g) xs N tn) (hav : w.ownsRow base 3 1 av m cs) (hg : (w.alloc o).grownBy W3 av.ownBlock) (hw : av'.ownBlock = av.ownBlock ∨ ∃ g, av'.ownBlock = some g ∧ w.heap.size ≤ g) : BXR W3 lo G (fun g => av'.ownBlock = some g ∨ R g) xs N tn := by
 obtain ⟨v, nv, vv, ps, e, h, h1, h2⟩ := h
 have kb : ∀ k, k < w.heap.size → av.ownBlock ≠ some k → W3.heap[k]? = w.heap[k]? := fun k hk hne => by
  rw [hg.block k (by simp; omega) (fun e => hne e.symm)]
  exact Below.heap_alloc _ _ _ hk
 have hty : ∀ k, av.ownBlock = some k → ∃ cur, w.heap[k]? = some (.cells cur 3 (0, 0)) := fun k hk => (row_ty hav hk).2.2
 have hne : ∀ {lo' e s : Nat} {u : Value} {n : Nat} {ys : List Value}, w.ownsRow lo' e s u n ys → (∀ k, av.ownBlock = some k → u.ownBlock ≠ some k) → W3.ownsRow lo' e s u n ys := fun hr hq => own_keep hr fun k hk => kb k (hr.lt k hk).2 fun q => hq k q hk
 have htn : ∀ {lo' e s : Nat} {u : Value} {n : Nat} {ys : List Value}, w.ownsRow lo' e s u n ys → e ≠ 3 → ∀ k, av.ownBlock = some k → u.ownBlock ≠ some k := fun hr he k hk q => by
  obtain ⟨cur, hc⟩ := hty k hk
  obtain ⟨_, _, cur', hc'⟩ := row_ty hr q
  rw [hc] at hc'
  exact he (cells_ty hc').symm
 have hG : av.ownBlock ≠ some G := fun q => by
  obtain ⟨cur, hc⟩ := hty G q
  rw [h.box] at hc
  exact absurd (cells_ty hc) (by decide)
 have fresh : ∀ u : Value, (∀ k, u.ownBlock = some k → k < w.heap.size) → (∀ g, (av.ownBlock = some g ∨ R g) → u.ownBlock ≠ some g) → ∀ g, (av'.ownBlock = some g ∨ R g) → u.ownBlock ≠ some g := fun u hl hu g q => by
  rcases q with q | q
  ·rcases hw with e | ⟨g', e, hg'⟩
   ·exact hu g (.inl (by rw [← e]; exact q))
   ·rw [e] at q
    have := Option.some.inj q
    intro q2
    have := hl g q2
    omega
  ·exact hu g (.inr q)
 refine ⟨v, nv, vv, ps, e, ⟨(kb G h.lt.2 hG).trans h.box, hne h.own (htn h.own (by decide)), hne h.nam (htn h.nam (by decide)), hne h.var fun k hk => h1 k (.inl hk), fun p hp => hne (h.arg p hp) fun k hk => h2 p hp k (.inl hk), h.loG, h.num⟩, fresh vv (fun k hk => (h.var.lt k hk).2) h1, fun p hp => fresh p.av (fun k hk => ((h.arg p hp).lt k hk).2) (h2 p hp)⟩
/-- A place more: the row, the box that leads to it. -/
theorem BXR.put {w w5 : World} {lo G g cap : Nat} {R : Nat → Prop} {v nv vv : Value} {ns : List Pn} {N : List (List UInt8)} {tn : Nat} {o : Obj} {n : Pn} (h : BS w lo G v nv vv ns N tn) (h1 : ∀ g, R g → vv.ownBlock ≠ some g) (h2 : ∀ p ∈ ns, ∀ g, R g → p.av.ownBlock ≠ some g) (hnum : ns.length < 200000000) (hn : w.ownsRow lo 3 1 n.av n.ar.length (intsV n.ar)) (hnR : ∀ g, R g → n.av.ownBlock ≠ some g)
  (hown : w5.ownsRow lo 128 6 (.slice (some ⟨g, 0, none⟩) (ns.length + 1) cap) (ns.length + 1) (ns.flatMap pnC ++ pnC n)) (hg : (w.alloc o).grownBy w5 v.ownBlock) (hat : v.ownBlock = some g ∨ w.heap.size ≤ g) :
  w5.heap[G]? = some (.cells #[v, nv, vv, .int .i64 tn] 110 (0, 0)) ∧ ∃ U, U = w5.setCell ⟨G, 0, none⟩ (.slice (some ⟨g, 0, none⟩) (ns.length + 1) cap) ∧ BXR U lo G R (ns.map Pn.st ++ [n.st]) N tn ∧ Bk lo G w U := by
 have kb : ∀ k, k < w.heap.size → v.ownBlock ≠ some k → w5.heap[k]? = w.heap[k]? := fun k hk hne => by
  rw [hg.block k (by simp; omega) (fun e => hne e.symm)]
  exact Below.heap_alloc _ _ _ hk
 have hnG : v.ownBlock ≠ some G := fun e => by
  obtain ⟨_, _, cur, hc⟩ := row_ty h.own e
  rw [h.box] at hc
  exact absurd (cells_ty hc) (by decide)
 have hG5 : w5.heap[G]? = some (.cells #[v, nv, vv, .int .i64 tn] 110 (0, 0)) := (kb G h.lt.2 hnG).trans h.box
 have hoth : ∀ k, k ≠ G → (w5.setCell ⟨G, 0, none⟩ (.slice (some ⟨g, 0, none⟩) (ns.length + 1) cap)).heap[k]? = w5.heap[k]? := fun k hk => Below.heap_setCell _ _ _ _ hk
 have hbU : (w5.setCell ⟨G, 0, none⟩ (.slice (some ⟨g, 0, none⟩) (ns.length + 1) cap)).heap[G]? = some (.cells #[.slice (some ⟨g, 0, none⟩) (ns.length + 1) cap, nv, vv, .int .i64 tn] 110 (0, 0)) := (setCell_block hG5).trans rfl
 have hs5 : w.heap.size ≤ w5.heap.size := by have := hg.size; simp at this; omega
 have hk : Bk lo G w (w5.setCell ⟨G, 0, none⟩ (.slice (some ⟨g, 0, none⟩) (ns.length + 1) cap)) := by
  refine ⟨hg.os, hg.tape, hg.output, by simpa [World.setCell] using hs5, fun k hk => ?_, fun k o q1 q2 q3 => ?_, fun k q => ?_⟩
  ·rw [hoth k (by have := h.loG; omega), kb k (by have := h.lt.1; omega) (fun e => by have := (h.own.lt k e).1; omega)]
  ·rw [hoth k q2, kb k (lt_of_heap q1) (fun e => q3 (by rw [h.pb]; exact e))]
   exact q1
  ·unfold pb at q
   rw [(four_cells hbU).1] at q
   have q : g = k := Option.some.inj q
   rw [h.pb]
   rcases hat with e | e
   ·exact .inl (by rw [← q]; exact e)
   ·exact .inr (by omega)
 refine ⟨hG5, _, rfl, ⟨_, nv, vv, ns ++ [n], by simp, h.move hk hbU ?_ (fun p hp => ?_) (by simp; omega), h1, fun p hp => ?_⟩, hk⟩
 ·rw [List.length_append, List.flatMap_append]
  have : w5.ownsRow lo 128 6 (.slice (some ⟨g, 0, none⟩) (ns.length + 1) cap) (ns.length + [n].length) (ns.flatMap pnC ++ [n].flatMap pnC) := by simpa using hown
  refine own_keep this fun k hk => hoth k (fun e => ?_)
  obtain ⟨_, _, cur, hc⟩ := row_ty this hk
  rw [e, hG5] at hc
  exact absurd (cells_ty hc) (by decide)
 ·rcases List.mem_append.1 hp with q | q
  ·exact .inl ⟨p, q, rfl, rfl⟩
  ·have : p = n := by simpa using q
   rw [this]
   exact .inr (hk.row hn (by decide) (h.boxNe (by decide)) h.pbt)
 ·rcases List.mem_append.1 hp with q | q
  ·exact h2 p q
  ·have : p = n := by simpa using q
   rw [this]
   exact hnR
end Go.Proofs.YtikpipenhamdbaaGreat

namespace Go.Proofs.YtikpipenhamdbaaGreat
open Go.RowKit Go.Maps

/-- So many, or one more than may be. -/
def capN (n : Nat) : Nat := if n ≤ 500 then n else 501
/-- The same places but for sizes, which are right where they are others. -/
structure Ez (dn : Nat → List Nd) (xs ys : List Px) : Prop where
 len : ys.length = xs.length
 lb : lbP ys = lbP xs
 ar : arP ys = arP xs
 lo : loP ys = loP xs
 sz : ∀ k, szQ ys k = szQ xs k ∨ szQ ys k = capN (dn k).length
theorem Ez.refl (dn : Nat → List Nd) (xs : List Px) : Ez dn xs xs := ⟨rfl, rfl, rfl, rfl, fun _ => .inl rfl⟩
theorem Ez.trans {dn : Nat → List Nd} {xs ys zs : List Px} (h : Ez dn xs ys) (k : Ez dn ys zs) : Ez dn xs zs :=
 ⟨k.len.trans h.len, k.lb.trans h.lb, k.ar.trans h.ar, k.lo.trans h.lo, fun j => by
  rcases k.sz j with q | q
  ·rw [q]; exact h.sz j
  ·exact .inr q⟩
theorem BsX.ez {dn' : Nat → List Nd} {xs ys : List Px} {dn : Nat → List Nd} {rt rk : Nat → Nat} {dp : Nat → List Nd} (h : BsX xs dn rt rk dp) (e : Ez dn' xs ys) : BsX ys dn rt rk dp := h.like e.len e.lb e.ar e.lo
/-- Sizes that are told are right. -/
def SzOk (xs : List Px) (dn : Nat → List Nd) : Prop := ∀ k, szQ xs k = 0 ∨ szQ xs k = capN (dn k).length
theorem SzOk.ez {xs ys : List Px} {dn : Nat → List Nd} (h : SzOk xs dn) (e : Ez dn xs ys) : SzOk ys dn := fun k => by
 rcases e.sz k with q | q
 ·rw [q]; exact h k
 ·exact .inr q
/-- What size answers. -/
def SizeP (lo G tn : Nat) (N : List (List UInt8)) (xs : List Px) (dn : Nat → List Nd) (i : Nat) (w : World) (e : Ending) (w' : World) : Prop :=
 e = .returned (.int .i64 (capN (dn i).length : Nat)) ∧ Bk lo G w w' ∧ ∃ ys, Ez dn xs ys ∧ BX w' lo G ys N tn
/-- The sum of some sizes. -/
def capS (dn : Nat → List Nd) : List Nat → Nat
 | [] => 0
 | a :: aL => capN (dn a).length + capS dn aL
theorem capS_app (dn : Nat → List Nd) : ∀ a b : List Nat, capS dn (a ++ b) = capS dn a + capS dn b
 | [], b => by simp [capS]
 | x :: a, b => by
  show capN _ + capS dn (a ++ b) = capN _ + capS dn a + capS dn b
  rw [capS_app dn a b]
  omega
theorem capN_le (n : Nat) : capN n ≤ 501 := by unfold capN; split <;> omega
theorem capS_le (dn : Nat → List Nd) : ∀ a : List Nat, capS dn a ≤ 501 * a.length
 | [] => Nat.le_refl _
 | x :: a => by
  have := capS_le dn a
  have := capN_le (dn x).length
  show capN _ + capS dn a ≤ 501 * (a.length + 1)
  omega
theorem cap_add {x s m : Nat} (h : capN (1 + s) = capN (1 + m)) : capN (1 + (capN x + s)) = capN (1 + (x + m)) := by
 have key : ∀ n, capN n = n ∧ n ≤ 500 ∨ capN n = 501 ∧ 500 < n := fun n => by unfold capN; split <;> omega
 rcases key x with ⟨a1, a2⟩ | ⟨a1, a2⟩ <;> rcases key (1 + s) with ⟨b1, b2⟩ | ⟨b1, b2⟩ <;> rcases key (1 + m) with ⟨c1, c2⟩ | ⟨c1, c2⟩ <;> rcases key (1 + (capN x + s)) with ⟨d1, d2⟩ | ⟨d1, d2⟩ <;> rcases key (1 + (x + m)) with ⟨e1, e2⟩ | ⟨e1, e2⟩ <;> omega
theorem capS_cap (dn : Nat → List Nd) : ∀ a : List Nat, capN (1 + capS dn a) = capN (1 + (a.flatMap dn).length)
 | [] => rfl
 | x :: a => by
  have ih := capS_cap dn a
  rw [List.flatMap_cons, List.length_append]
  show capN (1 + (capN (dn x).length + capS dn a)) = _
  exact cap_add ih
/-- Between the rounds of size. -/
structure SzW (lo G tn : Nat) (N : List (List UInt8)) (xs : List Px) (dn : Nat → List Nd) (w wr : World) : Prop where
 bk : Bk lo G w wr
 ex : ∃ ys, Ez dn xs ys ∧ BX wr lo G ys N tn
set_option maxHeartbeats 8000000 in
set_option maxRecDepth 10000 in
theorem size_node {lo G tn : Nat} {N : List (List UInt8)} {dn : Nat → List Nd} {rt rk : Nat → Nat} {dp : Nat → List Nd} (L : Nat)
  (IH : ∀ (w : World) (xs : List Px) (i : Nat), BX w lo G xs N tn → BsX xs dn rt rk dp → SzOk xs dn → i < xs.length → (dn i).length ≤ L → Calls Tryz.prog 58 #[.pointer (some ⟨G, 0, none⟩), .int .i64 i] w (SizeP lo G tn N xs dn i w))
  (w : World) (xs : List Px) (i : Nat) (hX : BX w lo G xs N tn) (hD : BsX xs dn rt rk dp) (hz : SzOk xs dn) (hi : i < xs.length) (hL : (dn i).length ≤ L + 1) :
  Calls Tryz.prog 58 #[.pointer (some ⟨G, 0, none⟩), .int .i64 i] w (SizeP lo G tn N xs dn i w) := by
 have CE := bend_any hX hD i hi
 have den := hD.bs.den
 have hr := den.rt_lt hi
 have hrd := den.rt_dn hi
 have hform := den.form hi
 obtain ⟨g, cap, ad, cp, c0, -, ⟨hgG, hpb, -⟩, hfr, ⟨n0, n1, n2, n3, n4, n5⟩, harg, -, -, hM⟩ := hX.at hr
 have hnum := hX.num.1
 have em : xs[rt i].sz = szQ xs (rt i) := by unfold szQ; rw [getP_at hr]
 rw [em] at n5
 have i1 : (0 : Int) ≤ (rt i : Int) := by omega
 have i2 : (rt i : Int) < (xs.length : Int) := by omega
 rcases hz (rt i) with hz0 | hz1
 ·rw [hz0] at n5
  have H0 : Hid (SzW lo G tn N xs dn w w) := ⟨Bk.refl _ _ _, xs, Ez.refl _ _, hX⟩
  have HALL : Hid (BsX xs dn rt rk dp ∧ SzOk xs dn ∧ (dn i).length ≤ L + 1 ∧ i < xs.length) := ⟨hD, hz, hL, hi⟩
  have HIH : Hid (∀ (w : World) (xs : List Px) (i : Nat), BX w lo G xs N tn → BsX xs dn rt rk dp → SzOk xs dn → i < xs.length → (dn i).length ≤ L → Calls Tryz.prog 58 #[.pointer (some ⟨G, 0, none⟩), .int .i64 i] w (SizeP lo G tn N xs dn i w)) := IH
  clear hX hD IH hM harg den hform hrd em hz hz0 hfr hL
  go_enter Tryz.func58, Tryz.ntmps58
  go_upto_region 4 with (first | (go_at_call 79; (with_reducible refine Calls.mono CE ?_); rintro e' w1 ⟨rfl, rfl⟩))
  go_wp2
  go_loopw [5, 6] (fun nv iv wr => ∃ j : Nat, j ≤ (arP xs (rt i)).length ∧ iv = .int .i64 j ∧ nv = .int .i64 (1 + capS dn ((arP xs (rt i)).take j) : Nat) ∧ Hid (SzW lo G tn N xs dn w1 wr)) (fun _ iv _ => (arP xs (rt i)).length - (intOf iv).toNat)
  case atStart => exact ⟨0, by omega, by go_num, rfl, H0.out⟩
  case round =>
   obtain ⟨j, hj, rfl, rfl, HP⟩ := hrel
   clear H0 c0 hpb n0 n1 n2 n3 n4 n5 CE
   obtain ⟨hbk, ys, hE, hY⟩ := HP.out
   obtain ⟨hD, hz, hL, -⟩ := HALL.out
   have hry : rt i < ys.length := by rw [hE.len]; exact hr
   have hj6 := hD.few (rt i)
   obtain ⟨g', cap', ad', cp', c0, -, ⟨hgG', -⟩, hfr', ⟨-, -, n2, -, -, n5⟩, harg, -, -, hM⟩ := hY.at hry
   have ea : ys[rt i].ar = arP xs (rt i) := by
    rw [← hE.ar]
    unfold arP
    rw [getP_at hry]
   rw [ea] at n2 harg
   have i2' : (rt i : Int) < (ys.length : Int) := by omega
   have hcs := capS_le dn ((arP xs (rt i)).take j)
   have hlt2 : ((arP xs (rt i)).take j).length ≤ 6 := by rw [List.length_take]; omega
   by_cases hlt : j < (arP xs (rt i)).length
   ·have hlt' : (j : Int) < ((arP xs (rt i)).length : Int) := by omega
    have j1 : (0 : Int) ≤ (j : Int) := by omega
    obtain ⟨ga, cur, rfl, hcp, ⟨hgaG, -⟩, hga, hcur⟩ := harg (fun e => by rw [e] at hlt; simp at hlt)
    have a0 : wr.cell? ⟨ga, j, none⟩ = some (.int .i64 ((arP xs (rt i))[j] : Nat)) := by
     simp only [World.cell?, hga]
     simpa using hcur j hlt
    have ham : (arP xs (rt i))[j] ∈ arP xs (rt i) := List.getElem_mem hlt
    have hal : (arP xs (rt i))[j] < xs.length := hD.bs.den.argr hi ham
    have hlen := hD.bs.den.less hi ham
    have C1 : Calls Tryz.prog 58 #[.pointer (some ⟨G, 0, none⟩), .int .i64 ((arP xs (rt i))[j] : Nat)] wr fun e w' => e = .returned (.int .i64 (capN (dn (arP xs (rt i))[j]).length : Nat)) ∧ Hid (SzW lo G tn N xs dn w1 w') := by
     refine Calls.mono (HIH.out wr ys (arP xs (rt i))[j] hY (hD.ez hE) (hz.ez hE) (by rw [hE.len]; exact hal) (by omega)) ?_
     rintro e w' ⟨rfl, hk2, zs, hE2, hZ⟩
     exact ⟨rfl, hbk.trans hk2, zs, hE.trans hE2, hZ⟩
    have HJ : Hid (j < (arP xs (rt i)).length) := hlt
    have hc5 := capN_le (dn (arP xs (rt i))[j]).length
    have HSU : Hid (1 + capS dn ((arP xs (rt i)).take (j + 1)) = 1 + capS dn ((arP xs (rt i)).take j) + capN (dn (arP xs (rt i))[j]).length) := by
     show _ = _
     rw [List.take_succ_eq_append_getElem hlt, capS_app]
     simp only [capS]
     omega
    clear HP hY hE harg hD hz hL hbk hcur hga ham hal hlen ea hM hfr'
    generalize capN (dn (arP xs (rt i))[j]).length = cj at *
    generalize (arP xs (rt i))[j] = aj at *
    clear hlt
    generalize capS dn ((arP xs (rt i)).take j) = sj at *
    go_wp2_with (go_at_call 58; (with_reducible refine Calls.mono C1 ?_); rintro e' w5 ⟨rfl, H5⟩)
    go_roundw
    case rel => exact ⟨j + 1, HJ.out, by go_num, by rw [HSU.out]; go_num, H5.out⟩
    case measure => have := HJ.out; simp [intOf]; omega
   ·have hlt' : ¬ (j : Int) < ((arP xs (rt i)).length : Int) := by omega
    have hje : j = (arP xs (rt i)).length := by omega
    have HV : Hid (capN (1 + capS dn ((arP xs (rt i)).take j)) = capN (dn i).length) := by
     show _ = _
     rw [hje, List.take_length, capS_cap, hD.bs.den.form hi, List.length_cons, Nat.add_comm 1]
    obtain ⟨hM1, hM2⟩ := hM (capN (dn i).length)
    obtain ⟨z1, z2, z3, z4, z5, z6⟩ := szP_eq ys hry (capN (dn i).length)
    have HF : Hid (SizeP lo G tn N xs dn i w1 (.returned (.int .i64 (capN (dn i).length : Nat))) (wr.setCell ⟨g', rt i * 6 + 5, none⟩ (.int .i64 (capN (dn i).length : Nat)))) := by
     refine ⟨rfl, hbk.trans hM2, _, hE.trans ⟨z1, z2, z3, z4, fun k => ?_⟩, hM1⟩
     rw [z6]
     by_cases q : k = rt i
     ·rw [q, putN_self, hD.bs.den.rt_dn hi]
      exact .inr rfl
     ·rw [putN_other _ _ q]
      exact .inl rfl
    have hf5 := hfr' (rt i * 6 + 5)
    clear HP hY hE harg hD hz hL hbk ea hM hM1 hM2 z1 z2 z3 z4 z5 z6 hje hfr'
    generalize capS dn ((arP xs (rt i)).take j) = sj at *
    by_cases h5 : 1 + sj ≤ 500
    ·have h5' : ¬ (500 : Int) < ((1 + sj : Nat) : Int) := by omega
     have e : capN (1 + sj) = 1 + sj := if_pos h5
     have HF' := HF.out
     rw [← HV.out, e] at HF'
     have HF2 : Hid (SizeP lo G tn N xs dn i w1 (.returned (.int .i64 (1 + sj : Nat))) (wr.setCell ⟨g', rt i * 6 + 5, none⟩ (.int .i64 (1 + sj : Nat)))) := HF'
     clear HF HF' e HV
     go_wp2
     go_ret
     exact HF2.out
    ·have h5' : (500 : Int) < ((1 + sj : Nat) : Int) := by omega
     have e : capN (1 + sj) = 501 := if_neg h5
     have HF' := HF.out
     rw [← HV.out, e] at HF'
     have HF2 : Hid (SizeP lo G tn N xs dn i w1 (.returned (.int .i64 (501 : Nat))) (wr.setCell ⟨g', rt i * 6 + 5, none⟩ (.int .i64 (501 : Nat)))) := HF'
     clear HF HF' e HV
     go_wp2
     go_ret
     exact HF2.out
 ·have hpos : 0 < capN (dn i).length := by
   rw [hform]
   unfold capN
   simp
   split <;> omega
  rw [hz1, hrd] at n5
  have HF : Hid (SizeP lo G tn N xs dn i w (.returned (.int .i64 (capN (dn i).length : Nat))) w) := ⟨rfl, Bk.refl _ _ _, xs, Ez.refl _ _, hX⟩
  have hpos' : (0 : Int) < (capN (dn i).length : Int) := by omega
  clear hX hD IH hM harg den hform hrd em hz hz1 hfr hL
  generalize capN (dn i).length = ci at *
  go_enter Tryz.func58, Tryz.ntmps58
  go_wp2_with (go_at_call 79; (with_reducible refine Calls.mono CE ?_); rintro e' w1 ⟨rfl, rfl⟩)
  go_ret
  exact HF.out
theorem size_any {lo G tn : Nat} {N : List (List UInt8)} {dn : Nat → List Nd} {rt rk : Nat → Nat} {dp : Nat → List Nd} : ∀ (L : Nat) (w : World) (xs : List Px) (i : Nat), BX w lo G xs N tn → BsX xs dn rt rk dp → SzOk xs dn → i < xs.length → (dn i).length ≤ L → Calls Tryz.prog 58 #[.pointer (some ⟨G, 0, none⟩), .int .i64 i] w (SizeP lo G tn N xs dn i w)
 | 0, _, _, _, _, hD, _, hi, hL => by
  rw [hD.bs.den.form hi] at hL
  simp at hL
 | L + 1, w, xs, i, h1, h2, h3, h4, h5 => size_node L (size_any L) w xs i h1 h2 h3 h4 h5
end Go.Proofs.YtikpipenhamdbaaGreat
