/- The graph: the contract of join. -/
import Derived.Test.YtikpipenhamdbaaGreatMapx
import Derived.Sort.Walk0
namespace Go.Proofs.YtikpipenhamdbaaGreat
open Go.RowKit Go.Maps

def inB (xs : List Gx) (i : Nat) (c : Bool) : List Gx := xs.modify i fun x => { x with ins := c }
/-- The mark, set or not. -/
theorem GX.insTo {w : World} {lo G b wk : Nat} {R : Nat → Prop} {xs : List Gx} {D : DataW Unit} (h : GX w lo G b R xs D wk) {i : Nat} (hi : i < xs.length) (c : Bool) {g cap : Nat} (c0 : w.cell? ⟨G, 0, none⟩ = some (.slice (some ⟨g, 0, none⟩) xs.length cap)) : GX (w.setCell ⟨g, i * 6 + 4, none⟩ (.bool c)) lo G b R (inB xs i c) D wk ∧ Gk lo G b w (w.setCell ⟨g, i * 6 + 4, none⟩ (.bool c)) := by
 obtain ⟨v, ns, rfl, hG, hr⟩ := h
 rw [List.length_map] at hi c0
 obtain ⟨g', cap', hv, _, _, ⟨cur, hcur⟩, ⟨c0', _, _⟩, _⟩ := hG.cells hi
 rw [c0] at c0'
 have e := slice_block c0'
 subst e
 obtain ⟨g2, cap2, hv', h1, h2⟩ := hG.node hi { ns[i] with ins := c } ⟨rfl, rfl⟩ (j := 4) (by omega) (u := .bool c) rfl
 rw [hv] at hv'
 cases hv'
 refine ⟨⟨v, _, ?_, h1, fun n hn => ?_⟩, h2⟩
 ·unfold inB
  apply List.ext_getElem?
  intro j
  rw [List.getElem?_map, List.getElem?_set, List.getElem?_modify, List.getElem?_map]
  by_cases hj : i = j
  ·subst hj
   simp [hi, Gn.st]
  ·simp [hj]
 ·rcases List.mem_or_eq_of_mem_set hn with hn | hn
  ·exact hr n hn
  ·rw [hn]
   exact fun h0 g hg => hr ns[i] (List.getElem_mem hi) h0 g hg
theorem toX_len (xs : List Gx) (i t : Nat) : (toX xs i t).length = xs.length := by simp [toX]
theorem lt_flip {a b : List UInt8} (h : a < b) : ¬ b < a := fun k => List.lt_irrefl a (List.lt_trans h k)
def joinX (xs : List Gx) (i t : Nat) : List Gx := inB (toX xs i t) t (inX xs t || inX xs i)
set_option maxHeartbeats 8000000 in
set_option maxRecDepth 10000 in
theorem join_any {w : World} {lo G b wk : Nat} {R : Nat → Prop} {xs : List Gx} {D : DataW Unit} (h : GX w lo G b R xs D wk) (p q : Nat) (hp : p < xs.length) (hq : q < xs.length) (hnn : (lbX xs p).2 ≠ (lbX xs q).2) :
  Calls Tryz.prog 47 #[.pointer (some ⟨G, 0, none⟩), .int .i64 p, .int .i64 q] w fun e w' => e = .returned (.tuple #[]) ∧ Gk lo G b w w' ∧ GX w' lo G b R (if (lbX xs q).2 < (lbX xs p).2 then joinX xs p q else joinX xs q p) D wk := by
 obtain ⟨g, cap, ad, c0, _, hgG, hfr, ⟨n0, n1, n2, n3, n4, n5⟩, _, hT⟩ := h.at hp
 obtain ⟨g', cap', ad', c0', _, _, _, ⟨m0, m1, m2, m3, m4, m5⟩, _, hT'⟩ := h.at hq
 rw [c0] at c0'
 have eg := slice_block c0'
 subst eg
 clear c0'
 have hln := h.num.1
 have i1 : (0 : Int) ≤ (p : Int) := by omega
 have i2 : (p : Int) < (xs.length : Int) := by omega
 have j1 : (0 : Int) ≤ (q : Int) := by omega
 have j2 : (q : Int) < (xs.length : Int) := by omega
 have ep : (lbX xs p).2 = xs[p].name := by unfold lbX; rw [getD_at hp]
 have eq : (lbX xs q).2 = xs[q].name := by unfold lbX; rw [getD_at hq]
 have fp : inX xs p = xs[p].ins := by unfold inX; rw [getD_at hp]
 have fq : inX xs q = xs[q].ins := by unfold inX; rw [getD_at hq]
 have KEY : ∀ (i t : Nat), i < xs.length → t < xs.length → ∀ (k1 : GX (w.setCell ⟨g, i * 6 + 3, none⟩ (.int .i64 t)) lo G b R (toX xs i t) D wk ∧ Gk lo G b w (w.setCell ⟨g, i * 6 + 3, none⟩ (.int .i64 t))) (k2 : (w.setCell ⟨g, i * 6 + 3, none⟩ (.int .i64 t)).cell? ⟨G, 0, none⟩ = some (.slice (some ⟨g, 0, none⟩) xs.length cap)), ∀ w', Sm ((w.setCell ⟨g, i * 6 + 3, none⟩ (.int .i64 t)).setCell ⟨g, t * 6 + 4, none⟩ (.bool (inX xs t || inX xs i))) w' → GX w' lo G b R (joinX xs i t) D wk ∧ Gk lo G b w w' := fun i t hi ht k1 k2 w' s => by
  obtain ⟨a1, a2⟩ := k1.1.insTo (i := t) (by rw [toX_len]; exact ht) (inX xs t || inX xs i) (cap := cap) (by rw [toX_len]; exact k2)
  exact ⟨a1.sm s, (k1.2.trans a2).trans (Gk.of_sm s)⟩
 have gG0 : ∀ (i t : Nat), (w.setCell ⟨g, i * 6 + 3, none⟩ (.int .i64 t)).cell? ⟨G, 0, none⟩ = some (.slice (some ⟨g, 0, none⟩) xs.length cap) := fun i t => by
  rw [← c0]
  exact World.cell?_of_block (w := w) (Below.heap_setCell _ _ _ _ hgG.symm)
 have HK1 : Hid (∀ w', Sm ((w.setCell ⟨g, p * 6 + 3, none⟩ (.int .i64 q)).setCell ⟨g, q * 6 + 4, none⟩ (.bool (inX xs q || inX xs p))) w' → GX w' lo G b R (joinX xs p q) D wk ∧ Gk lo G b w w') := KEY p q hp hq (hT q) (gG0 p q)
 have HK2 : Hid (∀ w', Sm ((w.setCell ⟨g, q * 6 + 3, none⟩ (.int .i64 p)).setCell ⟨g, p * 6 + 4, none⟩ (.bool (inX xs p || inX xs q))) w' → GX w' lo G b R (joinX xs q p) D wk ∧ Gk lo G b w w') := KEY q p hq hp (hT' p) (gG0 q p)
 have f1 := hfr (p * 6 + 3)
 have f2 := hfr (p * 6 + 4)
 have f3 := hfr (q * 6 + 3)
 have f4 := hfr (q * 6 + 4)
 rw [ep, eq] at hnn ⊢
 rw [fp, fq] at HK1 HK2
 have hb1 : Op.bytesLess (⟨xs[p].name.toArray⟩ : ByteArray).toList (⟨xs[q].name.toArray⟩ : ByteArray).toList = decide (xs[p].name < xs[q].name) := by rw [bytes_list, bytes_list, Go.Proofs.bytesLess_eq]
 have hb2 : ((⟨xs[p].name.toArray⟩ : ByteArray).toList == (⟨xs[q].name.toArray⟩ : ByteArray).toList) = false := by
  rw [bytes_list, bytes_list]
  simpa using hnn
 clear KEY gG0 hT hT' hfr h n0 n2 n5 m0 m2 m5 ep eq fp fq
 have e1 : ¬ g = G := hgG
 have e2 : ¬ G = g := fun e => hgG e.symm
 have o1 : ¬ q * 6 + 4 = p * 6 + 3 := by omega
 have o2 : ¬ p * 6 + 4 = q * 6 + 3 := by omega
 generalize xs[p].ins = ip at *
 generalize xs[q].ins = iq at *
 generalize (⟨xs[p].name.toArray⟩ : ByteArray) = np at *
 generalize (⟨xs[q].name.toArray⟩ : ByteArray) = nq at *
 by_cases hlt : xs[q].name < xs[p].name
 ·have hb3 : Op.bytesLess np.toList nq.toList = false := by rw [hb1]; simpa using lt_flip hlt
  clear hb1 HK2
  rw [if_pos hlt]
  clear hlt hnn
  go_enter Tryz.func47, Tryz.ntmps47
  cases ip <;> cases iq <;>
  ·go_wp2
   go_quiet (fail)
   go_wp2
   go_region
   all_goals
    go_wp2
    go_end0
    refine ⟨rfl, (HK1.out _ ?_).2, (HK1.out _ ?_).1⟩ <;> exact ⟨rfl, rfl, rfl, rfl⟩
 ·have hb3 : Op.bytesLess np.toList nq.toList = true := by
   rw [hb1, decide_eq_true_eq]
   exact Decidable.by_contra fun hc => hnn (List.le_antisymm (List.not_lt.1 hlt) (List.not_lt.1 hc))
  clear hb1 HK1
  rw [if_neg hlt]
  clear hlt hnn
  go_enter Tryz.func47, Tryz.ntmps47
  cases ip <;> cases iq <;>
  ·go_wp2
   go_quiet (fail)
   go_wp2
   go_region
   all_goals
    go_wp2
    go_end0
    refine ⟨rfl, (HK2.out _ ?_).2, (HK2.out _ ?_).1⟩ <;> exact ⟨rfl, rfl, rfl, rfl⟩
end Go.Proofs.YtikpipenhamdbaaGreat
