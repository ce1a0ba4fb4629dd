/- ownedBounds of so many rows, each behind the one before. ownedBounds of five rows, each behind the one before. -/
import Derived.Test.YtikpipenhamdbaaGreatMayx
import Derived.Test.YtikpipenhamdbaaGreatFd
namespace Go.Proofs.YtikpipenhamdbaaGreat
open Go.RowKit

theorem SepB.low {a a' b : Nat} {A : List (Value × Nat)} (h : SepB a b A) (ha : a' ≤ a) : SepB a' b A :=
 ⟨fun p hp => by obtain ⟨g, e, h1, h2⟩ := h.1 p hp; exact ⟨g, e, by omega, h2⟩, h.2⟩
theorem SepB.up {a b b' : Nat} {A : List (Value × Nat)} (h : SepB a b A) (hb : b ≤ b') : SepB a b' A :=
 ⟨fun p hp => by obtain ⟨g, e, h1, h2⟩ := h.1 p hp; exact ⟨g, e, h1, by omega⟩, h.2⟩
theorem Rx.low {U : World} {lo lo' hi : Nat} {v : Value} {es : List Bl4} {bs : List Bd} {rss : List (List (Value × Nat))} (h : Rx U lo hi v es bs rss) (hl : lo' ≤ lo) : Rx U lo' hi v es bs rss :=
 ⟨h.own.mono hl, h.len, h.rlen, fun j a b c => TyO.mono hl _ _ _ _ (h.each j a b c), h.sep.low hl, h.away, fun g hg => ⟨Nat.le_trans hl (h.row g hg).1, (h.row g hg).2⟩, h.hi, h.num⟩
theorem Rx.notR {U : World} {lo hi R : Nat} {v : Value} {es : List Bl4} {bs : List Bd} {rss : List (List (Value × Nat))} {c : Array Value} {fr : Nat × Nat} (h : Rx U lo hi v es bs rss) (hR : U.heap[R]? = some (.cells c 23 fr)) : v.ownBlock ≠ some R := by
 intro e
 rcases h.own.2 with ⟨hv, _⟩ | ⟨g, cap, cur, hv, _, hgg, _⟩
 ·rw [hv] at e; simp [Value.ownBlock] at e
 ·rw [hv] at e
  have e' : g = R := by simpa [Value.ownBlock] using e
  rw [e', hR] at hgg
  simp at hgg
/-- The lists of rows that lie one behind the other. -/
theorem sep_rows {w : World} {L M : Nat} {lo hi : Nat → Nat} {V : Nat → Value} {E : Nat → List Bl4} {T : Nat → List Bd} {Z : Nat → List (List (Value × Nat))} (hL : L ≤ w.heap.size) (H : ∀ i, i < M → Rx w (lo i) (hi i) (V i) (E i) (T i) (Z i)) (hlh : ∀ i, i < M → L ≤ lo i ∧ lo i ≤ hi i) (hc : ∀ i j, i < j → j < M → hi i ≤ lo j) :
  ∀ N, N ≤ M → ∃ h, SepB L h (zAll Z N) ∧ L ≤ h ∧ h ≤ w.heap.size ∧ (∀ j, N ≤ j → j < M → h ≤ lo j) ∧ (zAll Z N).length ≤ N * 100000000000 ∧ ∀ p ∈ zAll Z N, p.2 ≤ 20000
 | 0, _ => ⟨L, ⟨fun p hp => by simp [zAll] at hp, by simp [zAll]⟩, Nat.le_refl _, hL, fun j _ h => (hlh j h).1, by simp [zAll], fun p hp => by simp [zAll] at hp⟩
 | N + 1, hN => by
  obtain ⟨h, h1, h2, h3, h4, h5, h6⟩ := sep_rows hL H hlh hc N (by omega)
  have R := H N (by omega)
  obtain ⟨n1, n2, n3⟩ := R.num
  have l1 := hlh N (by omega)
  have l2 := h4 N (Nat.le_refl _) (by omega)
  refine ⟨hi N, h1.append R.sep l1.1 l2 (by omega), by omega, R.hi, fun j hj hjm => hc N j (by omega) hjm, ?_, fun p hp => ?_⟩
  ·rw [zAll, List.length_append]
   omega
  ·rw [zAll, List.mem_append] at hp
   rcases hp with hp | hp
   ·exact h6 p hp
   ·have := n3 p hp; omega
theorem owned_chain (w : World) (R L M : Nat) (lo hi : Nat → Nat) (V : Nat → Value) (E : Nat → List Bl4) (T : Nat → List Bd) (Z : Nat → List (List (Value × Nat))) (hL : L ≤ w.heap.size) (hM0 : 0 < M) (hM : M ≤ 5) (H : ∀ i, i < M → Rx w (lo i) (hi i) (V i) (E i) (T i) (Z i)) (hlh : ∀ i, i < M → L ≤ lo i ∧ lo i ≤ hi i) (hc : ∀ i j, i < j → j < M → hi i ≤ lo j)
  (c : Array Value) (fr : Nat × Nat) (hR : w.heap[R]? = some (.cells c 23 fr)) (hcv : ∀ i, i < M → c[i]? = some (V i)) :
  Calls Tryz.prog 15 #[.slice (some ⟨R, 0, none⟩) M M] w fun e w' => e = .returned (.bool true) ∧ Below L w w' := by
 obtain ⟨h, h1, h2, h3, h4, h5, h6⟩ := sep_rows hL H hlh hc M (Nat.le_refl _)
 refine ownedB_any w R L M M V (fun i => (E i).length) E T Z hL hM0 (by omega) (Nat.le_refl _) ⟨lt_of_heap hR, fun i hi => (cell_block hR).trans (hcv i hi), fun i hi => (H i hi).own.mono (hlh i hi).1, fun i hi => ⟨rfl, (H i hi).len.symm, (H i hi).rlen.trans (H i hi).len.symm⟩, fun i hi => ?_, fun i hi j a b c => TyO.mono (hlh i hi).1 _ _ _ _ ((H i hi).each j a b c), h1.up h3, fun i hi p hp => ?_, fun i j g hi hj e1 e2 => ?_, fun i hi => (H i hi).notR hR, by omega, h6⟩
 ·have := (H i hi).num.1
  have := (H i hi).len
  omega
 ·obtain ⟨k, hk, hpk⟩ := zAll_of Z hp
  by_cases q : k = i
  ·subst q
   exact (H k hk).away p hpk
  ·intro e
   obtain ⟨g, a1, a2, a3⟩ := (H k hk).sep.1 p hpk
   have := (H i hi).row g (by rw [← e, a1])
   rcases Nat.lt_or_gt_of_ne q with q | q
   ·have := hc k i q hi; omega
   ·have := hc i k q hk; omega
 ·have a := (H i hi).row g e1
  have b := (H j hj).row g e2
  rcases Nat.lt_trichotomy i j with q | q | q
  ·have := hc i j q hj; omega
  ·exact q
  ·have := hc j i q hi; omega
end Go.Proofs.YtikpipenhamdbaaGreat

namespace Go.Proofs.YtikpipenhamdbaaGreat
open Go.RowKit

def five {α : Type} (a b c d e : α) : Nat → α
 | 0 => a
 | 1 => b
 | 2 => c
 | 3 => d
 | _ => e
theorem five_all {P : Nat → Prop} (h0 : P 0) (h1 : P 1) (h2 : P 2) (h3 : P 3) (h4 : P 4) : ∀ i, i < 5 → P i := fun i hi => by
 obtain h | h | h | h | h : i = 0 ∨ i = 1 ∨ i = 2 ∨ i = 3 ∨ i = 4 := by omega
 ·rw [h]; exact h0
 ·rw [h]; exact h1
 ·rw [h]; exact h2
 ·rw [h]; exact h3
 ·rw [h]; exact h4
theorem owned_five {w W : World} {L l1 h1 l2 h2 l3 h3 l4 h4 l5 h5 : Nat} {v1 v2 v3 v4 v5 : Value} {e1 e2 e3 e4 e5 : List Bl4} {b1 b2 b3 b4 b5 : List Bd} {r1 r2 r3 r4 r5 : List (List (Value × Nat))}
  (H1 : Rx w l1 h1 v1 e1 b1 r1) (H2 : Rx w l2 h2 v2 e2 b2 r2) (H3 : Rx w l3 h3 v3 e3 b3 r3) (H4 : Rx w l4 h4 v4 e4 b4 r4) (H5 : Rx w l5 h5 v5 e5 b5 r5)
  (k0 : L ≤ l1) (k1 : l1 ≤ h1) (k2 : h1 ≤ l2) (k3 : l2 ≤ h2) (k4 : h2 ≤ l3) (k5 : l3 ≤ h3) (k6 : h3 ≤ l4) (k7 : l4 ≤ h4) (k8 : h4 ≤ l5) (k9 : l5 ≤ h5) (hW : W = w.alloc (Obj.cells #[v1, v2, v3, v4, v5] 23)) :
  Calls Tryz.prog 15 #[.slice (some ⟨w.heap.size, 0, none⟩) 5 5] W fun e w' => e = .returned (.bool true) ∧ Below L W w' := by
 have hb : Below w.heap.size w W := by rw [hW]; exact (Below.refl _ _).alloc (Nat.le_refl _) _
 have hR : W.heap[w.heap.size]? = some (.cells #[v1, v2, v3, v4, v5] 23 (0, 0)) := by rw [hW]; exact heap_alloc_new _ _
 have up : ∀ {lo hi : Nat} {v : Value} {es : List Bl4} {bs : List Bd} {rss : List (List (Value × Nat))}, Rx w lo hi v es bs rss → Rx W lo hi v es bs rss := fun h => h.on (fun g _ hg => hb.block g (Nat.lt_of_lt_of_le hg h.hi)) hb.size
 have hh := H5.hi
 have hs := hb.size
 refine owned_chain W w.heap.size L 5 (five l1 l2 l3 l4 l5) (five h1 h2 h3 h4 h5) (five v1 v2 v3 v4 v5) (five e1 e2 e3 e4 e5) (five b1 b2 b3 b4 b5) (five r1 r2 r3 r4 r5) (by omega) (by omega) (by omega) (five_all (up H1) (up H2) (up H3) (up H4) (up H5)) ?_ ?_ _ _ hR (five_all rfl rfl rfl rfl rfl)
 ·refine five_all ?_ ?_ ?_ ?_ ?_ <;> simp only [five] <;> omega
 ·intro i j hij hj
  revert i
  revert j
  refine five_all ?_ ?_ ?_ ?_ ?_
  all_goals
   intro i hi
   obtain q | q | q | q | q : i = 0 ∨ i = 1 ∨ i = 2 ∨ i = 3 ∨ 4 ≤ i := by omega
   all_goals
    first
     | omega
     | (subst q; simp only [five]; omega)
end Go.Proofs.YtikpipenhamdbaaGreat
