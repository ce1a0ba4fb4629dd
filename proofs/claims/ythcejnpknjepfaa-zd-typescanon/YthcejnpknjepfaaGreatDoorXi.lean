/- The reference's reading of a type: contract of read. -/
import Derived.Test.YthcejnpknjepfaaGreatDoorXh
namespace Go.Proofs.YthcejnpknjepfaaGreatDoor
open Go.RowKit

theorem leaf_no {l : List UInt8} (hb : begB [40] l = false) (h : leafT (wordL l) = none) : RdNo l := by
  intro d t r hf hl hE
  obtain ⟨h1, h2, h3⟩ := leaf_none h
  rcases text_kinds hf with lt | ⟨q, e⟩
  · have hw : wordL l = textT d t := by rw [hl]; exact word_of lt.2.1 (hE lt)
    rw [hw] at h1 h2 h3
    rcases lt.2.2 with ⟨e, _⟩ | ⟨e, _⟩ | ⟨e, _⟩
    · exact h1 e
    · rw [h2] at e; cases e
    · rw [h3] at e; cases e
  · rw [hl, e] at hb
    simp [begB] at hb
theorem leaf_at (w : World) (S : Nat → Prop) {k : Int} {n : List UInt8} (hn : n.length < 140737488355328) (m : Nat) : TyS w S (m + 1) (.agg #[.int .i64 k, strV n, .slice none 0 0]) ((k, n), []) := ⟨.slice none 0 0, rfl, hn, by simp, .inl ⟨rfl, none, 0, rfl⟩⟩
theorem leaf_refd {n : List UInt8} {k : Int} {q : List UInt8} (h : leafT n = some (k, q)) (m : Nat) : formB (m + 1) ((k, q), []) = true ∧ textT (m + 1) ((k, q), []) = n := leaf_form h
/-- The place of the result, laid first. -/
theorem res_at (w : World) : ∃ W0, W0 = w.alloc (Obj.cells #[.int .i64 0, .string ⟨#[]⟩, .slice none 0 0] 24) ∧ Below w.heap.size w W0 ∧ W0.heap.size = w.heap.size + 1 ∧ ∀ U, Below W0.heap.size W0 U → U.heap[w.heap.size]? = some (.cells #[.int .i64 0, .string ⟨#[]⟩, .slice none 0 0] 24 (0, 0)) ∧ Below w.heap.size w U := by
  have hb := (Below.refl w.heap.size w).alloc (Nat.le_refl _) (Obj.cells #[.int .i64 0, .string ⟨#[]⟩, .slice none 0 0] 24)
  have hs : (w.alloc (Obj.cells #[.int .i64 0, .string ⟨#[]⟩, .slice none 0 0] 24)).heap.size = w.heap.size + 1 := by simp
  refine ⟨_, rfl, hb, hs, fun U hU => ⟨?_, hb.trans (hU.mono (by omega))⟩⟩
  rw [hU.block _ (by omega)]
  show (w.heap.push _)[w.heap.size]? = _
  simp
theorem rs_open {s : ByteArray} {k : Nat} (hb : begB [40] (rs s k) = true) : k < s.size ∧ rs s k = 40 :: rs s (k + 1) := by
  obtain ⟨q, hq⟩ := beg_one hb
  have hl := rs_len s k
  have hlt : k < s.size := by rw [hq] at hl; simp at hl; omega
  refine ⟨hlt, ?_⟩
  rw [rs_cons hlt] at hq ⊢
  rw [(List.cons.inj hq).1]
theorem rs_after {s : ByteArray} {k : Nat} {a r : List UInt8} (h : rs s k = a ++ r) : rs s (k + a.length) = r ∧ (k ≤ s.size → k + a.length ≤ s.size) := by
  have h1 := rs_len s k
  rw [h, List.length_append] at h1
  exact ⟨by rw [← rs_drop, h, List.drop_left], fun hk => by omega⟩
/-- The word behind a bracket, and what stands behind that. -/
theorem word_at (s : ByteArray) (k : Nat) (hk : k ≤ s.size) : rs s k = wordL (rs s k) ++ rs s (k + (wordL (rs s k)).length) ∧ (∀ c ∈ wordL (rs s k), endB c = false) ∧ Ends (rs s (k + (wordL (rs s k)).length)) ∧ k + (wordL (rs s k)).length ≤ s.size := by
  obtain ⟨r, e, hP, hE⟩ := word_split (rs s k)
  obtain ⟨h1, h2⟩ := rs_after e
  rw [h1]
  exact ⟨e, hP, hE, h2 hk⟩
theorem six_refd {w : World} {b : Nat} {c0 c1 c2 c3 c4 c5 : Value} {t : TypeId} {fr : Nat × Nat} (h : w.heap[b]? = some (.cells #[c0, c1, c2, c3, c4, c5] t fr)) : w.cell? ⟨b, 0, none⟩ = some c0 ∧ w.cell? ⟨b, 1, none⟩ = some c1 ∧ w.cell? ⟨b, 2, none⟩ = some c2 ∧ w.cell? ⟨b, 3, none⟩ = some c3 ∧ w.cell? ⟨b, 4, none⟩ = some c4 ∧ w.cell? ⟨b, 5, none⟩ = some c5 := by
  refine ⟨?_, ?_, ?_, ?_, ?_, ?_⟩ <;> (simp only [World.cell?, h]; rfl)
/-- A function's type of two that were read, in a row of its own. -/
theorem fun_at {w : World} {S : Nat → Prop} {m g : Nat} {ka kb : Int} {na nb : ByteArray} {ua ub : Value} {a b : Tn m} {t : TypeId} (hg : S g) (h : w.heap[g]? = some (.cells #[.int .i64 ka, .string na, ua, .int .i64 kb, .string nb, ub] t (0, 0)))
    (ha : TyS w S m (.agg #[.int .i64 ka, .string na, ua]) a) (hb : TyS w S m (.agg #[.int .i64 kb, .string nb, ub]) b) : TyS w S (m + 1) (.agg #[.int .i64 3, .string ⟨#[]⟩, .slice (some ⟨g, 0, none⟩) 2 2]) ((3, []), [a, b]) := by
  obtain ⟨h0, h1, h2, h3, h4, h5⟩ := six_refd h
  refine ⟨_, rfl, by simp, by simp, .inr ⟨g, 0, 2, rfl, by simp, by simp, hg, fun j hj => ?_⟩⟩
  match j, hj with
  | 0, _ => exact ⟨ka, na, ua, h0, h1, h2, ha⟩
  | 1, _ => exact ⟨kb, nb, ub, h3, h4, h5, hb⟩
end Go.Proofs.YthcejnpknjepfaaGreatDoor
