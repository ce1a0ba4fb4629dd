/- Rows of bounds that are one family: blocks whose cells bear one mark up to a length; what an append of marks does to them. What holds of memory between the steps of ownedBounds. -/
import Derived.Test.YthcejnpknjepfaaGreatSo
import Derived.Test.YthcejnpknjepfaaGreatCv
import Derived.Test.YthcejnpknjepfaaGreatMkx
namespace Go.Proofs.YthcejnpknjepfaaGreat
open Go.RowKit

/-- The cells of so many marks. -/
def mkB (i : Nat) : Nat → List Value
  | 0 => []
  | m + 1 => [.string ⟨#[]⟩, mkV i, .string ⟨#[]⟩, .slice none 0 0] ++ mkB i m
theorem mkB_len (i m : Nat) : (mkB i m).length = m * 4 := by
  induction m with
  | zero => rfl
  | succ m ih => simp [mkB, ih]; omega
theorem mkB_at (i : Nat) : ∀ (m q : Nat), q < m → (mkB i m)[q * 4 + 1]? = some (mkV i)
  | m + 1, 0, _ => rfl
  | m + 1, q + 1, h => by
    have := mkB_at i m q (by omega)
    rw [mkB, List.getElem?_append_right (by simp; omega)]
    simpa [show (q + 1) * 4 + 1 - 4 = q * 4 + 1 by omega] using this
theorem mkB_one (i m : Nat) : ∀ u ∈ mkB i m, u.oneCell' = true := by
  induction m with
  | zero => intro u hu; cases hu
  | succ m ih =>
    intro u hu
    rw [mkB, List.mem_append] at hu
    rcases hu with hu | hu
    · simp at hu
      rcases hu with rfl | rfl | rfl | rfl <;> rfl
    · exact ih u hu

structure InvB (lo : Nat) (W : World) (f : Fm) : Prop where
  uniq : ∀ g i j, f.D g i → f.D g j → i = j
  lo : ∀ g i, f.D g i → lo ≤ g
  lt : ∀ g i, f.D g i → g < W.heap.size
  mc : ∀ g i, f.D g i → f.M g ≤ f.C g
  cmax : ∀ g i, f.D g i → f.C g ≤ maxLen
  there : ∀ g i, f.D g i → ∀ x, x < f.C g * 4 → (W.cell? ⟨g, x, none⟩).isSome = true
  free : ∀ g i, f.D g i → ∀ x, W.frozen? ⟨g, x, none⟩ = false
  mark : ∀ g i, f.D g i → ∀ j, j < f.M g → W.cell? ⟨g, j * 4 + 1, none⟩ = some (mkV i)

theorem InvB.keep {lo : Nat} {W W' : World} {f : Fm} (h : InvB lo W f) (hb : ∀ k i, f.D k i → W'.heap[k]? = W.heap[k]?) (hs : W.heap.size ≤ W'.heap.size) : InvB lo W' f where
  uniq := h.uniq
  lo := h.lo
  lt := fun g i hd => Nat.lt_of_lt_of_le (h.lt g i hd) hs
  mc := h.mc
  cmax := h.cmax
  there := fun g i hd x hx => by rw [World.cell?_of_block (a := ⟨g, x, none⟩) (hb g i hd)]; exact h.there g i hd x hx
  free := fun g i hd x => by rw [World.frozen?_of_block (a := ⟨g, x, none⟩) (hb g i hd)]; exact h.free g i hd x
  mark := fun g i hd j hj => by rw [World.cell?_of_block (a := ⟨g, j * 4 + 1, none⟩) (hb g i hd)]; exact h.mark g i hd j hj
theorem InvB.below {lo : Nat} {W W' : World} {f : Fm} (h : InvB lo W f) (hb : Below W.heap.size W W') : InvB lo W' f := h.keep (fun k i hd => hb.block k (h.lt k i hd)) hb.size

theorem InvB.add {lo : Nat} {W' : World} {f : Fm} {g i m c : Nat} (h : InvB lo W' f) (hg : ∀ i, ¬ f.D g i) (hlo : lo ≤ g) (hlt : g < W'.heap.size) (hmc : m ≤ c) (hc : c ≤ maxLen) (ht : ∀ x, x < c * 4 → (W'.cell? ⟨g, x, none⟩).isSome = true) (hf : ∀ x, W'.frozen? ⟨g, x, none⟩ = false) (hm : ∀ j, j < m → W'.cell? ⟨g, j * 4 + 1, none⟩ = some (mkV i)) : InvB lo W' (f.add g i m c) := by
  have ne : ∀ k j, f.D k j → k ≠ g := fun k j hd e => hg j (e ▸ hd)
  constructor
  · rintro k a b (ha | ⟨rfl, rfl⟩) (hb | ⟨e, rfl⟩)
    · exact h.uniq k a b ha hb
    · exact absurd e (ne _ _ ha)
    · exact absurd rfl (ne _ _ hb)
    · rfl
  · rintro k a (ha | ⟨rfl, rfl⟩)
    · exact h.lo k a ha
    · exact hlo
  · rintro k a (ha | ⟨rfl, rfl⟩)
    · exact h.lt k a ha
    · exact hlt
  · rintro k a (ha | ⟨rfl, rfl⟩)
    · simp [Fm.add, ne _ _ ha]; exact h.mc k a ha
    · simp [Fm.add]; exact hmc
  · rintro k a (ha | ⟨rfl, rfl⟩)
    · simp [Fm.add, ne _ _ ha]; exact h.cmax k a ha
    · simp [Fm.add]; exact hc
  · rintro k a (ha | ⟨rfl, rfl⟩) x hx
    · simp [Fm.add, ne _ _ ha] at hx; exact h.there k a ha x hx
    · simp [Fm.add] at hx; exact ht x hx
  · rintro k a (ha | ⟨rfl, rfl⟩) x
    · exact h.free k a ha x
    · exact hf x
  · rintro k a (ha | ⟨rfl, rfl⟩) j hj
    · simp [Fm.add, ne _ _ ha] at hj; exact h.mark k a ha j hj
    · simp [Fm.add] at hj; exact hm j hj

theorem famB_append (lo : Nat) (W : World) (f : Fm) (i n m b : Nat) (v : Value) (ty : TypeId) (fr : Nat × Nat) (hI : InvB lo W f) (hlo : lo ≤ W.heap.size) (hv : Val f i v n) (hb : W.heap[b]? = some (.cells (mkB i m).toArray 47 fr)) (hm : 0 < m) (hm9 : m ≤ 9) (hn : n ≤ 30000) :
    ∃ v' W' f', (Builtin.append_ #[36, 36] ty #[v, .slice (some ⟨b, 0, none⟩) m m]).run Tryz.prog W = .ok v' W' ∧ InvB lo W' f' ∧ Val f' i v' (n + m) ∧ (∀ j u k, Val f j u k → Val f' j u k) ∧ Off f W f' W' := by
  obtain ⟨i0, hi, hz0, hz1, hz2⟩ := info_parts Tryz.infoB47
  have hnews := World.news_of_block hb
  have hnl := mkB_len i m
  have grow : ∀ (xs : List Value) (v' : Value) (W' : World), xs.length = n * 4 → (∀ j, j < n → xs[j * 4 + 1]? = some (mkV i)) → W'.ownsRow W.heap.size 47 4 v' (n + m) (xs ++ mkB i m) → W.grownBy W' none →
      ∃ f', InvB lo W' f' ∧ Val f' i v' (n + m) ∧ (∀ j u k, Val f j u k → Val f' j u k) ∧ Off f W f' W' := by
    intro xs v' W' hxl hx hown hgr
    obtain ⟨g, cap, rfl, hg, hlt⟩ := hown.form (by omega)
    have nd : ∀ j, ¬ f.D g j := fun j hd => by have := hI.lt g j hd; omega
    rcases hown.2 with ⟨h', _⟩ | ⟨g', cap', cur, h', _, hgg, hnc, hcm, hcs, htk⟩
    · simp at h'
    simp only [Value.slice.injEq, Option.some.injEq, Addr.mk.injEq, and_true, true_and] at h'
    obtain ⟨rfl, rfl⟩ := h'
    refine ⟨f.add g i (n + m) cap, ?_, ?_, fun j u k h => h.add nd, ?_⟩
    · refine InvB.add (hI.keep (fun k j hd => hgr.block k (hI.lt k j hd) (by simp)) hgr.size) nd (by omega) hlt hnc hcm (fun x hx => ?_) (fun x => ?_) (fun j hj => ?_)
      · rw [cell_block hgg, Array.getElem?_eq_getElem (by omega)]
        rfl
      · exact frozen_block hgg
      · rw [hown.cellAt (j * 4 + 1) (by omega)]
        by_cases hjn : j < n
        · rw [List.getElem?_append_left (by omega)]
          exact hx j hjn
        · rw [List.getElem?_append_right (by omega), hxl, show j * 4 + 1 - n * 4 = (j - n) * 4 + 1 by omega]
          exact mkB_at i m (j - n) (by omega)
    · exact .inr ⟨g, by simp [Fm.add], .inr ⟨rfl, rfl⟩, by simp [Fm.add]⟩
    · refine ⟨hgr.os, hgr.tape, hgr.output, hgr.size, fun k hk hd => ⟨hgr.block k hk (by simp), ?_⟩⟩
      rintro j (h | ⟨e, _⟩)
      · exact hd j h
      · omega
  rcases hv with ⟨rfl, rfl⟩ | ⟨g, rfl, hd, hn2⟩
  · obtain ⟨g, cap, W', hr, hown, hgr, _, _⟩ := run_append_lies (P := Tryz.prog) W 36 ty W.heap.size 47 i0 _ 4 64 Tryz.underlying36 hi hz0 hz1 hz2 rfl (by decide) (.slice none 0 0) 0 [] (World.ownsRow_nil _ _ _ _) ⟨b, 0, none⟩ m m (mkB i m) hnl hnews (mkB_one i m) hm (by unfold maxLen; omega) (by omega) (Nat.le_refl _) _ rfl
    obtain ⟨f', h1, h2, h3, h4⟩ := grow [] _ W' rfl (fun j hj => by omega) hown hgr
    exact ⟨_, W', f', hr, h1, h2, h3, h4⟩
  · by_cases hroom : n + m ≤ f.C g
    · have hr := run_append_room_cells (P := Tryz.prog) W 36 ty 47 i0 Tryz.underlying36 hi g 0 n (f.C g) ⟨b, 0, none⟩ m m (mkB i m) (by rw [hz1]; exact hnl) hnews (mkB_one i m) hroom
        (fun j hj => by rw [hz1]; exact hI.there g i hd _ (by omega)) (fun j _ => hI.free g i hd _)
      rw [hz1, Nat.zero_add] at hr
      have hin := World.cell?_setCells_in g (mkB i m) (n * 4) W (fun j hj => hI.there g i hd _ (by omega))
      have hout := World.cell?_setCells_out g (mkB i m) (n * 4) W
      have hbel := Lib.below_setCells (a := W) g (Nat.le_refl _) (mkB i m) (n * 4) (Below.refl g W)
      have hother : ∀ k, k ≠ g → (W.setCells g (n * 4) (mkB i m)).heap[k]? = W.heap[k]? := by
        intro k hk
        have : ∀ (vs : List Value) (o : Nat) (w : World), (w.setCells g o vs).heap[k]? = w.heap[k]? := by
          intro vs
          induction vs with
          | nil => intro o w; rfl
          | cons u r ih =>
            intro o w
            rw [World.setCells, ih, Below.heap_setCell _ _ _ _ hk]
        exact this _ _ _
      have hne : ∀ k j x, f.D k j → k ≠ g → (W.setCells g (n * 4) (mkB i m)).cell? ⟨k, x, none⟩ = W.cell? ⟨k, x, none⟩ := fun k j x _ hk => World.cell?_of_block (a := ⟨k, x, none⟩) (hother k hk)
      refine ⟨_, _, f.more g (n + m), hr, ?_, .inr ⟨g, rfl, hd, ?_⟩, fun j u k h => h.more, ?_⟩
      · constructor
        · exact hI.uniq
        · exact hI.lo
        · intro k j hk
          exact Nat.lt_of_lt_of_le (hI.lt k j hk) hbel.size
        · intro k j hk
          simp only [Fm.more]
          have := hI.mc k j hk
          split
          · rename_i e; subst e; omega
          · exact this
        · exact hI.cmax
        · intro k j hk x hx
          by_cases e : k = g
          · subst e
            by_cases h1 : n * 4 ≤ x ∧ x < n * 4 + (mkB i m).length
            · obtain ⟨d, rfl⟩ : ∃ d, x = n * 4 + d := ⟨x - n * 4, by omega⟩
              rw [hin d (by omega)]
              rfl
            · rw [hout ⟨k, x, none⟩ (fun _ _ => by show x < n * 4 ∨ n * 4 + (mkB i m).length ≤ x; omega)]
              exact hI.there k j hk x hx
          · rw [hne k j x hk e]
            exact hI.there k j hk x hx
        · intro k j hk x
          rw [World.frozen?_setCells]
          exact hI.free k j hk x
        · intro k j hk q hq
          by_cases e : k = g
          · subst e
            obtain rfl := hI.uniq k j i hk hd
            by_cases h1 : n ≤ q ∧ q < n + m
            · have h2 := mkB_at j m (q - n) (by omega)
              have h3 : (q - n) * 4 + 1 < (mkB j m).length := by omega
              have h4 := hin ((q - n) * 4 + 1) h3
              rw [show n * 4 + ((q - n) * 4 + 1) = q * 4 + 1 by omega] at h4
              rw [h4]
              rw [List.getElem?_eq_getElem h3] at h2
              exact h2
            · rw [hout ⟨k, q * 4 + 1, none⟩ (fun _ _ => by show q * 4 + 1 < n * 4 ∨ n * 4 + (mkB j m).length ≤ q * 4 + 1; omega)]
              refine hI.mark k j hk q ?_
              simp [Fm.more] at hq
              omega
          · rw [hne k j _ hk e]
            refine hI.mark k j hk q ?_
            simp [Fm.more, e] at hq
            exact hq
      · simp [Fm.more]
        omega
      · refine ⟨hbel.os, hbel.tape, hbel.output, hbel.size, fun k hk hnd => ⟨hother k (fun e => hnd i (e ▸ hd)), hnd⟩⟩
    · have hmc := hI.mc g i hd
      obtain ⟨v', W', hr, hown, hgr⟩ := run_append_arg_grows (P := Tryz.prog) W 36 ty 47 i0 _ 4 64 Tryz.underlying36 hi hz0 hz1 hz2 rfl (by decide) ⟨g, 0, none⟩ n (f.C g) ((List.range (n * 4)).map fun x => (W.cell? ⟨g, x, none⟩).getD undef) (by simp)
        (fun j u hj => by
          rw [List.getElem?_map] at hj
          obtain ⟨x, hx, rfl⟩ := Option.map_eq_some_iff.1 hj
          have hlt := (List.getElem?_eq_some_iff.1 hx).1
          simp at hlt
          simp [hlt] at hx
          subst hx
          have hadd : (⟨g, 0, none⟩ : Addr).add j = ⟨g, j, none⟩ := by unfold Addr.add; split <;> simp_all
          rw [hadd]
          obtain ⟨u, hu⟩ := Option.isSome_iff_exists.1 (hI.there g i hd j (by omega))
          rw [hu]
          rfl)
        ⟨b, 0, none⟩ m m (mkB i m) hnl hnews (by omega) (by unfold maxLen; omega) (by omega)
      obtain ⟨f', h1, h2, h3, h4⟩ := grow _ v' W' (by simp) (fun j hj => by
        rw [List.getElem?_map, List.getElem?_range (by omega)]
        simp only [Option.map_some]
        rw [hI.mark g i hd j (by omega)]
        rfl) hown hgr
      exact ⟨v', W', f', hr, h1, h2, h3, h4⟩
end Go.Proofs.YthcejnpknjepfaaGreat

namespace Go.Proofs.YthcejnpknjepfaaGreat
open Go.RowKit

/-- All but the rows' own blocks stays. -/
structure Kp (S : Nat → Prop) (w W : World) : Prop where
  os : W.os = w.os
  tape : W.tape = w.tape
  output : W.output = w.output
  size : w.heap.size ≤ W.heap.size
  block : ∀ k, k < w.heap.size → ¬ S k → W.heap[k]? = w.heap[k]?
theorem Kp.below {S : Nat → Prop} {w W W' : World} (h : Kp S w W) (hb : Below W.heap.size W W') : Kp S w W' :=
  ⟨hb.os.trans h.os, hb.tape.trans h.tape, hb.output.trans h.output, Nat.le_trans h.size hb.size, fun k hk hn => (hb.block k (Nat.lt_of_lt_of_le hk h.size)).trans (h.block k hk hn)⟩
/-- While the rows are written full. -/
structure PbA (S : Nat → Prop) (w W : World) (lo R N : Nat) (V : Nat → Value) (n : Nat → Nat) (i : Nat) (f : Fm) : Prop where
  kp : Kp S w W
  inv : InvB 0 W f
  dS : ∀ k j, f.D k j → S k ∨ w.heap.size ≤ k
  row : ∀ a, a < N → W.cell? ⟨R, a, none⟩ = some (V a)
  notR : ∀ j, ¬ f.D R j
  done : ∀ a, a < i → Val f a (V a) (n a)
  raw : ∀ a, i ≤ a → a < N → (∃ xs, W.ownsRow lo 47 4 (V a) (n a) xs) ∧ ∀ g, (V a).ownBlock = some g → ∀ j, ¬ f.D g j

/-- While one row is written: this block alone changes. -/
structure PbB (W0 W : World) (g i cap k : Nat) : Prop where
  os : W.os = W0.os
  tape : W.tape = W0.tape
  output : W.output = W0.output
  size : W.heap.size = W0.heap.size
  other : ∀ b, b ≠ g → W.heap[b]? = W0.heap[b]?
  this : ∃ cur, W.heap[g]? = some (.cells cur 47 (0, 0)) ∧ cur.size = cap * 4 ∧ ∀ j, j < k → cur[j * 4 + 1]? = some (mkV i)

theorem PbB.step {W0 W : World} {g i cap k : Nat} (h : PbB W0 W g i cap k) (hk : k < cap) :
    PbB W0 ((((W.setCell ⟨g, k * 4, none⟩ (.string ⟨#[]⟩)).setCell ⟨g, k * 4 + 1, none⟩ (mkV i)).setCell ⟨g, k * 4 + 2, none⟩ (.string ⟨#[]⟩)).setCell ⟨g, k * 4 + 3, none⟩ (.slice none 0 0)) g i cap (k + 1) := by
  obtain ⟨cur, h1, h2, h3⟩ := h.this
  refine ⟨h.os, h.tape, h.output, by simpa using h.size, fun b hb => ?_, ?_⟩
  · rw [Below.heap_setCell _ _ _ _ hb, Below.heap_setCell _ _ _ _ hb, Below.heap_setCell _ _ _ _ hb, Below.heap_setCell _ _ _ _ hb]
    exact h.other b hb
  · refine ⟨_, setCell_block (setCell_block (setCell_block (setCell_block h1))), by simpa using h2, fun j hj => ?_⟩
    rw [Array.getElem?_setIfInBounds_ne (by omega), Array.getElem?_setIfInBounds_ne (by omega)]
    by_cases e : j = k
    · subst e
      rw [Array.getElem?_setIfInBounds_self_of_lt (by simp; omega)]
    · rw [Array.getElem?_setIfInBounds_ne (by omega), Array.getElem?_setIfInBounds_ne (by omega)]
      exact h3 j (by omega)

theorem PbA.next {S : Nat → Prop} {w W0 W : World} {lo R N : Nat} {V : Nat → Value} {n : Nat → Nat} {i : Nat} {f : Fm} {g cap : Nat} (h : PbA S w W0 lo R N V n i f) (hi : i < N) (hv : V i = .slice (some ⟨g, 0, none⟩) (n i) cap) (hS : S g) (hgR : g ≠ R) (hnc : n i ≤ cap) (hcm : cap ≤ maxLen) (hb : PbB W0 W g i cap (n i))
    (hdis : ∀ a, i < a → a < N → (V a).ownBlock ≠ some g) : PbA S w W lo R N V n (i + 1) (f.add g i (n i) cap) := by
  obtain ⟨cur, h1, h2, h3⟩ := hb.this
  have nd : ∀ j, ¬ f.D g j := (h.raw i (Nat.le_refl _) hi).2 g (by rw [hv]; rfl)
  have glt : g < W.heap.size := heap_lt h1
  refine ⟨?_, ?_, ?_, ?_, ?_, ?_, ?_⟩
  · refine ⟨hb.os.trans h.kp.os, hb.tape.trans h.kp.tape, hb.output.trans h.kp.output, by rw [hb.size]; exact h.kp.size, fun k hk hn => ?_⟩
    rw [hb.other k (fun e => hn (e ▸ hS))]
    exact h.kp.block k hk hn
  · refine InvB.add (h.inv.keep (fun k j hd => hb.other k (fun e => nd j (e ▸ hd))) (by rw [hb.size]; exact Nat.le_refl _)) nd (Nat.zero_le _) glt hnc hcm (fun x hx => ?_) (fun x => frozen_block h1) (fun j hj => ?_)
    · rw [cell_block h1, Array.getElem?_eq_getElem (by omega)]
      rfl
    · rw [cell_block h1]
      exact h3 j hj
  · rintro k j (hd | ⟨rfl, _⟩)
    · exact h.dS k j hd
    · exact .inl hS
  · intro a ha
    rw [World.cell?_of_block (a := ⟨R, a, none⟩) (hb.other R (Ne.symm hgR))]
    exact h.row a ha
  · rintro j (hd | ⟨e, _⟩)
    · exact h.notR j hd
    · exact hgR e.symm
  · intro a ha
    by_cases e : a = i
    · subst e
      exact .inr ⟨g, by rw [hv]; simp [Fm.add], .inr ⟨rfl, rfl⟩, by simp [Fm.add]⟩
    · exact (h.done a (by omega)).add nd
  · intro a ha ha4
    obtain ⟨⟨xs, hx⟩, hd⟩ := h.raw a (by omega) ha4
    have hne := hdis a (by omega) ha4
    refine ⟨⟨xs, hx.1, ?_⟩, ?_⟩
    · rcases hx.2 with h0 | ⟨g', cap', cur', e, hg', hgg, rest⟩
      · exact .inl h0
      · refine .inr ⟨g', cap', cur', e, hg', ?_, rest⟩
        rw [hb.other g' (fun e' => hne (by rw [e, e']; rfl))]
        exact hgg
    · rintro g' hg' j (hd' | ⟨e, _⟩)
      · exact hd g' hg' j hd'
      · exact hne (by rw [hg', e])

theorem PbA.skip {S : Nat → Prop} {w W : World} {lo R N : Nat} {V : Nat → Value} {n : Nat → Nat} {i : Nat} {f : Fm} (h : PbA S w W lo R N V n i f) (hv : V i = .slice none 0 0) (hn : n i = 0) : PbA S w W lo R N V n (i + 1) f :=
  ⟨h.kp, h.inv, h.dS, h.row, h.notR, fun a ha => by
    by_cases e : a = i
    · subst e; exact .inl ⟨hv, hn⟩
    · exact h.done a (by omega), fun a ha h4 => h.raw a (by omega) h4⟩

/-- While the rows are grown: all that was grown (gv, so many: c), whose it is (wv, so many: c2). -/
structure PbC (S : Nat → Prop) (w W : World) (R N : Nat) (V : Nat → Value) (n : Nat → Nat) (c c2 : Nat) (f : Fm) (gv wv : Value) (L : List Value) : Prop where
  kp : Kp S w W
  inv : InvB 0 W f
  dS : ∀ k j, f.D k j → S k ∨ w.heap.size ≤ k
  row : ∀ a, a < N → W.cell? ⟨R, a, none⟩ = some (V a)
  notR : ∀ j, ¬ f.D R j
  vals : ∀ a, a < N → Val f a (V a) (n a)
  len : L.length = c
  each : ∀ q, q < c → ∃ m u, m ≤ 30000 ∧ L[q]? = some u ∧ Val f (q / 9) u m
  own : W.ownsRow w.heap.size 36 1 gv c L
  ownD : ∀ k, gv.ownBlock = some k → ∀ j, ¬ f.D k j
  own2 : W.ownsRow w.heap.size 3 1 wv c2 ((List.range c2).map fun q => .int .i64 ((q / 9 : Nat) : Int))
  ownD2 : ∀ k, wv.ownBlock = some k → ∀ j, ¬ f.D k j
  apart : ∀ k, gv.ownBlock = some k → wv.ownBlock ≠ some k
section
variable {S : Nat → Prop} {w W W' : World} {R N : Nat} {V : Nat → Value} {n : Nat → Nat} {c c2 : Nat} {f f' : Fm} {gv wv : Value} {L : List Value}
theorem PbC.below (h : PbC S w W R N V n c c2 f gv wv L) (hb : Below W.heap.size W W') (hR : R < w.heap.size) : PbC S w W' R N V n c c2 f gv wv L :=
  ⟨h.kp.below hb, h.inv.below hb, h.dS, fun a ha => (hb.cell (p := ⟨R, a, none⟩) (Nat.lt_of_lt_of_le hR h.kp.size)).trans (h.row a ha), h.notR, h.vals, h.len, h.each, own_stay h.own hb, h.ownD, own_stay h.own2 hb, h.ownD2, h.apart⟩
/-- Behind an append to one of the families. -/
theorem PbC.fam (h : PbC S w W R N V n c c2 f gv wv L) (hR : R < w.heap.size) (hI : InvB 0 W' f') (hext : ∀ j u k, Val f j u k → Val f' j u k) (hoff : Off f W f' W') : PbC S w W' R N V n c c2 f' gv wv L := by
  have hRW : R < W.heap.size := Nat.lt_of_lt_of_le hR h.kp.size
  obtain ⟨r1, r2⟩ := hoff.block R hRW h.notR
  have hks := h.kp.size
  refine ⟨?_, hI, ?_, ?_, r2, fun a ha => hext _ _ _ (h.vals a ha), h.len, ?_, ?_, ?_, ?_, ?_, h.apart⟩
  · refine ⟨hoff.os.trans h.kp.os, hoff.tape.trans h.kp.tape, hoff.output.trans h.kp.output, Nat.le_trans hks hoff.size, fun k hk hn => ?_⟩
    exact (hoff.block k (by omega) fun j hd => by
      rcases h.dS k j hd with h1 | h1
      · exact hn h1
      · omega).1.trans (h.kp.block k hk hn)
  · intro k j hd
    by_cases hk : w.heap.size ≤ k
    · exact .inr hk
    · by_cases hn : S k
      · exact .inl hn
      · exact absurd hd ((hoff.block k (by omega) fun j hd => by
          rcases h.dS k j hd with h1 | h1
          · exact hn h1
          · omega).2 j)
  · intro a ha
    rw [World.cell?_of_block (a := ⟨R, a, none⟩) r1]
    exact h.row a ha
  · intro q hq
    obtain ⟨m, u, h1, h2, h3⟩ := h.each q hq
    exact ⟨m, u, h1, h2, hext _ _ _ h3⟩
  · exact own_keep h.own fun k hk => (hoff.block k (h.own.lt k hk).2 (h.ownD k hk)).1
  · exact fun k hk => (hoff.block k (h.own.lt k hk).2 (h.ownD k hk)).2
  · exact own_keep h.own2 fun k hk => (hoff.block k (h.own2.lt k hk).2 (h.ownD2 k hk)).1
  · exact fun k hk => (hoff.block k (h.own2.lt k hk).2 (h.ownD2 k hk)).2
/-- Behind an append to what was grown. -/
theorem PbC.put (h : PbC S w W R N V n c c2 f gv wv L) (hR : R < w.heap.size) {o : Obj} {g' cap' m : Nat} {v' : Value} (hv : Val f (c / 9) v' m) (hm : m ≤ 30000)
    (hown : W'.ownsRow w.heap.size 36 1 (.slice (some ⟨g', 0, none⟩) (c + 1) cap') (c + 1) (L ++ [v'])) (hgr : (W.alloc o).grownBy W' gv.ownBlock) (hat : gv.ownBlock = some g' ∨ g' = W.heap.size + 1) :
    PbC S w W' R N V n (c + 1) c2 f (.slice (some ⟨g', 0, none⟩) (c + 1) cap') wv (L ++ [v']) := by
  have hs : W.heap.size ≤ W'.heap.size := by have := hgr.size; simp at this; omega
  have keep : ∀ b, b < W.heap.size → gv.ownBlock ≠ some b → W'.heap[b]? = W.heap[b]? := fun b hb hne => by
    rw [hgr.block b (by simp; omega) (Ne.symm hne)]
    exact Below.heap_alloc _ _ _ hb
  have hRW : R < W.heap.size := Nat.lt_of_lt_of_le hR h.kp.size
  have hgR : gv.ownBlock ≠ some R := fun e => by have := (h.own.lt R e).1; omega
  have hks := h.kp.size
  refine ⟨?_, ?_, h.dS, ?_, h.notR, h.vals, by simp [h.len], ?_, hown, ?_, ?_, h.ownD2, ?_⟩
  · exact ⟨hgr.os.trans h.kp.os, hgr.tape.trans h.kp.tape, hgr.output.trans h.kp.output, Nat.le_trans hks hs, fun k hk hn => (keep k (by omega) fun e => by have := (h.own.lt k e).1; omega).trans (h.kp.block k hk hn)⟩
  · exact h.inv.keep (fun k j hd => keep k (h.inv.lt k j hd) fun e => h.ownD k e j hd) hs
  · intro a ha
    rw [World.cell?_of_block (a := ⟨R, a, none⟩) (keep R hRW hgR)]
    exact h.row a ha
  · intro q hq
    by_cases e : q = c
    · subst e
      refine ⟨m, v', hm, ?_, hv⟩
      rw [List.getElem?_append_right (by rw [h.len]; omega), h.len]
      simp
    · obtain ⟨m', u, h1, h2, h3⟩ := h.each q (by omega)
      refine ⟨m', u, h1, ?_, h3⟩
      rw [List.getElem?_append_left (by rw [h.len]; omega)]
      exact h2
  · intro k hk j hd
    have e' : g' = k := by simpa [Value.ownBlock] using hk
    subst e'
    rcases hat with hat | hat
    · exact h.ownD g' hat j hd
    · have := h.inv.lt g' j hd
      omega
  · refine own_keep h.own2 fun k hk => keep k (h.own2.lt k hk).2 fun e => h.apart k e hk
  · intro k hk
    have e' : g' = k := by simpa [Value.ownBlock] using hk
    subst e'
    rcases hat with hat | hat
    · exact h.apart g' hat
    · intro e
      have := (h.own2.lt g' e).2
      omega
/-- Behind an append to the list that says whose it is. -/
theorem PbC.put2 (h : PbC S w W R N V n c c2 f gv wv L) (hR : R < w.heap.size) {o : Obj} {g' cap' : Nat}
    (hown : W'.ownsRow w.heap.size 3 1 (.slice (some ⟨g', 0, none⟩) (c2 + 1) cap') (c2 + 1) ((List.range c2).map (fun q => (.int .i64 ((q / 9 : Nat) : Int) : Value)) ++ [.int .i64 ((c2 / 9 : Nat) : Int)])) (hgr : (W.alloc o).grownBy W' wv.ownBlock) (hat : wv.ownBlock = some g' ∨ g' = W.heap.size + 1) :
    PbC S w W' R N V n c (c2 + 1) f gv (.slice (some ⟨g', 0, none⟩) (c2 + 1) cap') L := by
  have hs : W.heap.size ≤ W'.heap.size := by have := hgr.size; simp at this; omega
  have keep : ∀ b, b < W.heap.size → wv.ownBlock ≠ some b → W'.heap[b]? = W.heap[b]? := fun b hb hne => by
    rw [hgr.block b (by simp; omega) (Ne.symm hne)]
    exact Below.heap_alloc _ _ _ hb
  have hRW : R < W.heap.size := Nat.lt_of_lt_of_le hR h.kp.size
  have hgR : wv.ownBlock ≠ some R := fun e => by have := (h.own2.lt R e).1; omega
  have hks := h.kp.size
  refine ⟨?_, ?_, h.dS, ?_, h.notR, h.vals, h.len, h.each, ?_, h.ownD, ?_, ?_, ?_⟩
  · exact ⟨hgr.os.trans h.kp.os, hgr.tape.trans h.kp.tape, hgr.output.trans h.kp.output, Nat.le_trans hks hs, fun k hk hn => (keep k (by omega) fun e => by have := (h.own2.lt k e).1; omega).trans (h.kp.block k hk hn)⟩
  · exact h.inv.keep (fun k j hd => keep k (h.inv.lt k j hd) fun e => h.ownD2 k e j hd) hs
  · intro a ha
    rw [World.cell?_of_block (a := ⟨R, a, none⟩) (keep R hRW hgR)]
    exact h.row a ha
  · refine own_keep h.own fun k hk => keep k (h.own.lt k hk).2 fun e => h.apart k hk e
  · rw [List.range_succ, List.map_append]
    exact hown
  · intro k hk j hd
    have e' : g' = k := by simpa [Value.ownBlock] using hk
    subst e'
    rcases hat with hat | hat
    · exact h.ownD2 g' hat j hd
    · have := h.inv.lt g' j hd
      omega
  · intro k hk e
    have e' : g' = k := by simpa [Value.ownBlock] using e
    subst e'
    rcases hat with hat | hat
    · exact h.apart g' hk hat
    · have := (h.own.lt g' hk).2
      omega
end
end Go.Proofs.YthcejnpknjepfaaGreat
