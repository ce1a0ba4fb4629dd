/- Rows of bounds that are one family: blocks whose cells bear one mark up to a length; what an append of marks does to them. What holds of memory between the steps of owned. What holds of memory between the steps of ownedBounds. Types that are their owner's, list by list; lists: all lists within a type. -/
import Derived.Test.YtikpipenhamdbaaGreatSo
import Derived.Test.YtikpipenhamdbaaGreatMaix
import Derived.Test.YtikpipenhamdbaaGreatMaxx
import Derived.Test.YtikpipenhamdbaaGreatOw
import Derived.Test.YtikpipenhamdbaaGreatMahx
import Derived.Test.YtikpipenhamdbaaGreatMafx
namespace Go.Proofs.YtikpipenhamdbaaGreat
open Go.RowKit

/-- The cells of so many marks. -/
def mkB (i : Nat) : Nat → List Value
 | 0 => []
 | m + 1 => [.string ⟨#[]⟩, mkV i, .string ⟨#[]⟩, .slice none 0 0] ++ mkB i m
theorem mkB_len (i m : Nat) : (mkB i m).length = m * 4 := by
 induction m with
 | zero => rfl
 | succ m ih => simp [mkB, ih]; omega
theorem mkB_at (i : Nat) : ∀ (m q : Nat), q < m → (mkB i m)[q * 4 + 1]? = some (mkV i)
 | m + 1, 0, _ => rfl
 | m + 1, q + 1, h => by
  have := mkB_at i m q (by omega)
  rw [mkB, List.getElem?_append_right (by simp; omega)]
  simpa [show (q + 1) * 4 + 1 - 4 = q * 4 + 1 by omega] using this
theorem mkB_one (i m : Nat) : ∀ u ∈ mkB i m, u.oneCell' = true := by
 induction m with
 | zero => intro u hu; cases hu
 | succ m ih =>
  intro u hu
  rw [mkB, List.mem_append] at hu
  rcases hu with hu | hu
  ·simp at hu
   rcases hu with rfl | rfl | rfl | rfl <;> rfl
  ·exact ih u hu

structure InvB (lo : Nat) (W : World) (f : Fm) : Prop where
 uniq : ∀ g i j, f.D g i → f.D g j → i = j
 lo : ∀ g i, f.D g i → lo ≤ g
 lt : ∀ g i, f.D g i → g < W.heap.size
 mc : ∀ g i, f.D g i → f.M g ≤ f.C g
 cmax : ∀ g i, f.D g i → f.C g ≤ maxLen
 there : ∀ g i, f.D g i → ∀ x, x < f.C g * 4 → (W.cell? ⟨g, x, none⟩).isSome = true
 free : ∀ g i, f.D g i → ∀ x, W.frozen? ⟨g, x, none⟩ = false
 mark : ∀ g i, f.D g i → ∀ j, j < f.M g → W.cell? ⟨g, j * 4 + 1, none⟩ = some (mkV i)

theorem InvB.keep {lo : Nat} {W W' : World} {f : Fm} (h : InvB lo W f) (hb : ∀ k i, f.D k i → W'.heap[k]? = W.heap[k]?) (hs : W.heap.size ≤ W'.heap.size) : InvB lo W' f where
 uniq := h.uniq
 lo := h.lo
 lt := fun g i hd => Nat.lt_of_lt_of_le (h.lt g i hd) hs
 mc := h.mc
 cmax := h.cmax
 there := fun g i hd x hx => by rw [World.cell?_of_block (a := ⟨g, x, none⟩) (hb g i hd)]; exact h.there g i hd x hx
 free := fun g i hd x => by rw [World.frozen?_of_block (a := ⟨g, x, none⟩) (hb g i hd)]; exact h.free g i hd x
 mark := fun g i hd j hj => by rw [World.cell?_of_block (a := ⟨g, j * 4 + 1, none⟩) (hb g i hd)]; exact h.mark g i hd j hj
theorem InvB.below {lo : Nat} {W W' : World} {f : Fm} (h : InvB lo W f) (hb : Below W.heap.size W W') : InvB lo W' f := h.keep (fun k i hd => hb.block k (h.lt k i hd)) hb.size

theorem InvB.add {lo : Nat} {W' : World} {f : Fm} {g i m c : Nat} (h : InvB lo W' f) (hg : ∀ i, ¬ f.D g i) (hlo : lo ≤ g) (hlt : g < W'.heap.size) (hmc : m ≤ c) (hc : c ≤ maxLen) (ht : ∀ x, x < c * 4 → (W'.cell? ⟨g, x, none⟩).isSome = true) (hf : ∀ x, W'.frozen? ⟨g, x, none⟩ = false) (hm : ∀ j, j < m → W'.cell? ⟨g, j * 4 + 1, none⟩ = some (mkV i)) : InvB lo W' (f.add g i m c) := by
 have ne : ∀ k j, f.D k j → k ≠ g := fun k j hd e => hg j (e ▸ hd)
 constructor
 ·rintro k a b (ha | ⟨rfl, rfl⟩) (hb | ⟨e, rfl⟩)
  ·exact h.uniq k a b ha hb
  ·exact absurd e (ne _ _ ha)
  ·exact absurd rfl (ne _ _ hb)
  ·rfl
 ·rintro k a (ha | ⟨rfl, rfl⟩)
  ·exact h.lo k a ha
  ·exact hlo
 ·rintro k a (ha | ⟨rfl, rfl⟩)
  ·exact h.lt k a ha
  ·exact hlt
 ·rintro k a (ha | ⟨rfl, rfl⟩)
  ·simp [Fm.add, ne _ _ ha]; exact h.mc k a ha
  ·simp [Fm.add]; exact hmc
 ·rintro k a (ha | ⟨rfl, rfl⟩)
  ·simp [Fm.add, ne _ _ ha]; exact h.cmax k a ha
  ·simp [Fm.add]; exact hc
 ·rintro k a (ha | ⟨rfl, rfl⟩) x hx
  ·simp [Fm.add, ne _ _ ha] at hx; exact h.there k a ha x hx
  ·simp [Fm.add] at hx; exact ht x hx
 ·rintro k a (ha | ⟨rfl, rfl⟩) x
  ·exact h.free k a ha x
  ·exact hf x
 ·rintro k a (ha | ⟨rfl, rfl⟩) j hj
  ·simp [Fm.add, ne _ _ ha] at hj; exact h.mark k a ha j hj
  ·simp [Fm.add] at hj; exact hm j hj

theorem famB_append (lo : Nat) (W : World) (f : Fm) (i n m b : Nat) (v : Value) (ty : TypeId) (fr : Nat × Nat) (hI : InvB lo W f) (hlo : lo ≤ W.heap.size) (hv : Val f i v n) (hb : W.heap[b]? = some (.cells (mkB i m).toArray 48 fr)) (hm : 0 < m) (hm9 : m ≤ 9) (hn : n ≤ 300000000) :
  ∃ v' W' f', (Builtin.append_ #[23, 23] ty #[v, .slice (some ⟨b, 0, none⟩) m m]).run Tryz.prog W = .ok v' W' ∧ InvB lo W' f' ∧ Val f' i v' (n + m) ∧ (∀ j u k, Val f j u k → Val f' j u k) ∧ Off f W f' W' := by
 obtain ⟨i0, hi, hz0, hz1, hz2⟩ := info_parts Tryz.infoB47
 have hnews := World.news_of_block hb
 have hnl := mkB_len i m
 have grow : ∀ (xs : List Value) (v' : Value) (W' : World), xs.length = n * 4 → (∀ j, j < n → xs[j * 4 + 1]? = some (mkV i)) → W'.ownsRow W.heap.size 48 4 v' (n + m) (xs ++ mkB i m) → W.grownBy W' none →
   ∃ f', InvB lo W' f' ∧ Val f' i v' (n + m) ∧ (∀ j u k, Val f j u k → Val f' j u k) ∧ Off f W f' W' := by
  intro xs v' W' hxl hx hown hgr
  obtain ⟨g, cap, rfl, hg, hlt⟩ := hown.form (by omega)
  have nd : ∀ j, ¬ f.D g j := fun j hd => by have := hI.lt g j hd; omega
  rcases hown.2 with ⟨h', _⟩ | ⟨g', cap', cur, h', _, hgg, hnc, hcm, hcs, htk⟩
  ·simp at h'
  simp only [Value.slice.injEq, Option.some.injEq, Addr.mk.injEq, and_true, true_and] at h'
  obtain ⟨rfl, rfl⟩ := h'
  refine ⟨f.add g i (n + m) cap, ?_, ?_, fun j u k h => h.add nd, ?_⟩
  ·refine InvB.add (hI.keep (fun k j hd => hgr.block k (hI.lt k j hd) (by simp)) hgr.size) nd (by omega) hlt hnc hcm (fun x hx => ?_) (fun x => ?_) (fun j hj => ?_)
   ·rw [cell_block hgg, Array.getElem?_eq_getElem (by omega)]
    rfl
   ·exact frozen_block hgg
   ·rw [hown.cellAt (j * 4 + 1) (by omega)]
    by_cases hjn : j < n
    ·rw [List.getElem?_append_left (by omega)]
     exact hx j hjn
    ·rw [List.getElem?_append_right (by omega), hxl, show j * 4 + 1 - n * 4 = (j - n) * 4 + 1 by omega]
     exact mkB_at i m (j - n) (by omega)
  ·exact .inr ⟨g, by simp [Fm.add], .inr ⟨rfl, rfl⟩, by simp [Fm.add]⟩
  ·refine ⟨hgr.os, hgr.tape, hgr.output, hgr.size, fun k hk hd => ⟨hgr.block k hk (by simp), ?_⟩⟩
   rintro j (h | ⟨e, _⟩)
   ·exact hd j h
   ·omega
 rcases hv with ⟨rfl, rfl⟩ | ⟨g, rfl, hd, hn2⟩
 ·obtain ⟨g, cap, W', hr, hown, hgr, _, _⟩ := run_append_lies (P := Tryz.prog) W 23 ty W.heap.size 48 i0 _ 4 64 Tryz.underlying23 hi hz0 hz1 hz2 rfl (by decide) (.slice none 0 0) 0 [] (World.ownsRow_nil _ _ _ _) ⟨b, 0, none⟩ m m (mkB i m) hnl hnews (mkB_one i m) hm (by unfold maxLen; omega) (by omega) (Nat.le_refl _) _ rfl
  obtain ⟨f', h1, h2, h3, h4⟩ := grow [] _ W' rfl (fun j hj => by omega) hown hgr
  exact ⟨_, W', f', hr, h1, h2, h3, h4⟩
 ·by_cases hroom : n + m ≤ f.C g
  ·have hr := run_append_room_cells (P := Tryz.prog) W 23 ty 48 i0 Tryz.underlying23 hi g 0 n (f.C g) ⟨b, 0, none⟩ m m (mkB i m) (by rw [hz1]; exact hnl) hnews (mkB_one i m) hroom
    (fun j hj => by rw [hz1]; exact hI.there g i hd _ (by omega)) (fun j _ => hI.free g i hd _)
   rw [hz1, Nat.zero_add] at hr
   have hin := World.cell?_setCells_in g (mkB i m) (n * 4) W (fun j hj => hI.there g i hd _ (by omega))
   have hout := World.cell?_setCells_out g (mkB i m) (n * 4) W
   have hbel := Lib.below_setCells (a := W) g (Nat.le_refl _) (mkB i m) (n * 4) (Below.refl g W)
   have hother : ∀ k, k ≠ g → (W.setCells g (n * 4) (mkB i m)).heap[k]? = W.heap[k]? := by
    intro k hk
    have : ∀ (vs : List Value) (o : Nat) (w : World), (w.setCells g o vs).heap[k]? = w.heap[k]? := by
     intro vs
     induction vs with
     | nil => intro o w; rfl
     | cons u r ih =>
      intro o w
      rw [World.setCells, ih, Below.heap_setCell _ _ _ _ hk]
    exact this _ _ _
   have hne : ∀ k j x, f.D k j → k ≠ g → (W.setCells g (n * 4) (mkB i m)).cell? ⟨k, x, none⟩ = W.cell? ⟨k, x, none⟩ := fun k j x _ hk => World.cell?_of_block (a := ⟨k, x, none⟩) (hother k hk)
   refine ⟨_, _, f.more g (n + m), hr, ?_, .inr ⟨g, rfl, hd, ?_⟩, fun j u k h => h.more, ?_⟩
   ·constructor
    ·exact hI.uniq
    ·exact hI.lo
    ·intro k j hk
     exact Nat.lt_of_lt_of_le (hI.lt k j hk) hbel.size
    ·intro k j hk
     simp only [Fm.more]
     have := hI.mc k j hk
     split
     ·rename_i e; subst e; omega
     ·exact this
    ·exact hI.cmax
    ·intro k j hk x hx
     by_cases e : k = g
     ·subst e
      by_cases h1 : n * 4 ≤ x ∧ x < n * 4 + (mkB i m).length
      ·obtain ⟨d, rfl⟩ : ∃ d, x = n * 4 + d := ⟨x - n * 4, by omega⟩
       rw [hin d (by omega)]
       rfl
      ·rw [hout ⟨k, x, none⟩ (fun _ _ => by show x < n * 4 ∨ n * 4 + (mkB i m).length ≤ x; omega)]
       exact hI.there k j hk x hx
     ·rw [hne k j x hk e]
      exact hI.there k j hk x hx
    ·intro k j hk x
     rw [World.frozen?_setCells]
     exact hI.free k j hk x
    ·intro k j hk q hq
     by_cases e : k = g
     ·subst e
      obtain rfl := hI.uniq k j i hk hd
      by_cases h1 : n ≤ q ∧ q < n + m
      ·have h2 := mkB_at j m (q - n) (by omega)
       have h3 : (q - n) * 4 + 1 < (mkB j m).length := by omega
       have h4 := hin ((q - n) * 4 + 1) h3
       rw [show n * 4 + ((q - n) * 4 + 1) = q * 4 + 1 by omega] at h4
       rw [h4]
       rw [List.getElem?_eq_getElem h3] at h2
       exact h2
      ·rw [hout ⟨k, q * 4 + 1, none⟩ (fun _ _ => by show q * 4 + 1 < n * 4 ∨ n * 4 + (mkB j m).length ≤ q * 4 + 1; omega)]
       refine hI.mark k j hk q ?_
       simp [Fm.more] at hq
       omega
     ·rw [hne k j _ hk e]
      refine hI.mark k j hk q ?_
      simp [Fm.more, e] at hq
      exact hq
   ·simp [Fm.more]
    omega
   ·refine ⟨hbel.os, hbel.tape, hbel.output, hbel.size, fun k hk hnd => ⟨hother k (fun e => hnd i (e ▸ hd)), hnd⟩⟩
  ·have hmc := hI.mc g i hd
   obtain ⟨v', W', hr, hown, hgr⟩ := run_append_arg_grows (P := Tryz.prog) W 23 ty 48 i0 _ 4 64 Tryz.underlying23 hi hz0 hz1 hz2 rfl (by decide) ⟨g, 0, none⟩ n (f.C g) ((List.range (n * 4)).map fun x => (W.cell? ⟨g, x, none⟩).getD undef) (by simp)
    (fun j u hj => by
     rw [List.getElem?_map] at hj
     obtain ⟨x, hx, rfl⟩ := Option.map_eq_some_iff.1 hj
     have hlt := (List.getElem?_eq_some_iff.1 hx).1
     simp at hlt
     simp [hlt] at hx
     subst hx
     have hadd : (⟨g, 0, none⟩ : Addr).add j = ⟨g, j, none⟩ := by unfold Addr.add; split <;> simp_all
     rw [hadd]
     obtain ⟨u, hu⟩ := Option.isSome_iff_exists.1 (hI.there g i hd j (by omega))
     rw [hu]
     rfl)
    ⟨b, 0, none⟩ m m (mkB i m) hnl hnews (by omega) (by unfold maxLen; omega) (by omega)
   obtain ⟨f', h1, h2, h3, h4⟩ := grow _ v' W' (by simp) (fun j hj => by
    rw [List.getElem?_map, List.getElem?_range (by omega)]
    simp only [Option.map_some]
    rw [hI.mark g i hd j (by omega)]
    rfl) hown hgr
   exact ⟨v', W', f', hr, h1, h2, h3, h4⟩
end Go.Proofs.YtikpipenhamdbaaGreat

namespace Go.Proofs.YtikpipenhamdbaaGreat
open Go.RowKit

/-- While the rows are written full. -/
structure PhA (w W : World) (lo R N : Nat) (V : Nat → Value) (n : Nat → Nat) (i : Nat) (f : Fm) : Prop where
 bel : Below lo w W
 inv : Inv lo W f
 row : ∀ a, a < N → W.cell? ⟨R, a, none⟩ = some (V a)
 notR : ∀ j, ¬ f.D R j
 done : ∀ a, a < i → Val f a (V a) (n a)
 raw : ∀ a, i ≤ a → a < N → (∃ xs, W.ownsRow lo 29 3 (V a) (n a) xs) ∧ ∀ g, (V a).ownBlock = some g → ∀ j, ¬ f.D g j

/-- While one row is written: this block alone changes. -/
structure PhB (W0 W : World) (g i cap k : Nat) : Prop where
 os : W.os = W0.os
 tape : W.tape = W0.tape
 output : W.output = W0.output
 size : W.heap.size = W0.heap.size
 other : ∀ b, b ≠ g → W.heap[b]? = W0.heap[b]?
 this : ∃ cur, W.heap[g]? = some (.cells cur 29 (0, 0)) ∧ cur.size = cap * 3 ∧ ∀ j, j < k → cur[j * 3]? = some (mkV i)

theorem PhB.step {W0 W : World} {g i cap k : Nat} (h : PhB W0 W g i cap k) (hk : k < cap) :
  PhB W0 (((W.setCell ⟨g, k * 3, none⟩ (mkV i)).setCell ⟨g, k * 3 + 1, none⟩ (.string ⟨#[]⟩)).setCell ⟨g, k * 3 + 2, none⟩ (.slice none 0 0)) g i cap (k + 1) := by
 obtain ⟨cur, h1, h2, h3⟩ := h.this
 refine ⟨h.os, h.tape, h.output, by simpa using h.size, fun b hb => ?_, ?_⟩
 ·rw [Below.heap_setCell _ _ _ _ hb, Below.heap_setCell _ _ _ _ hb, Below.heap_setCell _ _ _ _ hb]
  exact h.other b hb
 ·refine ⟨_, setCell_block (setCell_block (setCell_block h1)), by simpa using h2, fun j hj => ?_⟩
  rw [Array.getElem?_setIfInBounds_ne (by omega), Array.getElem?_setIfInBounds_ne (by omega)]
  by_cases e : j = k
  ·subst e
   rw [Array.getElem?_setIfInBounds_self_of_lt (by omega)]
  ·rw [Array.getElem?_setIfInBounds_ne (by omega)]
   exact h3 j (by omega)

theorem PhA.next {w W0 W : World} {lo R N : Nat} {V : Nat → Value} {n : Nat → Nat} {i : Nat} {f : Fm} {g cap : Nat} (h : PhA w W0 lo R N V n i f) (hi : i < N) (hv : V i = .slice (some ⟨g, 0, none⟩) (n i) cap) (hlo : lo ≤ g) (hgR : g ≠ R) (hnc : n i ≤ cap) (hcm : cap ≤ maxLen) (hb : PhB W0 W g i cap (n i))
  (hdis : ∀ a, i < a → a < N → (V a).ownBlock ≠ some g) : PhA w W lo R N V n (i + 1) (f.add g i (n i) cap) := by
 obtain ⟨cur, h1, h2, h3⟩ := hb.this
 have nd : ∀ j, ¬ f.D g j := (h.raw i (Nat.le_refl _) hi).2 g (by rw [hv]; rfl)
 have glt : g < W.heap.size := lt_of_heap h1
 refine ⟨?_, ?_, ?_, ?_, ?_, ?_⟩
 ·refine ⟨hb.os.trans h.bel.os, hb.tape.trans h.bel.tape, hb.output.trans h.bel.output, by rw [hb.size]; exact h.bel.size, fun k hk => ?_⟩
  rw [hb.other k (by omega)]
  exact h.bel.block k hk
 ·refine Inv.add (h.inv.keep (fun k j hd => hb.other k (fun e => nd j (e ▸ hd))) (by rw [hb.size]; exact Nat.le_refl _)) nd hlo glt hnc hcm (fun x hx => ?_) (fun x => frozen_block h1) (fun j hj => ?_)
  ·rw [cell_block h1, Array.getElem?_eq_getElem (by omega)]
   rfl
  ·rw [cell_block h1]
   exact h3 j hj
 ·intro a ha
  rw [World.cell?_of_block (a := ⟨R, a, none⟩) (hb.other R (Ne.symm hgR))]
  exact h.row a ha
 ·rintro j (hd | ⟨e, _⟩)
  ·exact h.notR j hd
  ·exact hgR e.symm
 ·intro a ha
  by_cases e : a = i
  ·subst e
   exact .inr ⟨g, by rw [hv]; simp [Fm.add], .inr ⟨rfl, rfl⟩, by simp [Fm.add]⟩
  ·exact (h.done a (by omega)).add nd
 ·intro a ha ha4
  obtain ⟨⟨xs, hx⟩, hd⟩ := h.raw a (by omega) ha4
  have hne := hdis a (by omega) ha4
  refine ⟨⟨xs, hx.1, ?_⟩, ?_⟩
  ·rcases hx.2 with h0 | ⟨g', cap', cur', e, hg', hgg, rest⟩
   ·exact .inl h0
   ·refine .inr ⟨g', cap', cur', e, hg', ?_, rest⟩
    rw [hb.other g' (fun e' => hne (by rw [e, e']; rfl))]
    exact hgg
  ·rintro g' hg' j (hd' | ⟨e, _⟩)
   ·exact hd g' hg' j hd'
   ·exact hne (by rw [hg', e])

theorem PhA.skip {w W : World} {lo R N : Nat} {V : Nat → Value} {n : Nat → Nat} {i : Nat} {f : Fm} (h : PhA w W lo R N V n i f) (hv : V i = .slice none 0 0) (hn : n i = 0) : PhA w W lo R N V n (i + 1) f :=
 ⟨h.bel, h.inv, h.row, h.notR, fun a ha => by
  by_cases e : a = i
  ·subst e; exact .inl ⟨hv, hn⟩
  ·exact h.done a (by omega), fun a ha h4 => h.raw a (by omega) h4⟩

/-- While the rows are grown: all that was grown (gv, so many: c), whose it is (wv, so many: c2). -/
structure PhC (w W : World) (lo R N : Nat) (V : Nat → Value) (n : Nat → Nat) (c c2 : Nat) (f : Fm) (gv wv : Value) (L : List Value) : Prop where
 bel : Below lo w W
 inv : Inv lo W f
 row : ∀ a, a < N → W.cell? ⟨R, a, none⟩ = some (V a)
 notR : ∀ j, ¬ f.D R j
 vals : ∀ a, a < N → Val f a (V a) (n a)
 len : L.length = c
 each : ∀ q, q < c → ∃ m u, m ≤ 30000 ∧ L[q]? = some u ∧ Val f (q / 10) u m
 own : W.ownsRow w.heap.size 27 1 gv c L
 ownD : ∀ k, gv.ownBlock = some k → ∀ j, ¬ f.D k j
 own2 : W.ownsRow w.heap.size 3 1 wv c2 ((List.range c2).map fun q => .int .i64 ((q / 10 : Nat) : Int))
 ownD2 : ∀ k, wv.ownBlock = some k → ∀ j, ¬ f.D k j
 apart : ∀ k, gv.ownBlock = some k → wv.ownBlock ≠ some k
theorem own_stay {w w' : World} {B e size n : Nat} {v : Value} {xs : List Value} (h : w.ownsRow B e size v n xs) (hb : Below w.heap.size w w') : w'.ownsRow B e size v n xs := own_keep h fun k hk => hb.block k (h.lt k hk).2
theorem Val.one {f : Fm} {i n : Nat} {v : Value} (h : Val f i v n) : v.oneCell' = true := by
 rcases h with ⟨rfl, _⟩ | ⟨g, rfl, _⟩ <;> rfl
theorem Val.form {f : Fm} {i n : Nat} {v : Value} (h : Val f i v n) : ∃ ad cap, v = .slice ad n cap := by
 rcases h with ⟨rfl, rfl⟩ | ⟨g, rfl, _⟩
 ·exact ⟨_, _, rfl⟩
 ·exact ⟨_, _, rfl⟩
section
variable {w W W' : World} {lo R N : Nat} {V : Nat → Value} {n : Nat → Nat} {c c2 : Nat} {f f' : Fm} {gv wv : Value} {L : List Value}
theorem PhC.below (h : PhC w W lo R N V n c c2 f gv wv L) (hb : Below W.heap.size W W') (hR : R < w.heap.size) (hlw : lo ≤ w.heap.size) : PhC w W' lo R N V n c c2 f gv wv L :=
 ⟨h.bel.trans (hb.mono (Nat.le_trans hlw h.bel.size)), h.inv.below hb, fun a ha => (hb.cell (p := ⟨R, a, none⟩) (Nat.lt_of_lt_of_le hR h.bel.size)).trans (h.row a ha), h.notR, h.vals, h.len, h.each, own_stay h.own hb, h.ownD, own_stay h.own2 hb, h.ownD2, h.apart⟩
/-- Behind an append to one of the families. -/
theorem PhC.fam (h : PhC w W lo R N V n c c2 f gv wv L) (hR : R < w.heap.size) (hlw : lo ≤ w.heap.size) (hI : Inv lo W' f') (hext : ∀ j u k, Val f j u k → Val f' j u k) (hoff : Off f W f' W') : PhC w W' lo R N V n c c2 f' gv wv L := by
 have hRW : R < W.heap.size := Nat.lt_of_lt_of_le hR h.bel.size
 obtain ⟨r1, r2⟩ := hoff.block R hRW h.notR
 refine ⟨?_, hI, ?_, r2, fun a ha => hext _ _ _ (h.vals a ha), h.len, ?_, ?_, ?_, ?_, ?_, h.apart⟩
 ·refine h.bel.trans ⟨hoff.os, hoff.tape, hoff.output, hoff.size, fun k hk => ?_⟩
  exact (hoff.block k (by have := h.bel.size; omega) fun j hd => by have := h.inv.lo k j hd; omega).1
 ·intro a ha
  rw [World.cell?_of_block (a := ⟨R, a, none⟩) r1]
  exact h.row a ha
 ·intro q hq
  obtain ⟨m, u, h1, h2, h3⟩ := h.each q hq
  exact ⟨m, u, h1, h2, hext _ _ _ h3⟩
 ·exact own_keep h.own fun k hk => (hoff.block k (h.own.lt k hk).2 (h.ownD k hk)).1
 ·exact fun k hk => (hoff.block k (h.own.lt k hk).2 (h.ownD k hk)).2
 ·exact own_keep h.own2 fun k hk => (hoff.block k (h.own2.lt k hk).2 (h.ownD2 k hk)).1
 ·exact fun k hk => (hoff.block k (h.own2.lt k hk).2 (h.ownD2 k hk)).2
/-- Behind an append to what was grown. -/
theorem PhC.put (h : PhC w W lo R N V n c c2 f gv wv L) (hR : R < w.heap.size) (hlw : lo ≤ w.heap.size) {o : Obj} {g' cap' m : Nat} {v' : Value} (hv : Val f (c / 10) v' m) (hm : m ≤ 30000)
  (hown : W'.ownsRow w.heap.size 27 1 (.slice (some ⟨g', 0, none⟩) (c + 1) cap') (c + 1) (L ++ [v'])) (hgr : (W.alloc o).grownBy W' gv.ownBlock) (hat : gv.ownBlock = some g' ∨ g' = W.heap.size + 1) :
  PhC w W' lo R N V n (c + 1) c2 f (.slice (some ⟨g', 0, none⟩) (c + 1) cap') wv (L ++ [v']) := by
 have hs : W.heap.size ≤ W'.heap.size := by have := hgr.size; simp at this; omega
 have keep : ∀ b, b < W.heap.size → gv.ownBlock ≠ some b → W'.heap[b]? = W.heap[b]? := fun b hb hne => by
  rw [hgr.block b (by simp; omega) (Ne.symm hne)]
  exact Below.heap_alloc _ _ _ hb
 have hRW : R < W.heap.size := Nat.lt_of_lt_of_le hR h.bel.size
 have hgR : gv.ownBlock ≠ some R := fun e => by have := (h.own.lt R e).1; omega
 refine ⟨?_, ?_, ?_, h.notR, h.vals, by simp [h.len], ?_, hown, ?_, ?_, h.ownD2, ?_⟩
 ·refine h.bel.trans ⟨hgr.os, hgr.tape, hgr.output, hs, fun k hk => keep k (by have := h.bel.size; omega) fun e => by have := (h.own.lt k e).1; omega⟩
 ·exact h.inv.keep (fun k j hd => keep k (h.inv.lt k j hd) fun e => h.ownD k e j hd) hs
 ·intro a ha
  rw [World.cell?_of_block (a := ⟨R, a, none⟩) (keep R hRW hgR)]
  exact h.row a ha
 ·intro q hq
  by_cases e : q = c
  ·subst e
   refine ⟨m, v', hm, ?_, hv⟩
   rw [List.getElem?_append_right (by rw [h.len]; omega), h.len]
   simp
  ·obtain ⟨m', u, h1, h2, h3⟩ := h.each q (by omega)
   refine ⟨m', u, h1, ?_, h3⟩
   rw [List.getElem?_append_left (by rw [h.len]; omega)]
   exact h2
 ·intro k hk j hd
  have e' : g' = k := by simpa [Value.ownBlock] using hk
  subst e'
  rcases hat with hat | hat
  ·exact h.ownD g' hat j hd
  ·have := h.inv.lt g' j hd
   omega
 ·refine own_keep h.own2 fun k hk => keep k (h.own2.lt k hk).2 fun e => h.apart k e hk
 ·intro k hk
  have e' : g' = k := by simpa [Value.ownBlock] using hk
  subst e'
  rcases hat with hat | hat
  ·exact h.apart g' hat
  ·intro e
   have := (h.own2.lt g' e).2
   omega
/-- Behind an append to the list that says whose it is. -/
theorem PhC.put2 (h : PhC w W lo R N V n c c2 f gv wv L) (hR : R < w.heap.size) (hlw : lo ≤ w.heap.size) {o : Obj} {g' cap' : Nat}
  (hown : W'.ownsRow w.heap.size 3 1 (.slice (some ⟨g', 0, none⟩) (c2 + 1) cap') (c2 + 1) ((List.range c2).map (fun q => (.int .i64 ((q / 10 : Nat) : Int) : Value)) ++ [.int .i64 ((c2 / 10 : Nat) : Int)])) (hgr : (W.alloc o).grownBy W' wv.ownBlock) (hat : wv.ownBlock = some g' ∨ g' = W.heap.size + 1) :
  PhC w W' lo R N V n c (c2 + 1) f gv (.slice (some ⟨g', 0, none⟩) (c2 + 1) cap') L := by
 have hs : W.heap.size ≤ W'.heap.size := by have := hgr.size; simp at this; omega
 have keep : ∀ b, b < W.heap.size → wv.ownBlock ≠ some b → W'.heap[b]? = W.heap[b]? := fun b hb hne => by
  rw [hgr.block b (by simp; omega) (Ne.symm hne)]
  exact Below.heap_alloc _ _ _ hb
 have hRW : R < W.heap.size := Nat.lt_of_lt_of_le hR h.bel.size
 have hgR : wv.ownBlock ≠ some R := fun e => by have := (h.own2.lt R e).1; omega
 refine ⟨?_, ?_, ?_, h.notR, h.vals, h.len, h.each, ?_, h.ownD, ?_, ?_, ?_⟩
 ·refine h.bel.trans ⟨hgr.os, hgr.tape, hgr.output, hs, fun k hk => keep k (by have := h.bel.size; omega) fun e => by have := (h.own2.lt k e).1; omega⟩
 ·exact h.inv.keep (fun k j hd => keep k (h.inv.lt k j hd) fun e => h.ownD2 k e j hd) hs
 ·intro a ha
  rw [World.cell?_of_block (a := ⟨R, a, none⟩) (keep R hRW hgR)]
  exact h.row a ha
 ·refine own_keep h.own fun k hk => keep k (h.own.lt k hk).2 fun e => h.apart k hk e
 ·rw [List.range_succ, List.map_append]
  exact hown
 ·intro k hk j hd
  have e' : g' = k := by simpa [Value.ownBlock] using hk
  subst e'
  rcases hat with hat | hat
  ·exact h.ownD2 g' hat j hd
  ·have := h.inv.lt g' j hd
   omega
 ·intro k hk e
  have e' : g' = k := by simpa [Value.ownBlock] using e
  subst e'
  rcases hat with hat | hat
  ·exact h.apart g' hk hat
  ·have := (h.own.lt g' hk).2
   omega
end
end Go.Proofs.YtikpipenhamdbaaGreat

namespace Go.Proofs.YtikpipenhamdbaaGreat
open Go.RowKit

/-- All but the rows' own blocks stays. -/
structure Kp (S : Nat → Prop) (w W : World) : Prop where
 os : W.os = w.os
 tape : W.tape = w.tape
 output : W.output = w.output
 size : w.heap.size ≤ W.heap.size
 block : ∀ k, k < w.heap.size → ¬ S k → W.heap[k]? = w.heap[k]?
theorem Kp.below {S : Nat → Prop} {w W W' : World} (h : Kp S w W) (hb : Below W.heap.size W W') : Kp S w W' :=
 ⟨hb.os.trans h.os, hb.tape.trans h.tape, hb.output.trans h.output, Nat.le_trans h.size hb.size, fun k hk hn => (hb.block k (Nat.lt_of_lt_of_le hk h.size)).trans (h.block k hk hn)⟩
/-- While the rows are written full. -/
structure PbA (S : Nat → Prop) (w W : World) (lo R N : Nat) (V : Nat → Value) (n : Nat → Nat) (i : Nat) (f : Fm) : Prop where
 kp : Kp S w W
 inv : InvB 0 W f
 dS : ∀ k j, f.D k j → S k ∨ w.heap.size ≤ k
 row : ∀ a, a < N → W.cell? ⟨R, a, none⟩ = some (V a)
 notR : ∀ j, ¬ f.D R j
 done : ∀ a, a < i → Val f a (V a) (n a)
 raw : ∀ a, i ≤ a → a < N → (∃ xs, W.ownsRow lo 48 4 (V a) (n a) xs) ∧ ∀ g, (V a).ownBlock = some g → ∀ j, ¬ f.D g j

/-- While one row is written: this block alone changes. -/
structure PbB (W0 W : World) (g i cap k : Nat) : Prop where
 os : W.os = W0.os
 tape : W.tape = W0.tape
 output : W.output = W0.output
 size : W.heap.size = W0.heap.size
 other : ∀ b, b ≠ g → W.heap[b]? = W0.heap[b]?
 this : ∃ cur, W.heap[g]? = some (.cells cur 48 (0, 0)) ∧ cur.size = cap * 4 ∧ ∀ j, j < k → cur[j * 4 + 1]? = some (mkV i)

theorem PbB.step {W0 W : World} {g i cap k : Nat} (h : PbB W0 W g i cap k) (hk : k < cap) :
  PbB W0 ((((W.setCell ⟨g, k * 4, none⟩ (.string ⟨#[]⟩)).setCell ⟨g, k * 4 + 1, none⟩ (mkV i)).setCell ⟨g, k * 4 + 2, none⟩ (.string ⟨#[]⟩)).setCell ⟨g, k * 4 + 3, none⟩ (.slice none 0 0)) g i cap (k + 1) := by
 obtain ⟨cur, h1, h2, h3⟩ := h.this
 refine ⟨h.os, h.tape, h.output, by simpa using h.size, fun b hb => ?_, ?_⟩
 ·rw [Below.heap_setCell _ _ _ _ hb, Below.heap_setCell _ _ _ _ hb, Below.heap_setCell _ _ _ _ hb, Below.heap_setCell _ _ _ _ hb]
  exact h.other b hb
 ·refine ⟨_, setCell_block (setCell_block (setCell_block (setCell_block h1))), by simpa using h2, fun j hj => ?_⟩
  rw [Array.getElem?_setIfInBounds_ne (by omega), Array.getElem?_setIfInBounds_ne (by omega)]
  by_cases e : j = k
  ·subst e
   rw [Array.getElem?_setIfInBounds_self_of_lt (by simp; omega)]
  ·rw [Array.getElem?_setIfInBounds_ne (by omega), Array.getElem?_setIfInBounds_ne (by omega)]
   exact h3 j (by omega)

theorem PbA.next {S : Nat → Prop} {w W0 W : World} {lo R N : Nat} {V : Nat → Value} {n : Nat → Nat} {i : Nat} {f : Fm} {g cap : Nat} (h : PbA S w W0 lo R N V n i f) (hi : i < N) (hv : V i = .slice (some ⟨g, 0, none⟩) (n i) cap) (hS : S g) (hgR : g ≠ R) (hnc : n i ≤ cap) (hcm : cap ≤ maxLen) (hb : PbB W0 W g i cap (n i))
  (hdis : ∀ a, i < a → a < N → (V a).ownBlock ≠ some g) : PbA S w W lo R N V n (i + 1) (f.add g i (n i) cap) := by
 obtain ⟨cur, h1, h2, h3⟩ := hb.this
 have nd : ∀ j, ¬ f.D g j := (h.raw i (Nat.le_refl _) hi).2 g (by rw [hv]; rfl)
 have glt : g < W.heap.size := lt_of_heap h1
 refine ⟨?_, ?_, ?_, ?_, ?_, ?_, ?_⟩
 ·refine ⟨hb.os.trans h.kp.os, hb.tape.trans h.kp.tape, hb.output.trans h.kp.output, by rw [hb.size]; exact h.kp.size, fun k hk hn => ?_⟩
  rw [hb.other k (fun e => hn (e ▸ hS))]
  exact h.kp.block k hk hn
 ·refine InvB.add (h.inv.keep (fun k j hd => hb.other k (fun e => nd j (e ▸ hd))) (by rw [hb.size]; exact Nat.le_refl _)) nd (Nat.zero_le _) glt hnc hcm (fun x hx => ?_) (fun x => frozen_block h1) (fun j hj => ?_)
  ·rw [cell_block h1, Array.getElem?_eq_getElem (by omega)]
   rfl
  ·rw [cell_block h1]
   exact h3 j hj
 ·rintro k j (hd | ⟨rfl, _⟩)
  ·exact h.dS k j hd
  ·exact .inl hS
 ·intro a ha
  rw [World.cell?_of_block (a := ⟨R, a, none⟩) (hb.other R (Ne.symm hgR))]
  exact h.row a ha
 ·rintro j (hd | ⟨e, _⟩)
  ·exact h.notR j hd
  ·exact hgR e.symm
 ·intro a ha
  by_cases e : a = i
  ·subst e
   exact .inr ⟨g, by rw [hv]; simp [Fm.add], .inr ⟨rfl, rfl⟩, by simp [Fm.add]⟩
  ·exact (h.done a (by omega)).add nd
 ·intro a ha ha4
  obtain ⟨⟨xs, hx⟩, hd⟩ := h.raw a (by omega) ha4
  have hne := hdis a (by omega) ha4
  refine ⟨⟨xs, hx.1, ?_⟩, ?_⟩
  ·rcases hx.2 with h0 | ⟨g', cap', cur', e, hg', hgg, rest⟩
   ·exact .inl h0
   ·refine .inr ⟨g', cap', cur', e, hg', ?_, rest⟩
    rw [hb.other g' (fun e' => hne (by rw [e, e']; rfl))]
    exact hgg
  ·rintro g' hg' j (hd' | ⟨e, _⟩)
   ·exact hd g' hg' j hd'
   ·exact hne (by rw [hg', e])

theorem PbA.skip {S : Nat → Prop} {w W : World} {lo R N : Nat} {V : Nat → Value} {n : Nat → Nat} {i : Nat} {f : Fm} (h : PbA S w W lo R N V n i f) (hv : V i = .slice none 0 0) (hn : n i = 0) : PbA S w W lo R N V n (i + 1) f :=
 ⟨h.kp, h.inv, h.dS, h.row, h.notR, fun a ha => by
  by_cases e : a = i
  ·subst e; exact .inl ⟨hv, hn⟩
  ·exact h.done a (by omega), fun a ha h4 => h.raw a (by omega) h4⟩

/-- While the rows are grown: all that was grown (gv, so many: c), whose it is (wv, so many: c2). -/
structure PbC (S : Nat → Prop) (w W : World) (R N : Nat) (V : Nat → Value) (n : Nat → Nat) (c c2 : Nat) (f : Fm) (gv wv : Value) (L : List Value) : Prop where
 kp : Kp S w W
 inv : InvB 0 W f
 dS : ∀ k j, f.D k j → S k ∨ w.heap.size ≤ k
 row : ∀ a, a < N → W.cell? ⟨R, a, none⟩ = some (V a)
 notR : ∀ j, ¬ f.D R j
 vals : ∀ a, a < N → Val f a (V a) (n a)
 len : L.length = c
 each : ∀ q, q < c → ∃ m u, m ≤ 300000000 ∧ L[q]? = some u ∧ Val f (q / 9) u m
 own : W.ownsRow w.heap.size 23 1 gv c L
 ownD : ∀ k, gv.ownBlock = some k → ∀ j, ¬ f.D k j
 own2 : W.ownsRow w.heap.size 3 1 wv c2 ((List.range c2).map fun q => .int .i64 ((q / 9 : Nat) : Int))
 ownD2 : ∀ k, wv.ownBlock = some k → ∀ j, ¬ f.D k j
 apart : ∀ k, gv.ownBlock = some k → wv.ownBlock ≠ some k
section
variable {S : Nat → Prop} {w W W' : World} {R N : Nat} {V : Nat → Value} {n : Nat → Nat} {c c2 : Nat} {f f' : Fm} {gv wv : Value} {L : List Value}
theorem PbC.below (h : PbC S w W R N V n c c2 f gv wv L) (hb : Below W.heap.size W W') (hR : R < w.heap.size) : PbC S w W' R N V n c c2 f gv wv L :=
 ⟨h.kp.below hb, h.inv.below hb, h.dS, fun a ha => (hb.cell (p := ⟨R, a, none⟩) (Nat.lt_of_lt_of_le hR h.kp.size)).trans (h.row a ha), h.notR, h.vals, h.len, h.each, own_stay h.own hb, h.ownD, own_stay h.own2 hb, h.ownD2, h.apart⟩
/-- Behind an append to one of the families. -/
theorem PbC.fam (h : PbC S w W R N V n c c2 f gv wv L) (hR : R < w.heap.size) (hI : InvB 0 W' f') (hext : ∀ j u k, Val f j u k → Val f' j u k) (hoff : Off f W f' W') : PbC S w W' R N V n c c2 f' gv wv L := by
 have hRW : R < W.heap.size := Nat.lt_of_lt_of_le hR h.kp.size
 obtain ⟨r1, r2⟩ := hoff.block R hRW h.notR
 have hks := h.kp.size
 refine ⟨?_, hI, ?_, ?_, r2, fun a ha => hext _ _ _ (h.vals a ha), h.len, ?_, ?_, ?_, ?_, ?_, h.apart⟩
 ·refine ⟨hoff.os.trans h.kp.os, hoff.tape.trans h.kp.tape, hoff.output.trans h.kp.output, Nat.le_trans hks hoff.size, fun k hk hn => ?_⟩
  exact (hoff.block k (by omega) fun j hd => by
   rcases h.dS k j hd with h1 | h1
   ·exact hn h1
   ·omega).1.trans (h.kp.block k hk hn)
 ·intro k j hd
  by_cases hk : w.heap.size ≤ k
  ·exact .inr hk
  ·by_cases hn : S k
   ·exact .inl hn
   ·exact absurd hd ((hoff.block k (by omega) fun j hd => by
     rcases h.dS k j hd with h1 | h1
     ·exact hn h1
     ·omega).2 j)
 ·intro a ha
  rw [World.cell?_of_block (a := ⟨R, a, none⟩) r1]
  exact h.row a ha
 ·intro q hq
  obtain ⟨m, u, h1, h2, h3⟩ := h.each q hq
  exact ⟨m, u, h1, h2, hext _ _ _ h3⟩
 ·exact own_keep h.own fun k hk => (hoff.block k (h.own.lt k hk).2 (h.ownD k hk)).1
 ·exact fun k hk => (hoff.block k (h.own.lt k hk).2 (h.ownD k hk)).2
 ·exact own_keep h.own2 fun k hk => (hoff.block k (h.own2.lt k hk).2 (h.ownD2 k hk)).1
 ·exact fun k hk => (hoff.block k (h.own2.lt k hk).2 (h.ownD2 k hk)).2
/-- Behind an append to what was grown. -/
theorem PbC.put (h : PbC S w W R N V n c c2 f gv wv L) (hR : R < w.heap.size) {o : Obj} {g' cap' m : Nat} {v' : Value} (hv : Val f (c / 9) v' m) (hm : m ≤ 300000000)
  (hown : W'.ownsRow w.heap.size 23 1 (.slice (some ⟨g', 0, none⟩) (c + 1) cap') (c + 1) (L ++ [v'])) (hgr : (W.alloc o).grownBy W' gv.ownBlock) (hat : gv.ownBlock = some g' ∨ g' = W.heap.size + 1) :
  PbC S w W' R N V n (c + 1) c2 f (.slice (some ⟨g', 0, none⟩) (c + 1) cap') wv (L ++ [v']) := by
 have hs : W.heap.size ≤ W'.heap.size := by have := hgr.size; simp at this; omega
 have keep : ∀ b, b < W.heap.size → gv.ownBlock ≠ some b → W'.heap[b]? = W.heap[b]? := fun b hb hne => by
  rw [hgr.block b (by simp; omega) (Ne.symm hne)]
  exact Below.heap_alloc _ _ _ hb
 have hRW : R < W.heap.size := Nat.lt_of_lt_of_le hR h.kp.size
 have hgR : gv.ownBlock ≠ some R := fun e => by have := (h.own.lt R e).1; omega
 have hks := h.kp.size
 refine ⟨?_, ?_, h.dS, ?_, h.notR, h.vals, by simp [h.len], ?_, hown, ?_, ?_, h.ownD2, ?_⟩
 ·exact ⟨hgr.os.trans h.kp.os, hgr.tape.trans h.kp.tape, hgr.output.trans h.kp.output, Nat.le_trans hks hs, fun k hk hn => (keep k (by omega) fun e => by have := (h.own.lt k e).1; omega).trans (h.kp.block k hk hn)⟩
 ·exact h.inv.keep (fun k j hd => keep k (h.inv.lt k j hd) fun e => h.ownD k e j hd) hs
 ·intro a ha
  rw [World.cell?_of_block (a := ⟨R, a, none⟩) (keep R hRW hgR)]
  exact h.row a ha
 ·intro q hq
  by_cases e : q = c
  ·subst e
   refine ⟨m, v', hm, ?_, hv⟩
   rw [List.getElem?_append_right (by rw [h.len]; omega), h.len]
   simp
  ·obtain ⟨m', u, h1, h2, h3⟩ := h.each q (by omega)
   refine ⟨m', u, h1, ?_, h3⟩
   rw [List.getElem?_append_left (by rw [h.len]; omega)]
   exact h2
 ·intro k hk j hd
  have e' : g' = k := by simpa [Value.ownBlock] using hk
  subst e'
  rcases hat with hat | hat
  ·exact h.ownD g' hat j hd
  ·have := h.inv.lt g' j hd
   omega
 ·refine own_keep h.own2 fun k hk => keep k (h.own2.lt k hk).2 fun e => h.apart k e hk
 ·intro k hk
  have e' : g' = k := by simpa [Value.ownBlock] using hk
  subst e'
  rcases hat with hat | hat
  ·exact h.apart g' hat
  ·intro e
   have := (h.own2.lt g' e).2
   omega
/-- Behind an append to the list that says whose it is. -/
theorem PbC.put2 (h : PbC S w W R N V n c c2 f gv wv L) (hR : R < w.heap.size) {o : Obj} {g' cap' : Nat}
  (hown : W'.ownsRow w.heap.size 3 1 (.slice (some ⟨g', 0, none⟩) (c2 + 1) cap') (c2 + 1) ((List.range c2).map (fun q => (.int .i64 ((q / 9 : Nat) : Int) : Value)) ++ [.int .i64 ((c2 / 9 : Nat) : Int)])) (hgr : (W.alloc o).grownBy W' wv.ownBlock) (hat : wv.ownBlock = some g' ∨ g' = W.heap.size + 1) :
  PbC S w W' R N V n c (c2 + 1) f gv (.slice (some ⟨g', 0, none⟩) (c2 + 1) cap') L := by
 have hs : W.heap.size ≤ W'.heap.size := by have := hgr.size; simp at this; omega
 have keep : ∀ b, b < W.heap.size → wv.ownBlock ≠ some b → W'.heap[b]? = W.heap[b]? := fun b hb hne => by
  rw [hgr.block b (by simp; omega) (Ne.symm hne)]
  exact Below.heap_alloc _ _ _ hb
 have hRW : R < W.heap.size := Nat.lt_of_lt_of_le hR h.kp.size
 have hgR : wv.ownBlock ≠ some R := fun e => by have := (h.own2.lt R e).1; omega
 have hks := h.kp.size
 refine ⟨?_, ?_, h.dS, ?_, h.notR, h.vals, h.len, h.each, ?_, h.ownD, ?_, ?_, ?_⟩
 ·exact ⟨hgr.os.trans h.kp.os, hgr.tape.trans h.kp.tape, hgr.output.trans h.kp.output, Nat.le_trans hks hs, fun k hk hn => (keep k (by omega) fun e => by have := (h.own2.lt k e).1; omega).trans (h.kp.block k hk hn)⟩
 ·exact h.inv.keep (fun k j hd => keep k (h.inv.lt k j hd) fun e => h.ownD2 k e j hd) hs
 ·intro a ha
  rw [World.cell?_of_block (a := ⟨R, a, none⟩) (keep R hRW hgR)]
  exact h.row a ha
 ·refine own_keep h.own fun k hk => keep k (h.own.lt k hk).2 fun e => h.apart k hk e
 ·rw [List.range_succ, List.map_append]
  exact hown
 ·intro k hk j hd
  have e' : g' = k := by simpa [Value.ownBlock] using hk
  subst e'
  rcases hat with hat | hat
  ·exact h.ownD2 g' hat j hd
  ·have := h.inv.lt g' j hd
   omega
 ·intro k hk e
  have e' : g' = k := by simpa [Value.ownBlock] using e
  subst e'
  rcases hat with hat | hat
  ·exact h.apart g' hk hat
  ·have := (h.own.lt g' hk).2
   omega
end
end Go.Proofs.YtikpipenhamdbaaGreat

namespace Go.Proofs.YtikpipenhamdbaaGreat
open Go.RowKit

/-- A list of lists that grows: from gv0 in w0 to gv in w, which owns L. -/
structure Ls (w0 w : World) (B : Nat) (gv0 gv : Value) (L : List Value) : Prop where
 own : w.ownsRow B 27 1 gv L.length L
 os : w.os = w0.os
 tape : w.tape = w0.tape
 output : w.output = w0.output
 size : w0.heap.size ≤ w.heap.size
 block : ∀ k, k < w0.heap.size → gv0.ownBlock ≠ some k → w.heap[k]? = w0.heap[k]?
 where' : gv.ownBlock = gv0.ownBlock ∨ ∃ g, gv.ownBlock = some g ∧ w0.heap.size ≤ g
theorem Ls.trans {w0 w1 w2 : World} {B : Nat} {g0 g1 g2 : Value} {L1 L2 : List Value} (h : Ls w0 w1 B g0 g1 L1) (k : Ls w1 w2 B g1 g2 L2) : Ls w0 w2 B g0 g2 L2 := by
 have hs := h.size
 refine ⟨k.own, k.os.trans h.os, k.tape.trans h.tape, k.output.trans h.output, Nat.le_trans h.size k.size, fun b hb hne => ?_, ?_⟩
 ·rw [k.block b (by omega) ?_]
  ·exact h.block b hb hne
  ·rcases h.where' with e | ⟨g, e, hg⟩
   ·rw [e]; exact hne
   ·rw [e]
    intro e'
    have := Option.some.inj e'
    omega
 ·rcases k.where' with e | ⟨g, e, hg⟩
  ·rcases h.where' with e2 | ⟨g, e2, hg⟩
   ·exact .inl (e.trans e2)
   ·exact .inr ⟨g, e.trans e2, hg⟩
  ·exact .inr ⟨g, e, by omega⟩
theorem Ls.from {w w' : World} {B : Nat} {gv gv' : Value} {L L' : List Value} (h : Ls w w' B gv gv' L') (hB : B ≤ w.heap.size) (hown : w.ownsRow B 27 1 gv L.length L) : Below B w w' :=
 ⟨h.os, h.tape, h.output, h.size, fun k hk => h.block k (by omega) fun e => by have := (hown.lt k e).1; omega⟩
theorem take_flat {α : Type} {l : List (List α)} {j : Nat} (h : j < l.length) : (l.take (j + 1)).flatten = (l.take j).flatten ++ l[j] := by
 rw [List.take_succ_eq_append_getElem h, List.flatten_append]
 simp
theorem take_flat_le {α : Type} {l : List (List α)} {j : Nat} (h : j < l.length) : (l.take j).flatten.length + l[j].length ≤ l.flatten.length := by
 have h1 : l.flatten = (l.take (j + 1)).flatten ++ (l.drop (j + 1)).flatten := by rw [← List.flatten_append, List.take_append_drop]
 rw [h1, take_flat h]
 simp
theorem Tryz.info27' : (Tryz.prog.info? 27).map (fun i => (i.zero, i.size, i.bytes)) = some (some (.slice none 0 0), 1, 24) := by kernel_rfl
set_option maxHeartbeats 8000000 in
set_option maxRecDepth 10000 in
theorem lists_step (lo d : Nat) (IH : ∀ (x : Value) (t : Tn d) (rws : List (Value × Nat)) (w : World) (B : Nat) (gv : Value) (L : List Value), B ≤ w.heap.size → (∀ p ∈ rws, ∀ g, p.1.ownBlock = some g → g < B) → TyO w lo d x t rws → w.ownsRow B 27 1 gv L.length L → L.length + rws.length ≤ 500000000000 →
   Calls Tryz.prog 35 #[gv, x] w fun r w' => ∃ gv', r = .returned gv' ∧ Ls w w' B gv gv' (L ++ rws.map (·.1)))
  (x : Value) (t : Tn (d + 1)) (rws : List (Value × Nat)) (w : World) (B : Nat) (gv : Value) (L : List Value) (hB : B ≤ w.heap.size) (hrb : ∀ p ∈ rws, ∀ g, p.1.ownBlock = some g → g < B) (hT : TyO w lo (d + 1) x t rws) (hown : w.ownsRow B 27 1 gv L.length L) (hL : L.length + rws.length ≤ 500000000000) :
  Calls Tryz.prog 35 #[gv, x] w fun r w' => ∃ gv', r = .returned gv' ∧ Ls w w' B gv gv' (L ++ rws.map (·.1)) := by
 obtain ⟨i0, hi, hz0, hz1, hz2⟩ := info_parts Tryz.info27'
 obtain ⟨⟨k, n⟩, ts⟩ := t
 obtain ⟨v, hx, h1, h2, h⟩ := hT
 simp only at hx h1 h2 h
 subst hx
 have gform : ∃ ad cp, gv = .slice ad L.length cp := by
  rcases hown.2 with ⟨e1, e2⟩ | ⟨g, cap, _, e1, _⟩
  ·exact ⟨none, 0, by rw [e1, e2]⟩
  ·exact ⟨_, _, e1⟩
 rcases h with ⟨rfl, ⟨ad, cap, rfl⟩, rfl⟩ | ⟨h0, es, rss, q1, q2, hv, rfl, hj⟩
 ·obtain ⟨ga, gc, rfl⟩ := gform
  obtain ⟨W, hW, hbW, hsW, b0, b1, b2⟩ := cells_box w (.int .i64 k) (.string ⟨n.toArray⟩) (.slice ad 0 cap) 29
  have HL : Hid (Ls w W B (.slice ga L.length gc) (.slice ga L.length gc) (L ++ List.map (·.1) ([] : List (Value × Nat)))) := by
   show Ls _ _ _ _ _ _
   rw [List.map_nil, List.append_nil]
   exact ⟨own_stay hown hbW, hbW.os, hbW.tape, hbW.output, hbW.size, fun b hb _ => hbW.block b hb, .inl rfl⟩
  clear IH hown hrb hL h1 h2
  go_enter Tryz.func35, Tryz.ntmps35
  go_wp2
  refine wp_loop_rounds 1 ?_
  rw [rounds_succ]
  go_wp2
  go_ret
  exact ⟨_, rfl, by rw [← hW]; exact HL.out⟩
 ·have hpos : 0 < ts.length := List.length_pos_iff.2 h0
  obtain ⟨g, cap, rfl, _, _⟩ := hv.form hpos
  have hgB : g < B := hrb (.slice (some ⟨g, 0, none⟩) ts.length cap, ts.length) List.mem_cons_self g rfl
  have hcap : ts.length ≤ cap := by
   rcases hv.2 with ⟨_, h'⟩ | ⟨g', cap', cur, h', _, _, hc, _⟩
   ·omega
   ·simp only [Value.slice.injEq, Option.some.injEq, Addr.mk.injEq, and_true, true_and] at h'
    omega
  have EC : Hid (∀ w', Below B w w' → ∀ j (h : j < ts.length) (h1 : j < es.length), w'.cell? ⟨g, j * 3, none⟩ = some (.int .i64 es[j].1) ∧ w'.cell? ⟨g, j * 3 + 1, none⟩ = some (.string es[j].2.1) ∧ w'.cell? ⟨g, j * 3 + 2, none⟩ = some es[j].2.2) := by
   intro w' hb j j0 j1
   have hc : ∀ i, i < 3 → ∀ u, (elCells es[j])[i]? = some u → w'.cell? ⟨g, j * 3 + i, none⟩ = some u := by
    intro i hi u hu
    have := hv.cells (g := g) rfl (j * 3 + i) u (by rw [elCells_get es j i j1 hi]; exact hu)
    have e : (⟨g, 0, none⟩ : Addr).add (j * 3 + i) = ⟨g, j * 3 + i, none⟩ := by
     unfold Addr.add
     split
     ·rename_i h0; rw [h0]
     ·simp
    rw [e] at this
    exact (hb.cell (p := ⟨g, j * 3 + i, none⟩) hgB).trans this
   exact ⟨hc 0 (by omega) _ rfl, hc 1 (by omega) _ rfl, hc 2 (by omega) _ rfl⟩
  have ET : Hid (∀ w', Below B w w' → ∀ j (h : j < ts.length) (h1 : j < es.length) (h2 : j < rss.length), TyO w' lo d (elV es[j]) ts[j] rss[j]) := by
   intro w' hb j j0 j1 j2
   refine TyO.on _ _ _ _ (fun p hp g' hg' => ?_) (hj j j0 j1 j2)
   exact hb.block g' (hrb p (List.mem_cons_of_mem _ (List.mem_flatten.2 ⟨_, List.getElem_mem j2, hp⟩)) g' hg')
  have ER : Hid (∀ j (h2 : j < rss.length), ∀ p ∈ rss[j], ∀ g, p.1.ownBlock = some g → g < B) := fun j j2 p hp => hrb p (List.mem_cons_of_mem _ (List.mem_flatten.2 ⟨_, List.getElem_mem j2, hp⟩))
  have HQ : Hid (es.length = ts.length ∧ rss.length = ts.length) := ⟨q1, q2⟩
  have HLn : Hid (L.length + (1 + rss.flatten.length) ≤ 500000000000) := by
   show _ ≤ _
   simp only [List.length_cons] at hL
   omega
  obtain ⟨W, hW, hbW, hsW, b0, b1, b2⟩ := cells_box w (.int .i64 k) (.string ⟨n.toArray⟩) (.slice (some ⟨g, 0, none⟩) ts.length cap) 29
  have ownW := own_stay hown hbW
  have HGO : Hid (w.ownsRow B 27 1 gv L.length L) := hown
  have HBW : Hid (Below w.heap.size w W) := hbW
  have HSW : Hid (W.heap.size = w.heap.size + 1) := hsW
  have hp' : (0 : Int) < (ts.length : Int) := by omega
  have hLs : L.length ≤ 500000000000 := by have := HLn.out; omega
  have hBW : B ≤ W.heap.size := by omega
  obtain ⟨ga, gc, rfl⟩ := gform
  clear hj hv hrb hL h1 hbW hsW hown
  go_enter Tryz.func35, Tryz.ntmps35
  go_upto_region 1 with fail
  rw [← hW]
  generalize hz : w.heap.size = z at b0 b1 b2 ⊢
  have HZ : Hid (w.heap.size = z) := hz
  clear hW hz
  go_wp2_with (at_builtin; refine wpList_append_lies _ rfl _ _ 70 rfl B 27 i0 _ 1 24 Tryz.underlying70 hi hz0 hz1 hz2 rfl (by decide) _ _ _ rfl (ownW.alloc _) ⟨W.heap.size, 0, none⟩ 1 1 [.slice (some ⟨g, 0, none⟩) ts.length cap] rfl rfl (World.news_of_block (heap_alloc_new W _)) (by intro u hu; simp at hu; subst hu; rfl) (by omega) (by unfold maxLen; omega) (by omega) (by simp; omega) (W.heap.size + 1) (by simp) ?_; intro g' cap' W3 hown3 hgr3 hat3 hlt3)
  have L1 : Ls w W3 B (.slice ga L.length gc) (.slice (some ⟨g', 0, none⟩) (L.length + 1) cap') (L ++ [.slice (some ⟨g, 0, none⟩) ts.length cap]) := by
   have hb := HBW.out
   have hs := HSW.out
   refine ⟨by simpa using hown3, hgr3.os.trans hb.os, hgr3.tape.trans hb.tape, hgr3.output.trans hb.output, by have := hgr3.size; simp at this; omega, fun b h1 h2 => ?_, ?_⟩
   ·rw [hgr3.block b (by simp; omega) (Ne.symm h2), Below.heap_alloc _ _ _ (by omega)]
    exact hb.block b h1
   ·rcases hat3 with h | h
    ·exact .inl h.symm
    ·exact .inr ⟨g', rfl, by omega⟩
  have hzo : (Value.slice ga L.length gc).ownBlock ≠ some z := fun e => by have := (HGO.out.lt z e).2; have := HZ.out; omega
  have hz3 : W3.heap[z]? = W.heap[z]? := by
   have hs := HSW.out
   have := HZ.out
   rw [hgr3.block z (by simp; omega) (Ne.symm hzo), Below.heap_alloc _ _ _ (by omega)]
  have hzg : (Value.slice (some ⟨g', 0, none⟩) (L.length + 1) cap').ownBlock ≠ some z := fun e => by
   have e' : g' = z := by simpa [Value.ownBlock] using e
   have hs := HSW.out
   have := HZ.out
   rcases hat3 with h | h
   ·exact hzo ((h : (Value.slice ga L.length gc).ownBlock = some g').trans (by rw [e']))
   ·omega
  clear ownW hown3 hgr3 hat3 hlt3
  go_loopw [0, 5] (fun gvj iv wr => ∃ (j : Nat), j ≤ ts.length ∧ iv = .int .i64 j ∧ Ls w wr B (.slice ga L.length gc) gvj (L ++ (.slice (some ⟨g, 0, none⟩) ts.length cap :: (rss.take j).flatten.map (·.1))) ∧ wr.heap[z]? = W.heap[z]? ∧ gvj.ownBlock ≠ some z) (fun _ iv _ => ts.length - (intOf iv).toNat)
  case atStart => exact ⟨0, by omega, by go_num, by simpa using L1, hz3, hzg⟩
  case round =>
   obtain ⟨j, hj, rfl, HLj, hzj, hzo'⟩ := hrel
   have hbel := HLj.from hB HGO.out
   have hzw : z < wr.heap.size := by
    have := HLj.size
    have := HZ.out
    have := HSW.out
    have : z < W.heap.size := by omega
    rcases Nat.lt_or_ge z wr.heap.size with h | h
    ·exact h
    ·rw [Array.getElem?_eq_none h, Array.getElem?_eq_getElem this] at hzj; cases hzj
   have x2 : wr.cell? ⟨z, 2, none⟩ = some (.slice (some ⟨g, 0, none⟩) ts.length cap) := (World.cell?_of_block (a := ⟨z, 2, none⟩) hzj).trans b2
   by_cases hlt : j < ts.length
   ·have hq := HQ.out
    have j1 : j < es.length := by omega
    have j2 : j < rss.length := by omega
    obtain ⟨p0, p1, p2⟩ := EC.out wr hbel j hlt j1
    have TJ := ET.out wr hbel j hlt j1 j2
    obtain ⟨ad1, l1, cp1, hsl⟩ := TJ.slice
    have hfl := take_flat_le j2
    have CJ := IH _ _ _ wr B u0 _ (by have := HLj.size; omega) (ER.out j j2) TJ HLj.own (by have := HLn.out; simp only [List.length_append, List.length_cons, List.length_map]; omega)
    have HNX : Hid (∀ w1 gv', Ls wr w1 B u0 gv' ((L ++ (.slice (some ⟨g, 0, none⟩) ts.length cap :: (rss.take j).flatten.map (·.1))) ++ rss[j].map (·.1)) → Ls w w1 B (.slice ga L.length gc) gv' (L ++ (.slice (some ⟨g, 0, none⟩) ts.length cap :: (rss.take (j + 1)).flatten.map (·.1))) ∧ w1.heap[z]? = W.heap[z]? ∧ gv'.ownBlock ≠ some z) := by
     intro w1 gv' hL'
     have h1 := HLj.trans hL'
     refine ⟨?_, (hL'.block z hzw hzo').trans hzj, ?_⟩
     ·rw [take_flat j2, List.map_append]
      simpa using h1
     ·rcases hL'.where' with e | ⟨g2, e, hg2⟩
      ·rw [e]; exact hzo'
      ·rw [e]
       intro e'
       have := Option.some.inj e'
       omega
    unfold elV at CJ
    rw [hsl] at p2 CJ
    generalize es[j].1 = k1 at *
    generalize es[j].2.1 = n1 at *
    have i1 : (0 : Int) ≤ (j : Int) := by omega
    have i2 : (j : Int) < (ts.length : Int) := by omega
    have hjl : j + 1 ≤ ts.length := hlt
    clear TJ IH b0 b1 b2 HLj hbel L1
    go_wp2_with (go_at_call 35; (with_reducible refine Calls.mono CJ ?_); rintro e' w1 ⟨gv', rfl, hL'⟩)
    obtain ⟨n1', n2', n3'⟩ := HNX.out w1 gv' hL'
    go_roundw
    case rel => exact ⟨j + 1, hjl, by go_num, n1', n2', n3'⟩
    case measure => simp [intOf]; omega
   ·have ej : rss.take j = rss := List.take_of_length_le (by have := HQ.out; omega)
    rw [ej] at HLj
    have HF : Hid (Ls w wr B (.slice ga L.length gc) u0 (L ++ List.map (·.1) ((.slice (some ⟨g, 0, none⟩) ts.length cap, ts.length) :: rss.flatten))) := HLj
    clear IH HLj
    go_wp2
    go_ret
    exact ⟨_, rfl, HF.out⟩
theorem lists_any (lo : Nat) : ∀ (d : Nat) (x : Value) (t : Tn d) (rws : List (Value × Nat)) (w : World) (B : Nat) (gv : Value) (L : List Value), B ≤ w.heap.size → (∀ p ∈ rws, ∀ g, p.1.ownBlock = some g → g < B) → TyO w lo d x t rws → w.ownsRow B 27 1 gv L.length L → L.length + rws.length ≤ 500000000000 →
   Calls Tryz.prog 35 #[gv, x] w fun r w' => ∃ gv', r = .returned gv' ∧ Ls w w' B gv gv' (L ++ rws.map (·.1))
 | 0, _, _, _, _, _, _, _, _, _, h, _, _ => h.elim
 | d + 1, x, t, rws, w, B, gv, L, h1, h2, h3, h4, h5 => lists_step lo d (lists_any lo d) x t rws w B gv L h1 h2 h3 h4 h5
end Go.Proofs.YtikpipenhamdbaaGreat
