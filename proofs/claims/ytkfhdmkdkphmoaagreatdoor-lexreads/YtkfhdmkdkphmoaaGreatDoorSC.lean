/- Rows that are one family: blocks whose cells bear one mark up to a length; what an append of marks does to them. What holds of memory between the steps of owned. owned answers true of four rows that are their owner's. -/
import Derived.Test.YtkfhdmkdkphmoaaGreatDoorLb
import Derived.Lib.SlBuf
import Derived.ArgAppend
import Derived.Deep.AppendLies
import Derived.Lib.AppendZeros
import Derived.Deep.RegionHeldLaw
import Derived.Deep.Cut
namespace Go.Proofs.YtkfhdmkdkphmoaaGreatDoor
open Go.RowKit

/-- The mark of a family. -/
@[reducible] def mkV (i : Nat) : Value := .int .i64 (-1 - (i : Int))
/-- The cells of so many marks. -/
def mkL (i : Nat) : Nat → List Value
  | 0 => []
  | m + 1 => [mkV i, .string ⟨#[]⟩, .int .i64 0, .int .i64 0] ++ mkL i m
theorem mkL_len (i m : Nat) : (mkL i m).length = m * 4 := by
  induction m with
  | zero => rfl
  | succ m ih => simp [mkL, ih]; omega
theorem mkL_at (i : Nat) : ∀ (m q : Nat), q < m → (mkL i m)[q * 4]? = some (mkV i)
  | m + 1, 0, _ => rfl
  | m + 1, q + 1, h => by
    have := mkL_at i m q (by omega)
    rw [mkL, List.getElem?_append_right (by simp; omega)]
    simpa [show (q + 1) * 4 - 4 = q * 4 by omega] using this
theorem mkL_one (i m : Nat) : ∀ u ∈ mkL i m, u.oneCell' = true := by
  induction m with
  | zero => intro u hu; cases hu
  | succ m ih =>
    intro u hu
    rw [mkL, List.mem_append] at hu
    rcases hu with hu | hu
    · simp at hu
      rcases hu with rfl | rfl | rfl | rfl <;> rfl
    · exact ih u hu

/-- Which block belongs to which family, how far it is marked, and how much it holds. -/
structure Fm where
  D : Nat → Nat → Prop
  M : Nat → Nat
  C : Nat → Nat

structure Inv (lo : Nat) (W : World) (f : Fm) : Prop where
  uniq : ∀ g i j, f.D g i → f.D g j → i = j
  lo : ∀ g i, f.D g i → lo ≤ g
  lt : ∀ g i, f.D g i → g < W.heap.size
  mc : ∀ g i, f.D g i → f.M g ≤ f.C g
  cmax : ∀ g i, f.D g i → f.C g ≤ maxLen
  there : ∀ g i, f.D g i → ∀ x, x < f.C g * 4 → (W.cell? ⟨g, x, none⟩).isSome = true
  free : ∀ g i, f.D g i → ∀ x, W.frozen? ⟨g, x, none⟩ = false
  mark : ∀ g i, f.D g i → ∀ j, j < f.M g → W.cell? ⟨g, j * 4, none⟩ = some (mkV i)

/-- A slice of a family. -/
def Val (f : Fm) (i : Nat) (v : Value) (n : Nat) : Prop := (v = .slice none 0 0 ∧ n = 0) ∨ ∃ g, v = .slice (some ⟨g, 0, none⟩) n (f.C g) ∧ f.D g i ∧ n ≤ f.M g

/-- What is no family's stays as it is. -/
structure Off (f : Fm) (W : World) (f' : Fm) (W' : World) : Prop where
  os : W'.os = W.os
  tape : W'.tape = W.tape
  output : W'.output = W.output
  size : W.heap.size ≤ W'.heap.size
  block : ∀ k, k < W.heap.size → (∀ i, ¬ f.D k i) → W'.heap[k]? = W.heap[k]? ∧ ∀ i, ¬ f'.D k i

theorem Inv.keep {lo : Nat} {W W' : World} {f : Fm} (h : Inv lo W f) (hb : ∀ k i, f.D k i → W'.heap[k]? = W.heap[k]?) (hs : W.heap.size ≤ W'.heap.size) : Inv lo W' f where
  uniq := h.uniq
  lo := h.lo
  lt := fun g i hd => Nat.lt_of_lt_of_le (h.lt g i hd) hs
  mc := h.mc
  cmax := h.cmax
  there := fun g i hd x hx => by rw [World.cell?_of_block (a := ⟨g, x, none⟩) (hb g i hd)]; exact h.there g i hd x hx
  free := fun g i hd x => by rw [World.frozen?_of_block (a := ⟨g, x, none⟩) (hb g i hd)]; exact h.free g i hd x
  mark := fun g i hd j hj => by rw [World.cell?_of_block (a := ⟨g, j * 4, none⟩) (hb g i hd)]; exact h.mark g i hd j hj
theorem Inv.below {lo : Nat} {W W' : World} {f : Fm} (h : Inv lo W f) (hb : Below W.heap.size W W') : Inv lo W' f := h.keep (fun k i hd => hb.block k (h.lt k i hd)) hb.size

/-- A new block joins a family. -/
def Fm.add (f : Fm) (g i m c : Nat) : Fm := { D := fun k j => f.D k j ∨ (k = g ∧ j = i), M := fun k => if k = g then m else f.M k, C := fun k => if k = g then c else f.C k }
/-- A block of a family is marked further. -/
def Fm.more (f : Fm) (g m : Nat) : Fm := { D := f.D, M := fun k => if k = g then max m (f.M k) else f.M k, C := f.C }

theorem Val.add {f : Fm} {g i m c j n : Nat} {v : Value} (h : Val f j v n) (hg : ∀ i, ¬ f.D g i) : Val (f.add g i m c) j v n := by
  rcases h with h | ⟨k, rfl, hd, hn⟩
  · exact .inl h
  · have ne : k ≠ g := fun e => hg j (e ▸ hd)
    refine .inr ⟨k, ?_, .inl hd, ?_⟩
    · simp [Fm.add, ne]
    · simp [Fm.add, ne]; exact hn
theorem Val.more {f : Fm} {g m j n : Nat} {v : Value} (h : Val f j v n) : Val (f.more g m) j v n := by
  rcases h with h | ⟨k, rfl, hd, hn⟩
  · exact .inl h
  · refine .inr ⟨k, rfl, hd, ?_⟩
    simp only [Fm.more]
    split <;> omega

theorem Inv.add {lo : Nat} {W' : World} {f : Fm} {g i m c : Nat} (h : Inv lo W' f) (hg : ∀ i, ¬ f.D g i) (hlo : lo ≤ g) (hlt : g < W'.heap.size) (hmc : m ≤ c) (hc : c ≤ maxLen) (ht : ∀ x, x < c * 4 → (W'.cell? ⟨g, x, none⟩).isSome = true) (hf : ∀ x, W'.frozen? ⟨g, x, none⟩ = false) (hm : ∀ j, j < m → W'.cell? ⟨g, j * 4, none⟩ = some (mkV i)) : Inv lo W' (f.add g i m c) := by
  have ne : ∀ k j, f.D k j → k ≠ g := fun k j hd e => hg j (e ▸ hd)
  constructor
  · rintro k a b (ha | ⟨rfl, rfl⟩) (hb | ⟨e, rfl⟩)
    · exact h.uniq k a b ha hb
    · exact absurd e (ne _ _ ha)
    · exact absurd rfl (ne _ _ hb)
    · rfl
  · rintro k a (ha | ⟨rfl, rfl⟩)
    · exact h.lo k a ha
    · exact hlo
  · rintro k a (ha | ⟨rfl, rfl⟩)
    · exact h.lt k a ha
    · exact hlt
  · rintro k a (ha | ⟨rfl, rfl⟩)
    · simp [Fm.add, ne _ _ ha]; exact h.mc k a ha
    · simp [Fm.add]; exact hmc
  · rintro k a (ha | ⟨rfl, rfl⟩)
    · simp [Fm.add, ne _ _ ha]; exact h.cmax k a ha
    · simp [Fm.add]; exact hc
  · rintro k a (ha | ⟨rfl, rfl⟩) x hx
    · simp [Fm.add, ne _ _ ha] at hx; exact h.there k a ha x hx
    · simp [Fm.add] at hx; exact ht x hx
  · rintro k a (ha | ⟨rfl, rfl⟩) x
    · exact h.free k a ha x
    · exact hf x
  · rintro k a (ha | ⟨rfl, rfl⟩) j hj
    · simp [Fm.add, ne _ _ ha] at hj; exact h.mark k a ha j hj
    · simp [Fm.add] at hj; exact hm j hj

theorem fam_append (lo : Nat) (W : World) (f : Fm) (i n m b : Nat) (v : Value) (ty : TypeId) (fr : Nat × Nat) (hI : Inv lo W f) (hlo : lo ≤ W.heap.size) (hv : Val f i v n) (hb : W.heap[b]? = some (.cells (mkL i m).toArray 39 fr)) (hm : 0 < m) (hm9 : m ≤ 9) (hn : n ≤ 30000) :
    ∃ v' W' f', (Builtin.append_ #[23, 23] ty #[v, .slice (some ⟨b, 0, none⟩) m m]).run Tryz.prog W = .ok v' W' ∧ Inv lo W' f' ∧ Val f' i v' (n + m) ∧ (∀ j u k, Val f j u k → Val f' j u k) ∧ Off f W f' W' := by
  obtain ⟨i0, hi, hz0, hz1, hz2⟩ := info_parts Tryz.info39
  have hnews := World.news_of_block hb
  have hnl := mkL_len i m
  have grow : ∀ (xs : List Value) (v' : Value) (W' : World), xs.length = n * 4 → (∀ j, j < n → xs[j * 4]? = some (mkV i)) → W'.ownsRow W.heap.size 39 4 v' (n + m) (xs ++ mkL i m) → W.grownBy W' none →
      ∃ f', Inv lo W' f' ∧ Val f' i v' (n + m) ∧ (∀ j u k, Val f j u k → Val f' j u k) ∧ Off f W f' W' := by
    intro xs v' W' hxl hx hown hgr
    obtain ⟨g, cap, rfl, hg, hlt⟩ := hown.form (by omega)
    have nd : ∀ j, ¬ f.D g j := fun j hd => by have := hI.lt g j hd; omega
    rcases hown.2 with ⟨h', _⟩ | ⟨g', cap', cur, h', _, hgg, hnc, hcm, hcs, htk⟩
    · simp at h'
    simp only [Value.slice.injEq, Option.some.injEq, Addr.mk.injEq, and_true, true_and] at h'
    obtain ⟨rfl, rfl⟩ := h'
    refine ⟨f.add g i (n + m) cap, ?_, ?_, fun j u k h => h.add nd, ?_⟩
    · refine Inv.add (hI.keep (fun k j hd => hgr.block k (hI.lt k j hd) (by simp)) hgr.size) nd (by omega) hlt hnc hcm (fun x hx => ?_) (fun x => ?_) (fun j hj => ?_)
      · rw [cell_block hgg, Array.getElem?_eq_getElem (by omega)]
        rfl
      · exact frozen_block hgg
      · rw [hown.cellAt (j * 4) (by omega)]
        by_cases hjn : j < n
        · rw [List.getElem?_append_left (by omega)]
          exact hx j hjn
        · rw [List.getElem?_append_right (by omega), hxl, show j * 4 - n * 4 = (j - n) * 4 by omega]
          exact mkL_at i m (j - n) (by omega)
    · exact .inr ⟨g, by simp [Fm.add], .inr ⟨rfl, rfl⟩, by simp [Fm.add]⟩
    · refine ⟨hgr.os, hgr.tape, hgr.output, hgr.size, fun k hk hd => ⟨hgr.block k hk (by simp), ?_⟩⟩
      rintro j (h | ⟨e, _⟩)
      · exact hd j h
      · omega
  rcases hv with ⟨rfl, rfl⟩ | ⟨g, rfl, hd, hn2⟩
  · obtain ⟨g, cap, W', hr, hown, hgr, _, _⟩ := run_append_lies (P := Tryz.prog) W 23 ty W.heap.size 39 i0 _ 4 40 Tryz.underlying23 hi hz0 hz1 hz2 rfl (by decide) (.slice none 0 0) 0 [] (World.ownsRow_nil _ _ _ _) ⟨b, 0, none⟩ m m (mkL i m) hnl hnews (mkL_one i m) hm (by unfold maxLen; omega) (by omega) (Nat.le_refl _) _ rfl
    obtain ⟨f', h1, h2, h3, h4⟩ := grow [] _ W' rfl (fun j hj => by omega) hown hgr
    exact ⟨_, W', f', hr, h1, h2, h3, h4⟩
  · by_cases hroom : n + m ≤ f.C g
    · have hr := run_append_room_cells (P := Tryz.prog) W 23 ty 39 i0 Tryz.underlying23 hi g 0 n (f.C g) ⟨b, 0, none⟩ m m (mkL i m) (by rw [hz1]; exact hnl) hnews (mkL_one i m) hroom
        (fun j hj => by rw [hz1]; exact hI.there g i hd _ (by omega)) (fun j _ => hI.free g i hd _)
      rw [hz1, Nat.zero_add] at hr
      have hin := World.cell?_setCells_in g (mkL i m) (n * 4) W (fun j hj => hI.there g i hd _ (by omega))
      have hout := World.cell?_setCells_out g (mkL i m) (n * 4) W
      have hbel := Lib.below_setCells (a := W) g (Nat.le_refl _) (mkL i m) (n * 4) (Below.refl g W)
      have hother : ∀ k, k ≠ g → (W.setCells g (n * 4) (mkL i m)).heap[k]? = W.heap[k]? := by
        intro k hk
        have : ∀ (vs : List Value) (o : Nat) (w : World), (w.setCells g o vs).heap[k]? = w.heap[k]? := by
          intro vs
          induction vs with
          | nil => intro o w; rfl
          | cons u r ih =>
            intro o w
            rw [World.setCells, ih, Below.heap_setCell _ _ _ _ hk]
        exact this _ _ _
      have hne : ∀ k j x, f.D k j → k ≠ g → (W.setCells g (n * 4) (mkL i m)).cell? ⟨k, x, none⟩ = W.cell? ⟨k, x, none⟩ := fun k j x _ hk => World.cell?_of_block (a := ⟨k, x, none⟩) (hother k hk)
      refine ⟨_, _, f.more g (n + m), hr, ?_, .inr ⟨g, rfl, hd, ?_⟩, fun j u k h => h.more, ?_⟩
      · constructor
        · exact hI.uniq
        · exact hI.lo
        · intro k j hk
          exact Nat.lt_of_lt_of_le (hI.lt k j hk) hbel.size
        · intro k j hk
          simp only [Fm.more]
          have := hI.mc k j hk
          split
          · rename_i e; subst e; omega
          · exact this
        · exact hI.cmax
        · intro k j hk x hx
          by_cases e : k = g
          · subst e
            by_cases h1 : n * 4 ≤ x ∧ x < n * 4 + (mkL i m).length
            · obtain ⟨d, rfl⟩ : ∃ d, x = n * 4 + d := ⟨x - n * 4, by omega⟩
              rw [hin d (by omega)]
              rfl
            · rw [hout ⟨k, x, none⟩ (fun _ _ => by show x < n * 4 ∨ n * 4 + (mkL i m).length ≤ x; omega)]
              exact hI.there k j hk x hx
          · rw [hne k j x hk e]
            exact hI.there k j hk x hx
        · intro k j hk x
          rw [World.frozen?_setCells]
          exact hI.free k j hk x
        · intro k j hk q hq
          by_cases e : k = g
          · subst e
            obtain rfl := hI.uniq k j i hk hd
            by_cases h1 : n ≤ q ∧ q < n + m
            · have h2 := mkL_at j m (q - n) (by omega)
              have h3 : (q - n) * 4 < (mkL j m).length := by omega
              have h4 := hin ((q - n) * 4) h3
              rw [show n * 4 + (q - n) * 4 = q * 4 by omega] at h4
              rw [h4]
              rw [List.getElem?_eq_getElem h3] at h2
              exact h2
            · rw [hout ⟨k, q * 4, none⟩ (fun _ _ => by show q * 4 < n * 4 ∨ n * 4 + (mkL j m).length ≤ q * 4; omega)]
              refine hI.mark k j hk q ?_
              simp [Fm.more] at hq
              omega
          · rw [hne k j _ hk e]
            refine hI.mark k j hk q ?_
            simp [Fm.more, e] at hq
            exact hq
      · simp [Fm.more]
        omega
      · refine ⟨hbel.os, hbel.tape, hbel.output, hbel.size, fun k hk hnd => ⟨hother k (fun e => hnd i (e ▸ hd)), hnd⟩⟩
    · have hmc := hI.mc g i hd
      obtain ⟨v', W', hr, hown, hgr⟩ := run_append_arg_grows (P := Tryz.prog) W 23 ty 39 i0 _ 4 40 Tryz.underlying23 hi hz0 hz1 hz2 rfl (by decide) ⟨g, 0, none⟩ n (f.C g) ((List.range (n * 4)).map fun x => (W.cell? ⟨g, x, none⟩).getD undef) (by simp)
        (fun j u hj => by
          rw [List.getElem?_map] at hj
          obtain ⟨x, hx, rfl⟩ := Option.map_eq_some_iff.1 hj
          have hlt := (List.getElem?_eq_some_iff.1 hx).1
          simp at hlt
          simp [hlt] at hx
          subst hx
          have hadd : (⟨g, 0, none⟩ : Addr).add j = ⟨g, j, none⟩ := by unfold Addr.add; split <;> simp_all
          rw [hadd]
          obtain ⟨u, hu⟩ := Option.isSome_iff_exists.1 (hI.there g i hd j (by omega))
          rw [hu]
          rfl)
        ⟨b, 0, none⟩ m m (mkL i m) hnl hnews (by omega) (by unfold maxLen; omega) (by omega)
      obtain ⟨f', h1, h2, h3, h4⟩ := grow _ v' W' (by simp) (fun j hj => by
        rw [List.getElem?_map, List.getElem?_range (by omega)]
        simp only [Option.map_some]
        rw [hI.mark g i hd j (by omega)]
        rfl) hown hgr
      exact ⟨v', W', f', hr, h1, h2, h3, h4⟩
end Go.Proofs.YtkfhdmkdkphmoaaGreatDoor

namespace Go.Proofs.YtkfhdmkdkphmoaaGreatDoor
open Go.RowKit

/-- While the rows are written full. -/
structure PhA (w W : World) (lo R : Nat) (V : Nat → Value) (n : Nat → Nat) (i : Nat) (f : Fm) : Prop where
  bel : Below lo w W
  inv : Inv lo W f
  row : ∀ a, a < 4 → W.cell? ⟨R, a, none⟩ = some (V a)
  notR : ∀ j, ¬ f.D R j
  done : ∀ a, a < i → Val f a (V a) (n a)
  raw : ∀ a, i ≤ a → a < 4 → (∃ xs, W.ownsRow lo 39 4 (V a) (n a) xs) ∧ ∀ g, (V a).ownBlock = some g → ∀ j, ¬ f.D g j

/-- While one row is written: this block alone changes. -/
structure PhB (W0 W : World) (g i cap k : Nat) : Prop where
  os : W.os = W0.os
  tape : W.tape = W0.tape
  output : W.output = W0.output
  size : W.heap.size = W0.heap.size
  other : ∀ b, b ≠ g → W.heap[b]? = W0.heap[b]?
  this : ∃ cur, W.heap[g]? = some (.cells cur 39 (0, 0)) ∧ cur.size = cap * 4 ∧ ∀ j, j < k → cur[j * 4]? = some (mkV i)

theorem PhB.step {W0 W : World} {g i cap k : Nat} (h : PhB W0 W g i cap k) (hk : k < cap) :
    PhB W0 ((((W.setCell ⟨g, k * 4, none⟩ (mkV i)).setCell ⟨g, k * 4 + 1, none⟩ (.string ⟨#[]⟩)).setCell ⟨g, k * 4 + 2, none⟩ (.int .i64 0)).setCell ⟨g, k * 4 + 3, none⟩ (.int .i64 0)) g i cap (k + 1) := by
  obtain ⟨cur, h1, h2, h3⟩ := h.this
  refine ⟨h.os, h.tape, h.output, by simpa using h.size, fun b hb => ?_, ?_⟩
  · rw [Below.heap_setCell _ _ _ _ hb, Below.heap_setCell _ _ _ _ hb, Below.heap_setCell _ _ _ _ hb, Below.heap_setCell _ _ _ _ hb]
    exact h.other b hb
  · refine ⟨_, setCell_block (setCell_block (setCell_block (setCell_block h1))), by simpa using h2, fun j hj => ?_⟩
    rw [Array.getElem?_setIfInBounds_ne (by omega), Array.getElem?_setIfInBounds_ne (by omega), Array.getElem?_setIfInBounds_ne (by omega)]
    by_cases e : j = k
    · subst e
      rw [Array.getElem?_setIfInBounds_self_of_lt (by omega)]
    · rw [Array.getElem?_setIfInBounds_ne (by omega)]
      exact h3 j (by omega)

theorem PhA.next {w W0 W : World} {lo R : Nat} {V : Nat → Value} {n : Nat → Nat} {i : Nat} {f : Fm} {g cap : Nat} (h : PhA w W0 lo R V n i f) (hi : i < 4) (hv : V i = .slice (some ⟨g, 0, none⟩) (n i) cap) (hlo : lo ≤ g) (hgR : g ≠ R) (hnc : n i ≤ cap) (hcm : cap ≤ maxLen) (hb : PhB W0 W g i cap (n i))
    (hdis : ∀ a, i < a → a < 4 → (V a).ownBlock ≠ some g) : PhA w W lo R V n (i + 1) (f.add g i (n i) cap) := by
  obtain ⟨cur, h1, h2, h3⟩ := hb.this
  have nd : ∀ j, ¬ f.D g j := (h.raw i (Nat.le_refl _) hi).2 g (by rw [hv]; rfl)
  have glt : g < W.heap.size := lt_of_heap h1
  refine ⟨?_, ?_, ?_, ?_, ?_, ?_⟩
  · refine ⟨hb.os.trans h.bel.os, hb.tape.trans h.bel.tape, hb.output.trans h.bel.output, by rw [hb.size]; exact h.bel.size, fun k hk => ?_⟩
    rw [hb.other k (by omega)]
    exact h.bel.block k hk
  · refine Inv.add (h.inv.keep (fun k j hd => hb.other k (fun e => nd j (e ▸ hd))) (by rw [hb.size]; exact Nat.le_refl _)) nd hlo glt hnc hcm (fun x hx => ?_) (fun x => frozen_block h1) (fun j hj => ?_)
    · rw [cell_block h1, Array.getElem?_eq_getElem (by omega)]
      rfl
    · rw [cell_block h1]
      exact h3 j hj
  · intro a ha
    rw [World.cell?_of_block (a := ⟨R, a, none⟩) (hb.other R (Ne.symm hgR))]
    exact h.row a ha
  · rintro j (hd | ⟨e, _⟩)
    · exact h.notR j hd
    · exact hgR e.symm
  · intro a ha
    by_cases e : a = i
    · subst e
      exact .inr ⟨g, by rw [hv]; simp [Fm.add], .inr ⟨rfl, rfl⟩, by simp [Fm.add]⟩
    · exact (h.done a (by omega)).add nd
  · intro a ha ha4
    obtain ⟨⟨xs, hx⟩, hd⟩ := h.raw a (by omega) ha4
    have hne := hdis a (by omega) ha4
    refine ⟨⟨xs, hx.1, ?_⟩, ?_⟩
    · rcases hx.2 with h0 | ⟨g', cap', cur', e, hg', hgg, rest⟩
      · exact .inl h0
      · refine .inr ⟨g', cap', cur', e, hg', ?_, rest⟩
        rw [hb.other g' (fun e' => hne (by rw [e, e']; rfl))]
        exact hgg
    · rintro g' hg' j (hd' | ⟨e, _⟩)
      · exact hd g' hg' j hd'
      · exact hne (by rw [hg', e])

theorem PhA.skip {w W : World} {lo R : Nat} {V : Nat → Value} {n : Nat → Nat} {i : Nat} {f : Fm} (h : PhA w W lo R V n i f) (hv : V i = .slice none 0 0) (hn : n i = 0) : PhA w W lo R V n (i + 1) f :=
  ⟨h.bel, h.inv, h.row, h.notR, fun a ha => by
    by_cases e : a = i
    · subst e; exact .inl ⟨hv, hn⟩
    · exact h.done a (by omega), fun a ha h4 => h.raw a (by omega) h4⟩

/-- While the rows are grown. -/
structure PhC (w W : World) (lo R : Nat) (V : Nat → Value) (n : Nat → Nat) (c : Nat) (f : Fm) (gv : Value) (L : List Value) : Prop where
  bel : Below lo w W
  inv : Inv lo W f
  row : ∀ a, a < 4 → W.cell? ⟨R, a, none⟩ = some (V a)
  notR : ∀ j, ¬ f.D R j
  vals : ∀ a, a < 4 → Val f a (V a) (n a)
  len : L.length = c
  each : ∀ q, q < c → ∃ m u, m ≤ 30000 ∧ L[q]? = some u ∧ Val f (q / 21) u m
  own : W.ownsRow w.heap.size 23 1 gv c L
  ownD : ∀ k, gv.ownBlock = some k → ∀ j, ¬ f.D k j

theorem PhC.below {w W W' : World} {lo R : Nat} {V : Nat → Value} {n : Nat → Nat} {c : Nat} {f : Fm} {gv : Value} {L : List Value} (h : PhC w W lo R V n c f gv L) (hb : Below W.heap.size W W') (hR : R < w.heap.size) (hlw : lo ≤ w.heap.size) : PhC w W' lo R V n c f gv L :=
  ⟨h.bel.trans (hb.mono (Nat.le_trans hlw h.bel.size)), h.inv.below hb, fun a ha => (hb.cell (p := ⟨R, a, none⟩) (Nat.lt_of_lt_of_le hR h.bel.size)).trans (h.row a ha), h.notR, h.vals, h.len, h.each, own_stay h.own hb, h.ownD⟩
theorem PhC.ownOff {w W W' : World} {lo R : Nat} {V : Nat → Value} {n : Nat → Nat} {c : Nat} {f f' : Fm} {gv : Value} {L : List Value} (h : PhC w W lo R V n c f gv L) (ho : Off f W f' W') : W'.ownsRow w.heap.size 23 1 gv c L := by
  have hlt := h.own.lt
  refine ⟨h.own.1, ?_⟩
  rcases h.own.2 with h0 | ⟨g, cap, cur, rfl, hg, hgg, rest⟩
  · exact .inl h0
  · exact .inr ⟨g, cap, cur, rfl, hg, by rw [(ho.block g (hlt g rfl).2 (h.ownD g rfl)).1]; exact hgg, rest⟩
theorem Val.one {f : Fm} {i n : Nat} {v : Value} (h : Val f i v n) : v.oneCell' = true := by
  rcases h with ⟨rfl, _⟩ | ⟨g, rfl, _⟩ <;> rfl
theorem Val.form {f : Fm} {i n : Nat} {v : Value} (h : Val f i v n) : ∃ ad cap, v = .slice ad n cap := by
  rcases h with ⟨rfl, rfl⟩ | ⟨g, rfl, _⟩
  · exact ⟨_, _, rfl⟩
  · exact ⟨_, _, rfl⟩
theorem Off.drew {f f' : Fm} {W W' : World} (h : Off f W.drew f' W') : Off f W f' W' := ⟨h.os, h.tape, h.output, h.size, h.block⟩
/-- An append whose run is known, as one step of a region that draws its order. -/
theorem step_append_run {P : Program} {ops : Array Oper} {o : Oper} {a : Act} {w : World} {K : Act → World → Prop} {Q : Exit → Act → World → Prop} {E : Prop} (hgd : o.guard = none) (s x : Operand) (t tn : TypeId)
    (ho : o.op = .call { callee := .builtin .append, args := #[s, x], argTypes := #[t, tn] }) (vs vx : Value) (hs : a.eval s = vs) (hx : a.eval x = vx)
    (v' : Value) (w' : World) (hr : (Builtin.append_ #[t, tn] o.type #[vs, vx]).run P w = .ok v' w') (h : K (a.put o.dst v') w') :
    if Region.wanted o (yielded ops a.tmps) = true then Oper.wp P o a w K Q else E := by
  have hw : Region.wanted o (yielded ops a.tmps) = true := by simp [Region.wanted, hgd]
  rw [if_pos hw]
  exact Lib.wp_append_run w s x t tn ho vs vx hs hx v' w' hr h

theorem PhC.step {w W : World} {lo R : Nat} {V : Nat → Value} {n : Nat → Nat} {c : Nat} {f f' : Fm} {gv v' : Value} {L : List Value} {W' W3 : World} {o o2 : Obj} {m g' cap' : Nat} (h : PhC w W lo R V n c f gv L) (hR : R < w.heap.size) (hlw : lo ≤ w.heap.size)
    (hI : Inv lo W' f') (hext : ∀ j u k, Val f j u k → Val f' j u k) (hoff : Off f (W.alloc o) f' W') (hv : Val f' (c / 21) v' m) (hm : m ≤ 30000)
    (hown : W3.ownsRow w.heap.size 23 1 (.slice (some ⟨g', 0, none⟩) (c + 1) cap') (c + 1) (L ++ [v'])) (hgr : (W'.alloc o2).grownBy W3 gv.ownBlock) (hat : gv.ownBlock = some g' ∨ g' = W'.heap.size + 1) :
    PhC w W3 lo R V n (c + 1) f' (.slice (some ⟨g', 0, none⟩) (c + 1) cap') (L ++ [v']) ∧ ∀ b, b < W.heap.size → (∀ j, ¬ f.D b j) → gv.ownBlock ≠ some b → W3.heap[b]? = W.heap[b]? ∧ (∀ j, ¬ f'.D b j) ∧ (Value.slice (some ⟨g', 0, none⟩) (c + 1) cap').ownBlock ≠ some b := by
  have hlt := h.own.lt
  have hsz1 : W.heap.size + 1 ≤ W'.heap.size := by have := hoff.size; simpa using this
  have frame : ∀ b, b < W.heap.size → (∀ j, ¬ f.D b j) → gv.ownBlock ≠ some b → W3.heap[b]? = W.heap[b]? ∧ (∀ j, ¬ f'.D b j) ∧ (Value.slice (some ⟨g', 0, none⟩) (c + 1) cap').ownBlock ≠ some b := by
    intro b hb hd hne
    obtain ⟨e1, e2⟩ := hoff.block b (by simp; omega) hd
    refine ⟨?_, e2, ?_⟩
    · rw [hgr.block b (by simp; omega) (Ne.symm hne), heap_alloc_old W' o2 (by omega), e1, heap_alloc_old W o hb]
    · intro e
      have e' : g' = b := by simpa [Value.ownBlock] using e
      subst e'
      rcases hat with hat | hat
      · exact hne hat
      · omega
  have notR' : gv.ownBlock ≠ some R := fun e => by have := (hlt R e).1; omega
  have hRW : R < W.heap.size := Nat.lt_of_lt_of_le hR h.bel.size
  obtain ⟨r1, r2, _⟩ := frame R hRW h.notR notR'
  refine ⟨⟨?_, ?_, ?_, r2, ?_, ?_, ?_, hown, ?_⟩, frame⟩
  · have hs3 : W.heap.size ≤ W3.heap.size := by have := hgr.size; simp at this; omega
    refine ⟨hgr.os.trans (hoff.os.trans h.bel.os), hgr.tape.trans (hoff.tape.trans h.bel.tape), hgr.output.trans (hoff.output.trans h.bel.output), Nat.le_trans h.bel.size hs3, fun k hk => ?_⟩
    rw [(frame k (by have := h.bel.size; omega) (fun j hd => by have := h.inv.lo k j hd; omega) (fun e => by have := (hlt k e).1; omega)).1]
    exact h.bel.block k hk
  · refine hI.keep (fun k j hd => ?_) (by have := hgr.size; simp at this; omega)
    have hklt := hI.lt k j hd
    rw [hgr.block k (by simp; omega) ?_, heap_alloc_old W' o2 hklt]
    intro e
    have hkW := (hlt k e.symm).2
    exact (hoff.block k (by simp; omega) (h.ownD k e.symm)).2 j hd
  · intro a ha
    rw [World.cell?_of_block (a := ⟨R, a, none⟩) r1]
    exact h.row a ha
  · intro a ha
    exact hext _ _ _ (h.vals a ha)
  · rw [List.length_append, h.len]
    rfl
  · intro q hq
    by_cases e : q = c
    · subst e
      refine ⟨m, v', hm, ?_, hv⟩
      rw [List.getElem?_append_right (by rw [h.len]; omega), h.len]
      simp
    · obtain ⟨m', u, h1, h2, h3⟩ := h.each q (by omega)
      refine ⟨m', u, h1, ?_, hext _ _ _ h3⟩
      rw [List.getElem?_append_left (by rw [h.len]; omega)]
      exact h2
  · intro k hk j hd
    have e' : g' = k := by simpa [Value.ownBlock] using hk
    subst e'
    rcases hat with hat | hat
    · have hkW := (hlt g' hat).2
      exact (hoff.block g' (by simp; omega) (h.ownD g' hat)).2 j hd
    · have := hI.lt g' j hd
      omega
end Go.Proofs.YtkfhdmkdkphmoaaGreatDoor

namespace Go.Proofs.YtkfhdmkdkphmoaaGreatDoor
open Go.RowKit

theorem Tryz.info23 : (Tryz.prog.info? 23).map (fun i => (i.zero, i.size, i.bytes)) = some (some (.slice none 0 0), 1, 24) := by kernel_rfl

set_option maxHeartbeats 8000000 in
set_option maxRecDepth 10000 in
theorem owned_any (w : World) (R lo : Nat) (V : Nat → Value) (n : Nat → Nat) (hlw : lo ≤ w.heap.size) (hRl : R < w.heap.size) (hR : ∀ i, i < 4 → w.cell? ⟨R, i, none⟩ = some (V i)) (hown : ∀ i, i < 4 → ∃ xs, w.ownsRow lo 39 4 (V i) (n i) xs) (hn : ∀ i, i < 4 → n i ≤ 20000)
    (hdis : ∀ i j g, i < 4 → j < 4 → (V i).ownBlock = some g → (V j).ownBlock = some g → i = j) (hRn : ∀ i, i < 4 → (V i).ownBlock ≠ some R) :
    Calls Tryz.prog 9 #[.slice (some ⟨R, 0, none⟩) 4 4] w fun e w' => e = .returned (.bool true) ∧ Below lo w w' := by
  obtain ⟨i0, hi, hz0, hz1, hz2⟩ := info_parts Tryz.info23
  have A0 : PhA w w lo R V n 0 { D := fun _ _ => False, M := fun _ => 0, C := fun _ => 0 } :=
    ⟨Below.refl _ _, ⟨fun _ _ _ h => h.elim, fun _ _ h => h.elim, fun _ _ h => h.elim, fun _ _ h => h.elim, fun _ _ h => h.elim, fun _ _ h => h.elim, fun _ _ h => h.elim, fun _ _ h => h.elim⟩, hR, fun _ h => h, fun a ha => by omega, fun a _ h4 => ⟨hown a h4, fun _ _ _ h => h⟩⟩
  clear hR hown
  go_enter Tryz.func9, Tryz.ntmps9
  go_wp2_with fail
  go_loopw [4] (fun iv wr => ∃ (i : Nat) (f : Fm), i ≤ 4 ∧ iv = .int .i64 i ∧ PhA w wr lo R V n i f) (fun iv _ => 4 - (intOf iv).toNat)
  case atStart => exact ⟨0, _, by omega, by go_num, A0⟩
  case round =>
    obtain ⟨i, f, hi4, rfl, A⟩ := hrel
    clear A0
    obtain ⟨W0, rfl⟩ : ∃ W0, W0 = wr := ⟨_, rfl⟩
    by_cases hlt : i < 4
    · have hrow := A.row i hlt
      obtain ⟨⟨xs, hx⟩, hd⟩ := A.raw i (Nat.le_refl _) hlt
      have hni := hn i hlt
      rcases hx.2 with ⟨hv, h0⟩ | ⟨g, cap, cur, hv, hg, hgg, hnc, hcm, hcs, _⟩
      · have A' := A.skip hv h0
        rw [hv] at hrow
        clear A hx hd
        go_wp2_with fail
        refine wp_loop_rounds 1 ?_
        rw [rounds_succ]
        go_wp2_with fail
        go_roundw
        case rel => exact ⟨i + 1, f, by omega, by go_num, A'⟩
        case measure => simp [intOf]; omega
      · have hgR : g ≠ R := fun e => hRn i hlt (by rw [hv, e]; rfl)
        have hds : ∀ a, i < a → a < 4 → (V a).ownBlock ≠ some g := fun a h1 h2 e => by
          have := hdis a i g h2 hlt e (by rw [hv]; rfl)
          omega
        rw [hv] at hrow
        have B0 : PhB W0 W0 g i cap 0 := ⟨rfl, rfl, rfl, rfl, fun _ _ => rfl, cur, hgg, hcs, fun j hj => by omega⟩
        have HR : Hid (R ≠ g) := Ne.symm hgR
        have hnm : n i ≤ 20000 := hni
        clear hx hd hgg hcs
        obtain ⟨N, hN⟩ : ∃ N, N = n i := ⟨_, rfl⟩
        rw [← hN] at hrow hnm hnc
        have HN : Hid (N = n i) := hN
        clear hN
        go_wp2_with fail
        go_loopw [5] (fun kv wq => ∃ k : Nat, k ≤ N ∧ kv = .int .i64 k ∧ PhB W0 wq g i cap k) (fun kv _ => N - (intOf kv).toNat)
        case atStart => exact ⟨0, by omega, by go_num, B0⟩
        case round =>
          obtain ⟨k, hk, rfl, B⟩ := hrel
          obtain ⟨wq, rfl⟩ : ∃ wq, wq = wr := ⟨_, rfl⟩
          obtain ⟨cur', c1, c2, c3⟩ := B.this
          have hrow' : wq.cell? ⟨R, i, none⟩ = some (.slice (some ⟨g, 0, none⟩) N cap) := by
            rw [World.cell?_of_block (a := ⟨R, i, none⟩) (B.other R HR.out)]
            exact hrow
          clear B0
          by_cases hkl : k < N
          · have hk4 : k * 4 + 3 < cur'.size := by omega
            have q0 : wq.cell? ⟨g, k * 4, none⟩ = some cur'[k * 4] := (cell_block c1).trans (Array.getElem?_eq_getElem (by omega))
            have q1 : wq.cell? ⟨g, k * 4 + 1, none⟩ = some cur'[k * 4 + 1] := (cell_block c1).trans (Array.getElem?_eq_getElem (by omega))
            have q2 : wq.cell? ⟨g, k * 4 + 2, none⟩ = some cur'[k * 4 + 2] := (cell_block c1).trans (Array.getElem?_eq_getElem (by omega))
            have q3 : wq.cell? ⟨g, k * 4 + 3, none⟩ = some cur'[k * 4 + 3] := (cell_block c1).trans (Array.getElem?_eq_getElem (by omega))
            have z0 : wq.frozen? ⟨g, k * 4, none⟩ = false := frozen_block c1
            have z1 : wq.frozen? ⟨g, k * 4 + 1, none⟩ = false := frozen_block c1
            have z2 : wq.frozen? ⟨g, k * 4 + 2, none⟩ = false := frozen_block c1
            have z3 : wq.frozen? ⟨g, k * 4 + 3, none⟩ = false := frozen_block c1
            generalize cur'[k * 4] = x0 at q0
            generalize cur'[k * 4 + 1] = x1 at q1
            generalize cur'[k * 4 + 2] = x2 at q2
            generalize cur'[k * 4 + 3] = x3 at q3
            have B' := B.step (by omega : k < cap)
            clear B c1 c2 c3 hk4
            go_wp2_with fail
            go_roundw
            case rel => exact ⟨k + 1, by omega, by go_num, B'⟩
            case measure => simp [intOf]; omega
          · have ek : k = n i := by have := HN.out; omega
            rw [ek] at B
            have A' := A.next hlt (by rw [hv, ← HN.out]) hg hgR (by rw [← HN.out]; exact hnc) hcm B hds
            clear A B c1 c2 c3
            go_wp2_with fail
            go_roundw
            case rel => exact ⟨i + 1, _, by omega, by go_num, A'⟩
            case measure => simp [intOf]; omega
    · have e : i = 4 := by omega
      have hge : (4 : Int) ≤ i := by omega
      rw [e] at A
      have C0 : PhC w W0 lo R V n 0 f (.slice none 0 0) [] := ⟨A.bel, A.inv, A.row, A.notR, A.done, rfl, fun q hq => by omega, World.ownsRow_nil _ _ _ _, fun k hk => by simp [Value.ownBlock] at hk⟩
      clear A e hlt hi4
      obtain ⟨i4, rfl⟩ : ∃ i4, i4 = i := ⟨_, rfl⟩
      go_wp2_with fail
      go_loopw [3, 6] (fun gv iv wr => ∃ (i : Nat) (f : Fm) (L : List Value), i ≤ 4 ∧ iv = .int .i64 i ∧ PhC w wr lo R V n (21 * i) f gv L) (fun _ iv _ => 4 - (intOf iv).toNat)
      case atStart => exact ⟨0, f, [], by omega, by go_num, C0⟩
      case round =>
        obtain ⟨i, f, L, hi4, rfl, C⟩ := hrel
        obtain ⟨W1, rfl⟩ : ∃ W1, W1 = wr := ⟨_, rfl⟩
        clear C0
        by_cases hlt : i < 4
        · have hrow : ∀ o, (W1.alloc o).cell? ⟨R, i, none⟩ = some (V i) := fun o => (World.cell?_of_block (a := ⟨R, i, none⟩) (heap_alloc_old W1 o (Nat.lt_of_lt_of_le hRl C.bel.size))).trans (C.row i hlt)
          have hVi := C.vals i hlt
          have hlt' : (i : Int) < 4 := by omega
          have hni := hn i hlt
          obtain ⟨mb, HMB⟩ : ∃ mb, Hid (mb = W1.heap.size) := ⟨W1.heap.size, by show _ = _; rfl⟩
          obtain ⟨vi, HVI⟩ : ∃ vi, Hid (vi = V i) := ⟨V i, by show _ = _; rfl⟩
          rw [← HVI.out] at hrow hVi
          have C2 := C.below ((Below.refl _ _).alloc (Nat.le_refl _) (.cells #[mkV i, .string ⟨#[]⟩, .int .i64 0, .int .i64 0] 39)) hRl hlw
          have hmb0 : (W1.alloc (.cells #[mkV i, .string ⟨#[]⟩, .int .i64 0, .int .i64 0] 39)).heap[mb]? = some (.cells #[mkV i, .string ⟨#[]⟩, .int .i64 0, .int .i64 0] 39 (0, 0)) := by rw [HMB.out]; exact heap_alloc_new W1 _
          have hmbD : ∀ j, ¬ f.D mb j := fun j hd => by have := C.inv.lt mb j hd; have := HMB.out; omega
          have hmbO : u3.ownBlock ≠ some mb := fun e => by have := (C.own.lt mb e).2; have := HMB.out; omega
          go_wp2_with fail
          rw [← HMB.out]
          go_loopw [3, 8, 9] (fun gv lv tv wr => ∃ (t : Nat) (f : Fm) (L : List Value), t ≤ 20 ∧ tv = .int .i64 t ∧ PhC w wr lo R V n (21 * i + t) f gv L ∧ Val f i lv (n i + t) ∧ wr.heap[mb]? = some (.cells #[mkV i, .string ⟨#[]⟩, .int .i64 0, .int .i64 0] 39 (0, 0)) ∧ (∀ j, ¬ f.D mb j) ∧ gv.ownBlock ≠ some mb) (fun _ _ tv _ => 20 - (intOf tv).toNat)
          case atStart => exact ⟨0, f, L, by omega, by go_num, C2, hVi, hmb0, hmbD, hmbO⟩
          case round =>
            obtain ⟨t, f, L, ht, rfl, P, hl, hmb, hmD, hmO⟩ := hrel
            obtain ⟨W2, rfl⟩ : ∃ W2, W2 = wr := ⟨_, rfl⟩
            obtain ⟨⟨q0, q1, q2, q3⟩, _⟩ : (W2.cell? ⟨mb, 0, none⟩ = some (mkV i) ∧ W2.cell? ⟨mb, 1, none⟩ = some (.string ⟨#[]⟩) ∧ W2.cell? ⟨mb, 2, none⟩ = some (.int .i64 0) ∧ W2.cell? ⟨mb, 3, none⟩ = some (.int .i64 0)) ∧ True := ⟨⟨cell_block hmb, cell_block hmb, cell_block hmb, cell_block hmb⟩, trivial⟩
            have hmlt := lt_of_heap hmb
            clear C2 hmb0 hmbD hmbO C hVi
            by_cases ht2 : t < 20
            · obtain ⟨v', W', f', run, hI', hV', hext, hoff⟩ := fam_append lo (W2.alloc (.cells #[mkV i, .string ⟨#[]⟩, .int .i64 0, .int .i64 0] 39)) f i (n i + t) 1 W2.heap.size u8 23 (0, 0) (P.inv.below ((Below.refl _ _).alloc (Nat.le_refl _) _)) (by have := P.bel.size; simp; omega) hl (heap_alloc_new W2 _) (by omega) (by omega) (by omega)
              have ownW := (P.below ((Below.refl _ _).alloc (Nat.le_refl _) (.cells #[mkV i, .string ⟨#[]⟩, .int .i64 0, .int .i64 0] 39)) hRl hlw).ownOff hoff
              obtain ⟨ad', cp', rfl⟩ := hV'.form
              have hdiv : (21 * i + t) / 21 = i := by omega
              have hsz' : W2.heap.size + 1 ≤ W'.heap.size := by have := hoff.size; simpa using this
              have hsz2 := P.bel.size
              go_wp2_with (first | (at_builtin; refine Lib.wpList_append_run _ rfl _ _ 23 23 rfl _ _ rfl rfl _ _ run ?_) | (at_builtin; refine wpList_append_lies _ rfl _ _ 36 rfl w.heap.size 23 i0 _ 1 24 Tryz.underlying36 hi hz0 hz1 hz2 rfl (by decide) _ _ _ rfl (ownW.alloc _) ⟨W'.heap.size, 0, none⟩ 1 1 [.slice ad' (n i + t + 1) cp'] rfl rfl (World.news_of_block (heap_alloc_new W' _)) (by intro u hu; simp at hu; subst hu; rfl) (by omega) (by unfold maxLen; omega) (by omega) (by simp; omega) (W'.heap.size + 1) (by simp) ?_; intro g' cap' W3 hown3 hgr hat hlt3))
              obtain ⟨P', fr⟩ := P.step hRl hlw hI' hext hoff (by rw [hdiv]; exact hV') (by omega) hown3 hgr hat
              obtain ⟨m1, m2, m3⟩ := fr mb hmlt hmD hmO
              clear ownW hown3 hgr P hoff hI' run
              go_wp2_with fail
              go_roundw
              case rel => exact ⟨t + 1, f', _, by omega, by go_num, P', hV', m1.trans hmb, m2, m3⟩
              case measure => simp [intOf]; omega
            · have et : t = 20 := by omega
              have hdiv : (21 * i + t) / 21 = i := by omega
              have hROwn : u3.ownBlock ≠ some R := fun e => by have := (P.own.lt R e).1; omega
              have ht2' : ¬ (t : Int) < 20 := by omega
              have lit : (W2.alloc (.cells #[mkV i, .string ⟨#[]⟩, .int .i64 0, .int .i64 0, mkV i, .string ⟨#[]⟩, .int .i64 0, .int .i64 0, mkV i, .string ⟨#[]⟩, .int .i64 0, .int .i64 0, mkV i, .string ⟨#[]⟩, .int .i64 0, .int .i64 0, mkV i, .string ⟨#[]⟩, .int .i64 0, .int .i64 0, mkV i, .string ⟨#[]⟩, .int .i64 0, .int .i64 0, mkV i, .string ⟨#[]⟩, .int .i64 0, .int .i64 0, mkV i, .string ⟨#[]⟩, .int .i64 0, .int .i64 0, mkV i, .string ⟨#[]⟩, .int .i64 0, .int .i64 0] 39)).drew.heap[W2.heap.size]? = some (.cells #[mkV i, .string ⟨#[]⟩, .int .i64 0, .int .i64 0, mkV i, .string ⟨#[]⟩, .int .i64 0, .int .i64 0, mkV i, .string ⟨#[]⟩, .int .i64 0, .int .i64 0, mkV i, .string ⟨#[]⟩, .int .i64 0, .int .i64 0, mkV i, .string ⟨#[]⟩, .int .i64 0, .int .i64 0, mkV i, .string ⟨#[]⟩, .int .i64 0, .int .i64 0, mkV i, .string ⟨#[]⟩, .int .i64 0, .int .i64 0, mkV i, .string ⟨#[]⟩, .int .i64 0, .int .i64 0, mkV i, .string ⟨#[]⟩, .int .i64 0, .int .i64 0] 39 (0, 0)) := heap_alloc_new W2 _
              have bdr : Below W2.heap.size W2 (W2.alloc (.cells #[mkV i, .string ⟨#[]⟩, .int .i64 0, .int .i64 0, mkV i, .string ⟨#[]⟩, .int .i64 0, .int .i64 0, mkV i, .string ⟨#[]⟩, .int .i64 0, .int .i64 0, mkV i, .string ⟨#[]⟩, .int .i64 0, .int .i64 0, mkV i, .string ⟨#[]⟩, .int .i64 0, .int .i64 0, mkV i, .string ⟨#[]⟩, .int .i64 0, .int .i64 0, mkV i, .string ⟨#[]⟩, .int .i64 0, .int .i64 0, mkV i, .string ⟨#[]⟩, .int .i64 0, .int .i64 0, mkV i, .string ⟨#[]⟩, .int .i64 0, .int .i64 0] 39)).drew := ((Below.refl _ _).alloc (Nat.le_refl _) _).drew
              obtain ⟨v', W', f', run, hI', hV', hext, hoff⟩ := fam_append lo (W2.alloc (.cells #[mkV i, .string ⟨#[]⟩, .int .i64 0, .int .i64 0, mkV i, .string ⟨#[]⟩, .int .i64 0, .int .i64 0, mkV i, .string ⟨#[]⟩, .int .i64 0, .int .i64 0, mkV i, .string ⟨#[]⟩, .int .i64 0, .int .i64 0, mkV i, .string ⟨#[]⟩, .int .i64 0, .int .i64 0, mkV i, .string ⟨#[]⟩, .int .i64 0, .int .i64 0, mkV i, .string ⟨#[]⟩, .int .i64 0, .int .i64 0, mkV i, .string ⟨#[]⟩, .int .i64 0, .int .i64 0, mkV i, .string ⟨#[]⟩, .int .i64 0, .int .i64 0] 39)).drew f i (n i) 9 W2.heap.size (V i) 23 (0, 0) (P.inv.below bdr) (by have := P.bel.size; simp; omega) (P.vals i hlt) lit (by omega) (by omega) (by omega)
              have ownW := (P.below bdr hRl hlw).ownOff hoff
              have hRW : R < W2.heap.size := Nat.lt_of_lt_of_le hRl P.bel.size
              have hrR : W2.cell? ⟨R, i, none⟩ = some vi := (P.row i hlt).trans (by rw [HVI.out])
              rw [← HVI.out] at run
              obtain ⟨ad', cp', rfl⟩ := hV'.form
              have hoff' := hoff.drew
              have hsz' : W2.heap.size + 1 ≤ W'.heap.size := by have := hoff'.size; simpa using this
              have hsz2 := P.bel.size
              have bR : W'.heap[R]? = W2.heap[R]? := (hoff'.block R (by simp; omega) P.notR).1.trans (heap_alloc_old W2 _ hRW)
              have bM : W'.heap[mb]? = W2.heap[mb]? := (hoff'.block mb (by simp; omega) hmD).1.trans (heap_alloc_old W2 _ hmlt)
              have keepS : ∀ W : World, W.heap[R]? = W2.heap[R]? → W.heap[mb]? = W2.heap[mb]? → W.cell? ⟨R, i, none⟩ = some vi ∧ W.cell? ⟨mb, 0, none⟩ = some (mkV i) ∧ W.cell? ⟨mb, 1, none⟩ = some (.string ⟨#[]⟩) ∧ W.cell? ⟨mb, 2, none⟩ = some (.int .i64 0) ∧ W.cell? ⟨mb, 3, none⟩ = some (.int .i64 0) := fun W e1 e2 => ⟨(World.cell?_of_block (a := ⟨R, i, none⟩) e1).trans hrR, (World.cell?_of_block (a := ⟨mb, 0, none⟩) e2).trans q0, (World.cell?_of_block (a := ⟨mb, 1, none⟩) e2).trans q1, (World.cell?_of_block (a := ⟨mb, 2, none⟩) e2).trans q2, (World.cell?_of_block (a := ⟨mb, 3, none⟩) e2).trans q3⟩
              have K0 : Hid (W2.cell? ⟨R, i, none⟩ = some vi ∧ W2.cell? ⟨mb, 0, none⟩ = some (mkV i) ∧ W2.cell? ⟨mb, 1, none⟩ = some (.string ⟨#[]⟩) ∧ W2.cell? ⟨mb, 2, none⟩ = some (.int .i64 0) ∧ W2.cell? ⟨mb, 3, none⟩ = some (.int .i64 0)) := keepS W2 rfl rfl
              have KA : Hid (∀ o, (W2.alloc o).cell? ⟨R, i, none⟩ = some vi ∧ (W2.alloc o).cell? ⟨mb, 0, none⟩ = some (mkV i) ∧ (W2.alloc o).cell? ⟨mb, 1, none⟩ = some (.string ⟨#[]⟩) ∧ (W2.alloc o).cell? ⟨mb, 2, none⟩ = some (.int .i64 0) ∧ (W2.alloc o).cell? ⟨mb, 3, none⟩ = some (.int .i64 0)) := fun o => keepS (W2.alloc o) (heap_alloc_old W2 o hRW) (heap_alloc_old W2 o hmlt)
              have KW : Hid (W'.cell? ⟨R, i, none⟩ = some vi ∧ W'.cell? ⟨mb, 0, none⟩ = some (mkV i) ∧ W'.cell? ⟨mb, 1, none⟩ = some (.string ⟨#[]⟩) ∧ W'.cell? ⟨mb, 2, none⟩ = some (.int .i64 0) ∧ W'.cell? ⟨mb, 3, none⟩ = some (.int .i64 0)) := keepS W' bR bM
              have KB : Hid (∀ o, (W'.alloc o).cell? ⟨R, i, none⟩ = some vi ∧ (W'.alloc o).cell? ⟨mb, 0, none⟩ = some (mkV i) ∧ (W'.alloc o).cell? ⟨mb, 1, none⟩ = some (.string ⟨#[]⟩) ∧ (W'.alloc o).cell? ⟨mb, 2, none⟩ = some (.int .i64 0) ∧ (W'.alloc o).cell? ⟨mb, 3, none⟩ = some (.int .i64 0)) := fun o => keepS (W'.alloc o) ((heap_alloc_old W' o (by omega)).trans bR) ((heap_alloc_old W' o (by omega)).trans bM)
              have ST : Hid (∀ (g' cap' : Nat) (W3 : World), W3.ownsRow w.heap.size 23 1 (.slice (some ⟨g', 0, none⟩) (21 * i + t + 1) cap') (21 * i + t + 1) (L ++ [.slice ad' (n i + 9) cp']) → (W'.alloc (.cells #[.slice ad' (n i + 9) cp'] 23)).grownBy W3 u3.ownBlock → (u3.ownBlock = some g' ∨ g' = W'.heap.size + 1) →
                  PhC w W3 lo R V n (21 * i + t + 1) f' (.slice (some ⟨g', 0, none⟩) (21 * i + t + 1) cap') (L ++ [.slice ad' (n i + 9) cp']) ∧ (W3.cell? ⟨R, i, none⟩ = some vi ∧ W3.cell? ⟨mb, 0, none⟩ = some (mkV i) ∧ W3.cell? ⟨mb, 1, none⟩ = some (.string ⟨#[]⟩) ∧ W3.cell? ⟨mb, 2, none⟩ = some (.int .i64 0) ∧ W3.cell? ⟨mb, 3, none⟩ = some (.int .i64 0))) := by
                intro g' cap' W3 hown3 hgr hat
                obtain ⟨P', fr⟩ := P.step hRl hlw hI' hext hoff' (by rw [hdiv]; exact hV') (by omega) hown3 hgr hat
                exact ⟨P', keepS W3 (fr R hRW P.notR hROwn).1 (fr mb hmlt hmD hmO).1⟩
              have RUN : Hid ((Builtin.append_ #[23, 23] 23 #[vi, .slice (some ⟨W2.heap.size, 0, none⟩) 9 9]).run Tryz.prog (W2.alloc (.cells #[mkV i, .string ⟨#[]⟩, .int .i64 0, .int .i64 0, mkV i, .string ⟨#[]⟩, .int .i64 0, .int .i64 0, mkV i, .string ⟨#[]⟩, .int .i64 0, .int .i64 0, mkV i, .string ⟨#[]⟩, .int .i64 0, .int .i64 0, mkV i, .string ⟨#[]⟩, .int .i64 0, .int .i64 0, mkV i, .string ⟨#[]⟩, .int .i64 0, .int .i64 0, mkV i, .string ⟨#[]⟩, .int .i64 0, .int .i64 0, mkV i, .string ⟨#[]⟩, .int .i64 0, .int .i64 0, mkV i, .string ⟨#[]⟩, .int .i64 0, .int .i64 0] 39)).drew = .ok (.slice ad' (n i + 9) cp') W') := run
              have OW : Hid (W'.ownsRow w.heap.size 23 1 u3 (21 * i + t) L) := ownW
              have hsz3 : w.heap.size ≤ W'.heap.size := by omega
              have ET : Hid (t = 20) := et
              clear et keepS run ownW hoff hoff' hI' hV' hext lit bdr bR bM P hrR q0 q1 q2 q3 hmb hmD hmO hrow hROwn hdiv hdis hRn hl
              go_upto_region 19 with fail
              go_region_held_law (fun w' => w'.cell? ⟨R, i, none⟩ = some vi ∧ w'.cell? ⟨mb, 0, none⟩ = some (mkV i) ∧ w'.cell? ⟨mb, 1, none⟩ = some (.string ⟨#[]⟩) ∧ w'.cell? ⟨mb, 2, none⟩ = some (.int .i64 0) ∧ w'.cell? ⟨mb, 3, none⟩ = some (.int .i64 0)) (first | exact K0.out | exact KA.out _ | exact KW.out | exact KB.out _ | exact ST3.2) (first | (refine step_append_run (by rfl) _ _ 23 23 (by rfl) vi (.slice (some ⟨W2.heap.size, 0, none⟩) 9 9) (by rfl) (by rfl) _ _ RUN.out ?_) | (refine step_append_lies _ (by rfl) _ _ _ (by rfl) w.heap.size 23 i0 _ 1 24 Tryz.underlying36 hi hz0 hz1 hz2 rfl (by decide) u3 (21 * i + t) L (by rfl) (OW.out.alloc _) ⟨W'.heap.size, 0, none⟩ 1 1 [.slice ad' (n i + 9) cp'] (by rfl) (by rfl) (World.news_of_block (cs := #[.slice ad' (n i + 9) cp']) (t := 23) (fr := (0, 0)) (heap_alloc_new W' _)) (by simp [Value.oneCell']) (by omega) (by unfold maxLen; omega) (by omega) (by simp; omega) (W'.heap.size + 1) (by simp) ?_; intro g' cap' W3 hown3 hgr hat hlt3; have ST3 := ST.out g' cap' W3 hown3 hgr hat; clear hown3 hgr hat))
              go_wp2_with fail
              go_roundw
              case rel => exact ⟨i + 1, f', _, by omega, by go_num, by have := ET.out; rw [show 21 * (i + 1) = 21 * i + t + 1 by omega]; exact ST3.1⟩
              case measure => simp [intOf]; omega
        · have e4 : i = 4 := by omega
          have hge3 : (4 : Int) ≤ i := by omega
          rw [e4] at C
          obtain ⟨gb, cb, rfl, _, _⟩ := C.own.form (by omega)
          have IV : Hid (Inv lo W1 f) := C.inv
          have RW : Hid (∀ a, a < 4 → W1.cell? ⟨R, a, none⟩ = some (V a) ∧ Val f a (V a) (n a)) := fun a ha => ⟨C.row a ha, C.vals a ha⟩
          have GR : Hid (∀ q, q < 84 → ∃ m u, m ≤ 30000 ∧ W1.cell? ⟨gb, q, none⟩ = some u ∧ Val f (q / 21) u m) := fun q hq => by
            obtain ⟨m, u, h1, h2, h3⟩ := C.each q (by omega)
            exact ⟨m, u, h1, (C.own.cellAt q (by omega)).trans h2, h3⟩
          have BL : Hid (Below lo w W1) := C.bel
          have hcb : 84 ≤ cb := by
            rcases C.own.2 with ⟨h', _⟩ | ⟨g'', cap'', cur'', h', _, _, hnc, _⟩
            · simp at h'
            · simp only [Value.slice.injEq, Option.some.injEq, Addr.mk.injEq, and_true, true_and] at h'
              omega
          clear C e4 hlt hi4 hdis hRn
          obtain ⟨i3, rfl⟩ : ∃ i3, i3 = i := ⟨_, rfl⟩
          go_wp2_with fail
          go_loopw [10] (fun av wr => ∃ a : Nat, a ≤ 4 ∧ av = .int .i64 a ∧ wr = W1) (fun av _ => 4 - (intOf av).toNat)
          case atStart => exact ⟨0, by omega, by go_num, rfl⟩
          case round =>
            obtain ⟨a, ha4, rfl, hw⟩ := hrel
            obtain rfl := hw.symm
            by_cases ha : a < 4
            · have ha' : (a : Int) < 4 := by omega
              go_wp2_with fail
              go_loopw [11] (fun qv wr => ∃ q : Nat, q ≤ 22 ∧ qv = .int .i64 q ∧ wr = W1) (fun qv _ => 22 - (intOf qv).toNat)
              case atStart => exact ⟨0, by omega, by go_num, rfl⟩
              case round =>
                obtain ⟨q, hq, rfl, hw⟩ := hrel
                obtain rfl := hw.symm
                by_cases hq22 : q ≤ 21
                · have hq22' : (q : Int) ≤ 21 := by omega
                  obtain ⟨LD0, hVal0⟩ := RW.out a ha
                  have hna := hn a ha
                  obtain ⟨va, HVA⟩ : ∃ va, Hid (va = V a) := ⟨V a, by show _ = _; rfl⟩
                  rw [← HVA.out] at LD0 hVal0
                  by_cases hq21 : q < 21
                  · have hq21' : (q : Int) < 21 := by omega
                    obtain ⟨m, u, hm3, LDA, hVal⟩ := GR.out (21 * a + q) (by omega)
                    rw [show (21 * a + q) / 21 = a by omega] at hVal
                    clear hVal0
                    rcases hVal with ⟨hnil, hm0⟩ | ⟨gg, hsl, hD, hmM⟩
                    · rw [hnil] at LDA
                      go_wp2_with fail
                      refine wp_loop_rounds 1 ?_
                      rw [rounds_succ]
                      go_wp2_with fail
                      go_roundw
                      case rel => exact ⟨q + 1, by omega, by go_num, by first | rfl | trivial⟩
                      case measure => simp [intOf]; omega
                    · rw [hsl] at LDA
                      have HM : Hid (∀ k, k < m → W1.cell? ⟨gg, k * 4, none⟩ = some (mkV a)) := fun k hk => IV.out.mark gg a hD k (by omega)
                      have HCm : Hid (m ≤ f.C gg) := by have := IV.out.mc gg a hD; show m ≤ f.C gg; omega
                      generalize f.C gg = cc at LDA HCm
                      have hcc := HCm.out
                      clear hD hmM hsl
                      go_wp2_with fail
                      go_loopw [13] (fun kv wr => ∃ k : Nat, k ≤ m ∧ kv = .int .i64 k ∧ wr = W1) (fun kv _ => m - (intOf kv).toNat)
                      case atStart => exact ⟨0, by omega, by go_num, rfl⟩
                      case round =>
                        obtain ⟨k, hk, rfl, hw⟩ := hrel
                        obtain rfl := hw.symm
                        by_cases hkm : k < m
                        · have qk := HM.out k hkm
                          go_wp2_with fail
                          go_roundw
                          case rel => exact ⟨k + 1, by omega, by go_num, by first | rfl | trivial⟩
                          case measure => simp [intOf]; omega
                        · go_wp2_with fail
                          go_roundw
                          case rel => exact ⟨q + 1, by omega, by go_num, by first | rfl | trivial⟩
                          case measure => simp [intOf]; omega
                  · have hq21' : ¬ (q : Int) < 21 := by omega
                    obtain ⟨m, hm⟩ : ∃ m, m = n a := ⟨_, rfl⟩
                    have LDA := LD0
                    have hVal := hVal0
                    have hm3 : m ≤ 30000 := by omega
                    rw [← hm] at hVal
                    clear hVal0 LD0 hm hna
                    rcases hVal with ⟨hnil, hm0⟩ | ⟨gg, hsl, hD, hmM⟩
                    · rw [hnil] at LDA
                      go_wp2_with fail
                      refine wp_loop_rounds 1 ?_
                      rw [rounds_succ]
                      go_wp2_with fail
                      go_roundw
                      case rel => exact ⟨q + 1, by omega, by go_num, by first | rfl | trivial⟩
                      case measure => simp [intOf]; omega
                    · rw [hsl] at LDA
                      have HM : Hid (∀ k, k < m → W1.cell? ⟨gg, k * 4, none⟩ = some (mkV a)) := fun k hk => IV.out.mark gg a hD k (by omega)
                      have HCm : Hid (m ≤ f.C gg) := by have := IV.out.mc gg a hD; show m ≤ f.C gg; omega
                      generalize f.C gg = cc at LDA HCm
                      have hcc := HCm.out
                      clear hD hmM hsl
                      go_wp2_with fail
                      go_loopw [13] (fun kv wr => ∃ k : Nat, k ≤ m ∧ kv = .int .i64 k ∧ wr = W1) (fun kv _ => m - (intOf kv).toNat)
                      case atStart => exact ⟨0, by omega, by go_num, rfl⟩
                      case round =>
                        obtain ⟨k, hk, rfl, hw⟩ := hrel
                        obtain rfl := hw.symm
                        by_cases hkm : k < m
                        · have qk := HM.out k hkm
                          go_wp2_with fail
                          go_roundw
                          case rel => exact ⟨k + 1, by omega, by go_num, by first | rfl | trivial⟩
                          case measure => simp [intOf]; omega
                        · go_wp2_with fail
                          go_roundw
                          case rel => exact ⟨q + 1, by omega, by go_num, by first | rfl | trivial⟩
                          case measure => simp [intOf]; omega
                · have hq22' : ¬ (q : Int) ≤ 21 := by omega
                  go_wp2_with fail
                  go_roundw
                  case rel => exact ⟨a + 1, by omega, by go_num⟩
                  case measure => simp [intOf]; omega
            · have ha' : ¬ (a : Int) < 4 := by omega
              go_wp2_with fail
              go_ret
              exact ⟨rfl, BL.out⟩
end Go.Proofs.YtkfhdmkdkphmoaaGreatDoor
