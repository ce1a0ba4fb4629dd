/- Rows that are one family: blocks whose cells bear one mark up to a length; what an append of marks does to them. -/
import Derived.Test.YtgdflaapgfpdeaaGreatDoorOw
import Derived.Lib.SlBuf
import Derived.ArgAppend
import Derived.Deep.AppendLies
import Derived.Lib.AppendZeros
namespace Go.Proofs.YtgdflaapgfpdeaaGreatDoor
open Go.RowKit

theorem cell_block {W : World} {b i : Nat} {c : Array Value} {t : TypeId} {fr : Nat × Nat} (h : W.heap[b]? = some (.cells c t fr)) : W.cell? ⟨b, i, none⟩ = c[i]? := by
  simp [World.cell?, h]
theorem frozen_block {W : World} {b i : Nat} {c : Array Value} {t : TypeId} (h : W.heap[b]? = some (.cells c t (0, 0))) : W.frozen? ⟨b, i, none⟩ = false := by
  simp [World.frozen?, h]
/-- The mark of a family. -/
@[reducible] def mkV (i : Nat) : Value := .int .i64 (-1 - (i : Int))
/-- The cells of so many marks. -/
def mkL (i : Nat) : Nat → List Value
  | 0 => []
  | m + 1 => [mkV i, .string ⟨#[]⟩, .slice none 0 0] ++ mkL i m
theorem mkL_len (i m : Nat) : (mkL i m).length = m * 3 := by
  induction m with
  | zero => rfl
  | succ m ih => simp [mkL, ih]; omega
theorem mkL_at (i : Nat) : ∀ (m q : Nat), q < m → (mkL i m)[q * 3]? = some (mkV i)
  | m + 1, 0, _ => rfl
  | m + 1, q + 1, h => by
    have := mkL_at i m q (by omega)
    rw [mkL, List.getElem?_append_right (by simp; omega)]
    simpa [show (q + 1) * 3 - 3 = q * 3 by omega] using this
theorem mkL_one (i m : Nat) : ∀ u ∈ mkL i m, u.oneCell' = true := by
  induction m with
  | zero => intro u hu; cases hu
  | succ m ih =>
    intro u hu
    rw [mkL, List.mem_append] at hu
    rcases hu with hu | hu
    · simp at hu
      rcases hu with rfl | rfl | rfl <;> rfl
    · exact ih u hu

/-- Which block belongs to which family, how far it is marked, and how much it holds. -/
structure Fm where
  D : Nat → Nat → Prop
  M : Nat → Nat
  C : Nat → Nat

structure Inv (lo : Nat) (W : World) (f : Fm) : Prop where
  uniq : ∀ g i j, f.D g i → f.D g j → i = j
  lo : ∀ g i, f.D g i → lo ≤ g
  lt : ∀ g i, f.D g i → g < W.heap.size
  mc : ∀ g i, f.D g i → f.M g ≤ f.C g
  cmax : ∀ g i, f.D g i → f.C g ≤ maxLen
  there : ∀ g i, f.D g i → ∀ x, x < f.C g * 3 → (W.cell? ⟨g, x, none⟩).isSome = true
  free : ∀ g i, f.D g i → ∀ x, W.frozen? ⟨g, x, none⟩ = false
  mark : ∀ g i, f.D g i → ∀ j, j < f.M g → W.cell? ⟨g, j * 3, none⟩ = some (mkV i)

/-- A slice of a family. -/
def Val (f : Fm) (i : Nat) (v : Value) (n : Nat) : Prop := (v = .slice none 0 0 ∧ n = 0) ∨ ∃ g, v = .slice (some ⟨g, 0, none⟩) n (f.C g) ∧ f.D g i ∧ n ≤ f.M g

/-- What is no family's stays as it is. -/
structure Off (f : Fm) (W : World) (f' : Fm) (W' : World) : Prop where
  os : W'.os = W.os
  tape : W'.tape = W.tape
  output : W'.output = W.output
  size : W.heap.size ≤ W'.heap.size
  block : ∀ k, k < W.heap.size → (∀ i, ¬ f.D k i) → W'.heap[k]? = W.heap[k]? ∧ ∀ i, ¬ f'.D k i

theorem Inv.keep {lo : Nat} {W W' : World} {f : Fm} (h : Inv lo W f) (hb : ∀ k i, f.D k i → W'.heap[k]? = W.heap[k]?) (hs : W.heap.size ≤ W'.heap.size) : Inv lo W' f where
  uniq := h.uniq
  lo := h.lo
  lt := fun g i hd => Nat.lt_of_lt_of_le (h.lt g i hd) hs
  mc := h.mc
  cmax := h.cmax
  there := fun g i hd x hx => by rw [World.cell?_of_block (a := ⟨g, x, none⟩) (hb g i hd)]; exact h.there g i hd x hx
  free := fun g i hd x => by rw [World.frozen?_of_block (a := ⟨g, x, none⟩) (hb g i hd)]; exact h.free g i hd x
  mark := fun g i hd j hj => by rw [World.cell?_of_block (a := ⟨g, j * 3, none⟩) (hb g i hd)]; exact h.mark g i hd j hj
theorem Inv.below {lo : Nat} {W W' : World} {f : Fm} (h : Inv lo W f) (hb : Below W.heap.size W W') : Inv lo W' f := h.keep (fun k i hd => hb.block k (h.lt k i hd)) hb.size

/-- A new block joins a family. -/
def Fm.add (f : Fm) (g i m c : Nat) : Fm := { D := fun k j => f.D k j ∨ (k = g ∧ j = i), M := fun k => if k = g then m else f.M k, C := fun k => if k = g then c else f.C k }
/-- A block of a family is marked further. -/
def Fm.more (f : Fm) (g m : Nat) : Fm := { D := f.D, M := fun k => if k = g then max m (f.M k) else f.M k, C := f.C }

theorem Val.add {f : Fm} {g i m c j n : Nat} {v : Value} (h : Val f j v n) (hg : ∀ i, ¬ f.D g i) : Val (f.add g i m c) j v n := by
  rcases h with h | ⟨k, rfl, hd, hn⟩
  · exact .inl h
  · have ne : k ≠ g := fun e => hg j (e ▸ hd)
    refine .inr ⟨k, ?_, .inl hd, ?_⟩
    · simp [Fm.add, ne]
    · simp [Fm.add, ne]; exact hn
theorem Val.more {f : Fm} {g m j n : Nat} {v : Value} (h : Val f j v n) : Val (f.more g m) j v n := by
  rcases h with h | ⟨k, rfl, hd, hn⟩
  · exact .inl h
  · refine .inr ⟨k, rfl, hd, ?_⟩
    simp only [Fm.more]
    split <;> omega

theorem Inv.add {lo : Nat} {W' : World} {f : Fm} {g i m c : Nat} (h : Inv lo W' f) (hg : ∀ i, ¬ f.D g i) (hlo : lo ≤ g) (hlt : g < W'.heap.size) (hmc : m ≤ c) (hc : c ≤ maxLen) (ht : ∀ x, x < c * 3 → (W'.cell? ⟨g, x, none⟩).isSome = true) (hf : ∀ x, W'.frozen? ⟨g, x, none⟩ = false) (hm : ∀ j, j < m → W'.cell? ⟨g, j * 3, none⟩ = some (mkV i)) : Inv lo W' (f.add g i m c) := by
  have ne : ∀ k j, f.D k j → k ≠ g := fun k j hd e => hg j (e ▸ hd)
  constructor
  · rintro k a b (ha | ⟨rfl, rfl⟩) (hb | ⟨e, rfl⟩)
    · exact h.uniq k a b ha hb
    · exact absurd e (ne _ _ ha)
    · exact absurd rfl (ne _ _ hb)
    · rfl
  · rintro k a (ha | ⟨rfl, rfl⟩)
    · exact h.lo k a ha
    · exact hlo
  · rintro k a (ha | ⟨rfl, rfl⟩)
    · exact h.lt k a ha
    · exact hlt
  · rintro k a (ha | ⟨rfl, rfl⟩)
    · simp [Fm.add, ne _ _ ha]; exact h.mc k a ha
    · simp [Fm.add]; exact hmc
  · rintro k a (ha | ⟨rfl, rfl⟩)
    · simp [Fm.add, ne _ _ ha]; exact h.cmax k a ha
    · simp [Fm.add]; exact hc
  · rintro k a (ha | ⟨rfl, rfl⟩) x hx
    · simp [Fm.add, ne _ _ ha] at hx; exact h.there k a ha x hx
    · simp [Fm.add] at hx; exact ht x hx
  · rintro k a (ha | ⟨rfl, rfl⟩) x
    · exact h.free k a ha x
    · exact hf x
  · rintro k a (ha | ⟨rfl, rfl⟩) j hj
    · simp [Fm.add, ne _ _ ha] at hj; exact h.mark k a ha j hj
    · simp [Fm.add] at hj; exact hm j hj

theorem fam_append (lo : Nat) (W : World) (f : Fm) (i n m b : Nat) (v : Value) (ty : TypeId) (fr : Nat × Nat) (hI : Inv lo W f) (hlo : lo ≤ W.heap.size) (hv : Val f i v n) (hb : W.heap[b]? = some (.cells (mkL i m).toArray 24 fr)) (hm : 0 < m) (hm9 : m ≤ 9) (hn : n ≤ 30000) :
    ∃ v' W' f', (Builtin.append_ #[22, 22] ty #[v, .slice (some ⟨b, 0, none⟩) m m]).run Tryz.prog W = .ok v' W' ∧ Inv lo W' f' ∧ Val f' i v' (n + m) ∧ (∀ j u k, Val f j u k → Val f' j u k) ∧ Off f W f' W' := by
  obtain ⟨i0, hi, hz0, hz1, hz2⟩ := info_parts Tryz.info24
  have hnews := World.news_of_block hb
  have hnl := mkL_len i m
  have grow : ∀ (xs : List Value) (v' : Value) (W' : World), xs.length = n * 3 → (∀ j, j < n → xs[j * 3]? = some (mkV i)) → W'.ownsRow W.heap.size 24 3 v' (n + m) (xs ++ mkL i m) → W.grownBy W' none →
      ∃ f', Inv lo W' f' ∧ Val f' i v' (n + m) ∧ (∀ j u k, Val f j u k → Val f' j u k) ∧ Off f W f' W' := by
    intro xs v' W' hxl hx hown hgr
    obtain ⟨g, cap, rfl, hg, hlt⟩ := hown.form (by omega)
    have nd : ∀ j, ¬ f.D g j := fun j hd => by have := hI.lt g j hd; omega
    rcases hown.2 with ⟨h', _⟩ | ⟨g', cap', cur, h', _, hgg, hnc, hcm, hcs, htk⟩
    · simp at h'
    simp only [Value.slice.injEq, Option.some.injEq, Addr.mk.injEq, and_true, true_and] at h'
    obtain ⟨rfl, rfl⟩ := h'
    refine ⟨f.add g i (n + m) cap, ?_, ?_, fun j u k h => h.add nd, ?_⟩
    · refine Inv.add (hI.keep (fun k j hd => hgr.block k (hI.lt k j hd) (by simp)) hgr.size) nd (by omega) hlt hnc hcm (fun x hx => ?_) (fun x => ?_) (fun j hj => ?_)
      · rw [cell_block hgg, Array.getElem?_eq_getElem (by omega)]
        rfl
      · exact frozen_block hgg
      · rw [hown.cellAt (j * 3) (by omega)]
        by_cases hjn : j < n
        · rw [List.getElem?_append_left (by omega)]
          exact hx j hjn
        · rw [List.getElem?_append_right (by omega), hxl, show j * 3 - n * 3 = (j - n) * 3 by omega]
          exact mkL_at i m (j - n) (by omega)
    · exact .inr ⟨g, by simp [Fm.add], .inr ⟨rfl, rfl⟩, by simp [Fm.add]⟩
    · refine ⟨hgr.os, hgr.tape, hgr.output, hgr.size, fun k hk hd => ⟨hgr.block k hk (by simp), ?_⟩⟩
      rintro j (h | ⟨e, _⟩)
      · exact hd j h
      · omega
  rcases hv with ⟨rfl, rfl⟩ | ⟨g, rfl, hd, hn2⟩
  · obtain ⟨g, cap, W', hr, hown, hgr, _, _⟩ := run_append_lies (P := Tryz.prog) W 22 ty W.heap.size 24 i0 _ 3 48 Tryz.underlying22 hi hz0 hz1 hz2 rfl (by decide) (.slice none 0 0) 0 [] (World.ownsRow_nil _ _ _ _) ⟨b, 0, none⟩ m m (mkL i m) hnl hnews (mkL_one i m) hm (by unfold maxLen; omega) (by omega) (Nat.le_refl _) _ rfl
    obtain ⟨f', h1, h2, h3, h4⟩ := grow [] _ W' rfl (fun j hj => by omega) hown hgr
    exact ⟨_, W', f', hr, h1, h2, h3, h4⟩
  · by_cases hroom : n + m ≤ f.C g
    · have hr := run_append_room_cells (P := Tryz.prog) W 22 ty 24 i0 Tryz.underlying22 hi g 0 n (f.C g) ⟨b, 0, none⟩ m m (mkL i m) (by rw [hz1]; exact hnl) hnews (mkL_one i m) hroom
        (fun j hj => by rw [hz1]; exact hI.there g i hd _ (by omega)) (fun j _ => hI.free g i hd _)
      rw [hz1, Nat.zero_add] at hr
      have hin := World.cell?_setCells_in g (mkL i m) (n * 3) W (fun j hj => hI.there g i hd _ (by omega))
      have hout := World.cell?_setCells_out g (mkL i m) (n * 3) W
      have hbel := Lib.below_setCells (a := W) g (Nat.le_refl _) (mkL i m) (n * 3) (Below.refl g W)
      have hother : ∀ k, k ≠ g → (W.setCells g (n * 3) (mkL i m)).heap[k]? = W.heap[k]? := by
        intro k hk
        have : ∀ (vs : List Value) (o : Nat) (w : World), (w.setCells g o vs).heap[k]? = w.heap[k]? := by
          intro vs
          induction vs with
          | nil => intro o w; rfl
          | cons u r ih =>
            intro o w
            rw [World.setCells, ih, Below.heap_setCell _ _ _ _ hk]
        exact this _ _ _
      have hne : ∀ k j x, f.D k j → k ≠ g → (W.setCells g (n * 3) (mkL i m)).cell? ⟨k, x, none⟩ = W.cell? ⟨k, x, none⟩ := fun k j x _ hk => World.cell?_of_block (a := ⟨k, x, none⟩) (hother k hk)
      refine ⟨_, _, f.more g (n + m), hr, ?_, .inr ⟨g, rfl, hd, ?_⟩, fun j u k h => h.more, ?_⟩
      · constructor
        · exact hI.uniq
        · exact hI.lo
        · intro k j hk
          exact Nat.lt_of_lt_of_le (hI.lt k j hk) hbel.size
        · intro k j hk
          simp only [Fm.more]
          have := hI.mc k j hk
          split
          · rename_i e; subst e; omega
          · exact this
        · exact hI.cmax
        · intro k j hk x hx
          by_cases e : k = g
          · subst e
            by_cases h1 : n * 3 ≤ x ∧ x < n * 3 + (mkL i m).length
            · obtain ⟨d, rfl⟩ : ∃ d, x = n * 3 + d := ⟨x - n * 3, by omega⟩
              rw [hin d (by omega)]
              rfl
            · rw [hout ⟨k, x, none⟩ (fun _ _ => by show x < n * 3 ∨ n * 3 + (mkL i m).length ≤ x; omega)]
              exact hI.there k j hk x hx
          · rw [hne k j x hk e]
            exact hI.there k j hk x hx
        · intro k j hk x
          rw [World.frozen?_setCells]
          exact hI.free k j hk x
        · intro k j hk q hq
          by_cases e : k = g
          · subst e
            obtain rfl := hI.uniq k j i hk hd
            by_cases h1 : n ≤ q ∧ q < n + m
            · have h2 := mkL_at j m (q - n) (by omega)
              have h3 : (q - n) * 3 < (mkL j m).length := by omega
              have h4 := hin ((q - n) * 3) h3
              rw [show n * 3 + (q - n) * 3 = q * 3 by omega] at h4
              rw [h4]
              rw [List.getElem?_eq_getElem h3] at h2
              exact h2
            · rw [hout ⟨k, q * 3, none⟩ (fun _ _ => by show q * 3 < n * 3 ∨ n * 3 + (mkL j m).length ≤ q * 3; omega)]
              refine hI.mark k j hk q ?_
              simp [Fm.more] at hq
              omega
          · rw [hne k j _ hk e]
            refine hI.mark k j hk q ?_
            simp [Fm.more, e] at hq
            exact hq
      · simp [Fm.more]
        omega
      · refine ⟨hbel.os, hbel.tape, hbel.output, hbel.size, fun k hk hnd => ⟨hother k (fun e => hnd i (e ▸ hd)), hnd⟩⟩
    · have hmc := hI.mc g i hd
      obtain ⟨v', W', hr, hown, hgr⟩ := run_append_arg_grows (P := Tryz.prog) W 22 ty 24 i0 _ 3 48 Tryz.underlying22 hi hz0 hz1 hz2 rfl (by decide) ⟨g, 0, none⟩ n (f.C g) ((List.range (n * 3)).map fun x => (W.cell? ⟨g, x, none⟩).getD undef) (by simp)
        (fun j u hj => by
          rw [List.getElem?_map] at hj
          obtain ⟨x, hx, rfl⟩ := Option.map_eq_some_iff.1 hj
          have hlt := (List.getElem?_eq_some_iff.1 hx).1
          simp at hlt
          simp [hlt] at hx
          subst hx
          have hadd : (⟨g, 0, none⟩ : Addr).add j = ⟨g, j, none⟩ := by unfold Addr.add; split <;> simp_all
          rw [hadd]
          obtain ⟨u, hu⟩ := Option.isSome_iff_exists.1 (hI.there g i hd j (by omega))
          rw [hu]
          rfl)
        ⟨b, 0, none⟩ m m (mkL i m) hnl hnews (by omega) (by unfold maxLen; omega) (by omega)
      obtain ⟨f', h1, h2, h3, h4⟩ := grow _ v' W' (by simp) (fun j hj => by
        rw [List.getElem?_map, List.getElem?_range (by omega)]
        simp only [Option.map_some]
        rw [hI.mark g i hd j (by omega)]
        rfl) hown hgr
      exact ⟨v', W', f', hr, h1, h2, h3, h4⟩
end Go.Proofs.YtgdflaapgfpdeaaGreatDoor
