/- knownOf: what families say. -/
import Derived.Test.YtpdmkhnonbbhnaaWi
import Derived.Deep.CutRange
namespace Go.Proofs.Ytpdmkhnonbbhnaa
open Go.RowKit Go.Maps

theorem look_snoc {k : Kn} {x : Str} {c : Nat × Nat × Nat} (hx : look k x = none) (y : Str) : look (k ++ [(x, c)]) y = if y = x then some c else look k y := by
  unfold look at *
  rw [List.find?_append]
  by_cases h : y = x
  · subst h
    rw [if_pos rfl]
    have : k.find? (fun e => e.1 == y) = none := by simpa using hx
    rw [this]
    simp
  · rw [if_neg h]
    have : List.find? (fun e : Str × Nat × Nat × Nat => e.1 == y) [(x, c)] = none := by
      rw [List.find?_cons]
      have e : ((x, c).1 == y) = false := by
        cases hb : (x == y) with
        | false => rfl
        | true => exact absurd (eq_of_beq hb).symm h
      rw [e, List.find?_nil]
    rw [this]
    cases List.find? (fun e : Str × Nat × Nat × Nat => e.1 == y) k <;> rfl
theorem look_none_iff (k : Kn) (x : Str) : look k x = none ↔ ¬ ∃ e ∈ k, e.1 = x := by
  unfold look
  rw [Option.map_eq_none_iff, List.find?_eq_none]
  constructor
  · rintro h ⟨e, he, hx⟩
    exact h e he (by rw [hx]; simp)
  · intro h e he hx
    exact h ⟨e, he, eq_of_beq hx⟩
theorem MapK.put {w : World} {b : Nat} {k : Kn} (h : MapK w b k) (x : Str) (hx : x.length < 140737488355328) (hm : k.length < 100000) (hs : Go.Proofs.Ytpdmkhnonbbhnaa.look k x = none) (c : Nat × Nat × Nat) :
    ∃ w', (Instr.mapUpdate 56 (.map (some b)) (.string ⟨x.toArray⟩) (kV c)).run Try.prog w = .ok () w' ∧ MapK w' b (k ++ [(x, c)]) ∧ w.grownBy w' (some b) := by
  obtain ⟨w', h1, h2, h3⟩ := Mv.put h x hx hm (by rw [hs]; rfl) (kV c)
  refine ⟨w', h1, ?_, h3⟩
  have e : (fun n => (Go.Proofs.Ytpdmkhnonbbhnaa.look (k ++ [(x, c)]) n).map kV) = (fun y => if y = x then some (kV c) else (Go.Proofs.Ytpdmkhnonbbhnaa.look k y).map kV) := by
    funext y
    rw [look_snoc hs]
    by_cases hy : y = x
    · rw [if_pos hy, if_pos hy]; rfl
    · rw [if_neg hy, if_neg hy]
  unfold MapK
  rw [e, List.length_append]
  exact h2
/-- Between the rounds of knownOf: R is its result's block. -/
structure Kw (w : World) (fv : Value) (k : Kn) (wr : World) : Prop where
  below : Below w.heap.size w wr
  res : wr.heap[w.heap.size]? = some (.cells #[.slice none 0 0, .map none] 58 (0, 0))
  kb : wr.heap[w.heap.size + 1 + 1]? = some (.cells #[fv, .map (some (w.heap.size + 1))] 58 (0, 0))
  map : MapK wr (w.heap.size + 1) k
theorem Kw.lt {w : World} {fv : Value} {k : Kn} {wr : World} (h : Kw w fv k wr) : w.heap.size + 1 + 1 < wr.heap.size := lt_of_heap h.kb
theorem Kw.alloc {w : World} {fv : Value} {k : Kn} {wr : World} (h : Kw w fv k wr) (o : Obj) : Kw w fv k (wr.alloc o) := by
  have hl := h.lt
  have hb : Below wr.heap.size wr (wr.alloc o) := (Below.refl _ _).alloc (Nat.le_refl _) _
  exact ⟨h.below.trans (hb.mono h.below.size), (hb.block _ (by omega)).trans h.res, (hb.block _ (by omega)).trans h.kb, h.map.on (hb.block _ (by omega))⟩
theorem Kw.put {w : World} {fv : Value} {k : Kn} {wr : World} (h : Kw w fv k wr) (x : Str) (hx : x.length < 140737488355328) (hm : k.length < 100000) (hs : look k x = none) (c : Nat × Nat × Nat) :
    ∃ w', (Instr.mapUpdate 56 (.map (some (w.heap.size + 1))) (.string ⟨x.toArray⟩) (kV c)).run Try.prog wr = .ok () w' ∧ Kw w fv (k ++ [(x, c)]) w' ∧ wr.grownBy w' (some (w.heap.size + 1)) := by
  obtain ⟨w', h1, h2, h3⟩ := h.map.put x hx hm hs c
  have hl := h.lt
  exact ⟨w', h1, ⟨h.below.grown h3 h.below.size (fun j e => by cases e; omega), (h3.block _ (by omega) (by simp)).trans h.res, (h3.block _ (by omega) (by simp)).trans h.kb, h2⟩, h3⟩
theorem Kw.start (w : World) (fv : Value) : Kw w fv [] (((w.alloc (.cells #[.slice none 0 0, .map none] 58)).alloc (.map #[] 0)).alloc (.cells #[fv, .map (some (w.heap.size + 1))] 58)) := by
  have hA : Below w.heap.size w (w.alloc (.cells #[.slice none 0 0, .map none] 58)) := (Below.refl _ _).alloc (Nat.le_refl _) _
  refine ⟨((hA.alloc (by simp) _).alloc (by simp; omega) _), ?_, ?_, ?_⟩
  · rw [Below.heap_alloc _ _ _ (by simp; omega), Below.heap_alloc _ _ _ (by simp)]
    exact new_block w _
  · have := new_block ((w.alloc (.cells #[.slice none 0 0, .map none] 58)).alloc (.map #[] 0)) (.cells #[fv, .map (some (w.heap.size + 1))] 58)
    simpa using this
  · have := Mv.made (w.alloc (.cells #[.slice none 0 0, .map none] 58))
    have e : (w.alloc (.cells #[.slice none 0 0, .map none] 58)).heap.size = w.heap.size + 1 := by simp
    rw [e] at this
    exact Mv.on this (Below.heap_alloc _ _ _ (by simp))
theorem Kw.ret {w : World} {fv : Value} {k : Kn} {wr : World} (h : Kw w fv k wr) (v0 v1 : Value) : ∃ U, U = (wr.setCell ⟨w.heap.size, 0, none⟩ v0).setCell ⟨w.heap.size, 1, none⟩ v1 ∧ U.heap[w.heap.size]? = some (.cells #[v0, v1] 58 (0, 0)) ∧ Below w.heap.size w U ∧ MapK U (w.heap.size + 1) k := by
  have a0 := setCell_block (i := 0) (v := v0) h.res
  have a1 := setCell_block (i := 1) (v := v1) a0
  have e : (#[.slice none 0 0, .map none].setIfInBounds 0 v0).setIfInBounds 1 v1 = #[v0, v1] := rfl
  rw [e] at a1
  refine ⟨_, rfl, a1, (h.below.setCell (Nat.le_refl _) _).setCell (Nat.le_refl _) _, h.map.on ?_⟩
  rw [Below.heap_setCell _ _ _ _ (by show w.heap.size + 1 ≠ w.heap.size; omega), Below.heap_setCell _ _ _ _ (by show w.heap.size + 1 ≠ w.heap.size; omega)]
theorem knowF_drop (i : Nat) (k : Kn) (fs : List Fam) (h : i < fs.length) : knowF i k (fs.drop i) = if fs[i].1.length = 0 ∨ 24 < fs[i].1.length ∨ fs[i].2.length ≠ fs[i].1.length then none else (knowC i k 0 fs[i].1 fs[i].2).bind fun k' => knowF (i + 1) k' (fs.drop (i + 1)) := by
  rw [List.drop_eq_getElem_cons h]
  rfl
theorem knowC_drop (i : Nat) (k : Kn) (p : Nat) (ns : List Str) (xs : List Int) (h : p < ns.length) (hx : p < xs.length) : knowC i k p (ns.drop p) (xs.drop p) = if ns[p] = [] ∨ (∃ e ∈ k, e.1 = ns[p]) ∨ xs[p] < 0 ∨ 8 < xs[p] then none else knowC i (k ++ [(ns[p], i, p, xs[p].toNat)]) (p + 1) (ns.drop (p + 1)) (xs.drop (p + 1)) := by
  rw [List.drop_eq_getElem_cons h, List.drop_eq_getElem_cons hx]
  rfl
theorem makeMap_any (w : World) : (Instr.makeMap 56 none).run Try.prog w = .ok (.map (some w.heap.size)) (w.alloc (.map #[] 0)) := by
  simp [Instr.makeMap, go_sem]
def KnPost (w : World) (fv : Value) (fs : List Fam) (r : Ending) (w' : World) : Prop := Below w.heap.size w w' ∧ ((∃ k b, knowF 0 [] fs = some k ∧ r = .returned (.tuple #[.agg #[fv, .map (some b)], .bool true]) ∧ w.heap.size ≤ b ∧ MapK w' b k) ∨ (knowF 0 [] fs = none ∧ r = .returned (.tuple #[.agg #[.slice none 0 0, .map none], .bool false])))
structure Kr (w : World) (fv : Value) (fs : List Fam) (i : Nat) (k : Kn) (wr : World) : Prop where
  kw : Kw w fv k wr
  same : knowF 0 [] fs = knowF i k (fs.drop i)
  cnt : k.length + ((fs.drop i).map fun f => f.1.length).sum ≤ 10000
structure Kc (w : World) (fv : Value) (fs : List Fam) (i : Nat) (h : i < fs.length) (p : Nat) (k : Kn) (W1 wr : World) : Prop where
  kw : Kw w fv k wr
  size : W1.heap.size ≤ wr.heap.size
  on : ∀ b, b < W1.heap.size → b ≠ w.heap.size + 1 → wr.heap[b]? = W1.heap[b]?
  same : knowF 0 [] fs = (knowC i k p (fs[i].1.drop p) (fs[i].2.drop p)).bind fun k' => knowF (i + 1) k' (fs.drop (i + 1))
  cnt : k.length + (fs[i].1.length - p) + ((fs.drop (i + 1)).map fun f => f.1.length).sum ≤ 10000
theorem Kr.bad {w : World} {fv : Value} {fs : List Fam} {i : Nat} {k : Kn} {wr : World} (h : Kr w fv fs i k wr) (hi : i < fs.length) (hb : fs[i].1.length = 0 ∨ 24 < fs[i].1.length ∨ fs[i].2.length ≠ fs[i].1.length) : knowF 0 [] fs = none := by
  rw [h.same, knowF_drop i k fs hi, if_pos hb]
theorem Kr.go {w : World} {fv : Value} {fs : List Fam} {i : Nat} {k : Kn} {wr : World} (h : Kr w fv fs i k wr) (hi : i < fs.length) (hb : ¬ (fs[i].1.length = 0 ∨ 24 < fs[i].1.length ∨ fs[i].2.length ≠ fs[i].1.length)) {W1 : World} (hW : ∃ o, W1 = wr.alloc o) : Kc w fv fs i hi 0 k W1 W1 := by
  obtain ⟨o, rfl⟩ := hW
  refine ⟨h.kw.alloc o, Nat.le_refl _, fun _ _ _ => rfl, ?_, ?_⟩
  · rw [h.same, knowF_drop i k fs hi, if_neg hb]
    rfl
  · have := h.cnt
    rw [List.drop_eq_getElem_cons hi, List.map_cons, List.sum_cons] at this
    omega
theorem Kc.done {w : World} {fv : Value} {fs : List Fam} {i : Nat} {hi : i < fs.length} {k : Kn} {W1 wr : World} (h : Kc w fv fs i hi fs[i].1.length k W1 wr) : Kr w fv fs (i + 1) k wr := by
  refine ⟨h.kw, ?_, ?_⟩
  · rw [h.same, List.drop_eq_nil_of_le (Nat.le_refl _)]
    rfl
  · have := h.cnt
    omega
theorem Kc.bad {w : World} {fv : Value} {fs : List Fam} {i : Nat} {hi : i < fs.length} {p : Nat} {k : Kn} {W1 wr : World} (h : Kc w fv fs i hi p k W1 wr) (hp : p < fs[i].1.length) (hx : p < fs[i].2.length) (hb : fs[i].1[p] = [] ∨ (∃ e ∈ k, e.1 = fs[i].1[p]) ∨ fs[i].2[p] < 0 ∨ 8 < fs[i].2[p]) : knowF 0 [] fs = none := by
  rw [h.same, knowC_drop i k p _ _ hp hx, if_pos hb]
  rfl
theorem Kc.put {w : World} {fv : Value} {fs : List Fam} {i : Nat} {hi : i < fs.length} {p : Nat} {k : Kn} {W1 wr : World} (h : Kc w fv fs i hi p k W1 wr) (hp : p < fs[i].1.length) (hx : p < fs[i].2.length) (hb : ¬ (fs[i].1[p] = [] ∨ (∃ e ∈ k, e.1 = fs[i].1[p]) ∨ fs[i].2[p] < 0 ∨ 8 < fs[i].2[p])) (hn : fs[i].1[p].length < 140737488355328) {W2 : World} (hW : ∃ o, W2 = wr.alloc o) :
    ∃ w', (Instr.mapUpdate 56 (.map (some (w.heap.size + 1))) (.string ⟨fs[i].1[p].toArray⟩) (.agg #[.int .i64 i, .int .i64 p, .int .i64 fs[i].2[p]])).run Try.prog W2 = .ok () w' ∧ Kc w fv fs i hi (p + 1) (k ++ [(fs[i].1[p], i, p, fs[i].2[p].toNat)]) W1 w' := by
  obtain ⟨o, rfl⟩ := hW
  have hk := h.kw.alloc o
  have hs : look k fs[i].1[p] = none := (look_none_iff _ _).2 fun e => hb (.inr (.inl e))
  have hc := h.cnt
  obtain ⟨w', h1, h2, h3⟩ := hk.put fs[i].1[p] hn (by omega) hs (i, p, fs[i].2[p].toNat)
  have e : kV (i, p, fs[i].2[p].toNat) = .agg #[.int .i64 i, .int .i64 p, .int .i64 fs[i].2[p]] := by
    unfold kV
    have h0 : ¬ fs[i].2[p] < 0 := fun e => hb (.inr (.inr (.inl e)))
    have : ((fs[i].2[p].toNat : Nat) : Int) = fs[i].2[p] := Int.toNat_of_nonneg (Int.not_lt.1 h0)
    simp only [this]
  rw [e] at h1
  have hl := h.kw.lt
  have hsz := h.size
  refine ⟨w', h1, h2, Nat.le_trans hsz (Nat.le_trans (by simp) h3.size), fun b hb hne => ?_, ?_, ?_⟩
  · rw [h3.block b (by simp; omega) (by simpa using hne), Below.heap_alloc _ _ _ (by omega)]
    exact h.on b hb hne
  · rw [h.same, knowC_drop i k p _ _ hp hx, if_neg hb]
  · rw [List.length_append]
    simp only [List.length_singleton]
    omega
set_option maxHeartbeats 8000000 in
set_option maxRecDepth 10000 in
theorem known_any {w : World} {S : Nat → Prop} (fa : Option Addr) (fs : List Fam) (fc : Nat) (hS : ∀ b, S b → b < w.heap.size) (hF : Fams w S (.slice fa fs.length fc) fs) (hl : fs.length ≤ 100000) (hsum : (fs.map fun f => f.1.length).sum ≤ 10000) :
    Calls Try.prog 18 #[.slice fa fs.length fc] w (KnPost w (.slice fa fs.length fc) fs) := by
  have hX : Kr w (.slice fa fs.length fc) fs 0 [] (((w.alloc (.cells #[.slice none 0 0, .map none] 58)).alloc (.map #[] 0)).alloc (.cells #[.slice fa fs.length fc, .map (some (w.heap.size + 1))] 58)) := ⟨Kw.start w _, rfl, by simpa using hsum⟩
  obtain ⟨_, _, he1, hrow⟩ := RowP.open hF
  injection he1 with he1 _ hcc1
  subst he1 hcc1
  have HS : Hid (∀ b, S b → b < w.heap.size) := hS
  have HR : Hid (fs ≠ [] → ∃ g o, fa = some ⟨g, o, none⟩ ∧ fs.length ≤ fc ∧ ∀ j (h : j < fs.length), S g ∧ (∃ ad cap, w.cell? ⟨g, o + j * 2, none⟩ = some (.slice ad fs[j].1.length cap) ∧ Strs w S (.slice ad fs[j].1.length cap) fs[j].1) ∧ ∃ ad cap, w.cell? ⟨g, o + j * 2 + 1, none⟩ = some (.slice ad fs[j].2.length cap) ∧ Ints w S (.slice ad fs[j].2.length cap) fs[j].2) := hrow
  clear hF hS hrow hsum
  have hmm := makeMap_any (w.alloc (.cells #[.slice none 0 0, .map none] 58))
  go_enter Try.func18, Try.ntmps18
  go_upto_region 2 with fail
  clear hmm
  obtain ⟨W, hW⟩ : ∃ W, W = (((w.alloc (.cells #[.slice none 0 0, .map none] 58)).alloc (.map #[] 0)).alloc (.cells #[.slice fa fs.length fc, .map (some (w.heap.size + 1))] 58)) := ⟨_, rfl⟩
  rw [← hW] at hX ⊢
  have HX : Hid (Kr w (.slice fa fs.length fc) fs 0 [] W) := hX
  clear hW hX
  go_wp2
  go_loopw [17] (fun iv wr => ∃ (i : Nat) (k : Kn), i ≤ fs.length ∧ iv = .int .i64 i ∧ Hid (Kr w (.slice fa fs.length fc) fs i k wr)) (fun iv _ => fs.length - (intOf iv).toNat)
  case atStart => exact ⟨0, [], by omega, by go_num, HX.out⟩
  case round =>
    obtain ⟨i, k, hi, rfl, HT⟩ := hrel
    by_cases hil : i < fs.length
    · obtain ⟨g, o, rfl, hcp, hr⟩ := HR.out (fun e => by rw [e] at hil; simp at hil)
      obtain ⟨s0, ⟨ad, cap, c0, hN⟩, ad', cap', c1, hX⟩ := hr i hil
      have hk := Keeps.of HT.out.kw.below HS.out
      have c0 := (hk.cell (p := ⟨g, o + i * 2, none⟩) s0).trans c0
      have c1 := (hk.cell (p := ⟨g, o + i * 2 + 1, none⟩) s0).trans c1
      have hW1 : ∃ W1, W1 = wr.alloc (Obj.cells #[.slice ad fs[i].1.length cap, .slice ad' fs[i].2.length cap'] 47) ∧ W1.heap.size = wr.heap.size + 1 ∧ W1.heap[wr.heap.size]? = some (.cells #[.slice ad fs[i].1.length cap, .slice ad' fs[i].2.length cap'] 47 (0, 0)) := ⟨_, rfl, by simp, new_block' wr _⟩
      obtain ⟨W1, hW1, hs1, hb1⟩ := hW1
      have hX1 := HT.out.kw.alloc (Obj.cells #[.slice ad fs[i].1.length cap, .slice ad' fs[i].2.length cap'] 47)
      rw [← hW1] at hX1
      have i1 : (0 : Int) ≤ (i : Int) := by omega
      have i2 : (i : Int) < (fs.length : Int) := by omega
      have x0 := heap_cell' (i := 0) hb1 rfl
      have x1 := heap_cell' (i := 1) hb1 rfl
      have HB1 : Hid (W1.heap[wr.heap.size]? = some (.cells #[.slice ad fs[i].1.length cap, .slice ad' fs[i].2.length cap'] 47 (0, 0)) ∧ W1.heap.size = wr.heap.size + 1) := ⟨hb1, hs1⟩
      have HX1 : Hid (Kw w (.slice (some ⟨g, o, none⟩) fs.length fc) k W1) := hX1
      have HKB : Hid (Keeps S w W1) := Keeps.of hX1.below HS.out
      have HNX : Hid (Strs w S (.slice ad fs[i].1.length cap) fs[i].1 ∧ Ints w S (.slice ad' fs[i].2.length cap') fs[i].2) := ⟨hN, hX⟩
      have HD1 : Hid (W1 = wr.alloc (Obj.cells #[.slice ad fs[i].1.length cap, .slice ad' fs[i].2.length cap'] 47)) := hW1
      go_upto_region 5 with fail
      rw [← hW1]
      clear hW1 c0 c1
      go_cut [40] from 22 to 40 (fun v wc => v = .bool (decide (fs[i].1.length = 0 ∨ 24 < fs[i].1.length ∨ fs[i].2.length ≠ fs[i].1.length)) ∧ wc = W1)
      case first =>
        clear hr hk hN hX hb1 hX1 HT HB1 HX1 HKB HNX HD1 hs1
        generalize fs[i].1.length = n at *
        generalize fs[i].2.length = n' at *
        by_cases hz : n = 0
        · subst hz
          go_wp2
          go_meet
          case rel => exact ⟨by simp, rfl⟩
        · have e0 : ((n : Int) == 0) = false := beq_eq_false_iff_ne.2 (by omega)
          by_cases h24 : 24 < n
          · have e1 : decide ((24 : Int) < n) = true := by simp; omega
            have e3 : Hid (Value.bool true = .bool (decide (n = 0 ∨ 24 < n ∨ n' ≠ n))) := by show _ = _; simp [h24]
            clear h24
            go_wp2
            go_meet
            case rel => exact ⟨e3.out, rfl⟩
          · have e1 : decide ((24 : Int) < n) = false := by simp; omega
            by_cases hn : n' = n
            · subst hn
              have e3 : Hid (Value.bool false = .bool (decide (n' = 0 ∨ 24 < n' ∨ n' ≠ n'))) := by show _ = _; simp [hz]; omega
              clear h24
              go_wp2
              go_meet
              case rel => exact ⟨e3.out, rfl⟩
            · have e2 : ((n' : Int) != n) = true := by simp; omega
              have e3 : Hid (Value.bool true = .bool (decide (n = 0 ∨ 24 < n ∨ n' ≠ n))) := by show _ = _; simp [hn]
              clear h24 hn
              go_wp2
              go_meet
              case rel => exact ⟨e3.out, rfl⟩
      obtain ⟨rfl, hwc⟩ := hcut
      obtain rfl := hwc.symm
      clear x0 x1
      by_cases hbad : fs[i].1.length = 0 ∨ 24 < fs[i].1.length ∨ fs[i].2.length ≠ fs[i].1.length
      · have HE : Hid (knowF 0 [] fs = none) := HT.out.bad hil hbad
        obtain ⟨U, hU, hUR, hUb, _⟩ := hX1.ret (.slice none 0 0) (.map none)
        have y0 := heap_cell' (i := 0) hX1.res rfl
        have y1 := heap_cell' (i := 1) hX1.res rfl
        have z0 := heap_frozen (o := 0) hX1.res
        have z1 := heap_frozen (o := 1) hX1.res
        have HUB : Hid (Below w.heap.size w U) := hUb
        rw [decide_eq_true hbad]
        clear hk hr hN hX hs1 hb1 hX1 hUb HT HB1 HX1 HKB HNX hbad
        go_wp2
        rw [← hU]
        have u0 := heap_cell' (i := 0) hUR rfl
        have u1 := heap_cell' (i := 1) hUR rfl
        refine bodyPost_ret (v := .tuple #[.agg #[.slice none 0 0, .map none], .bool false]) (by simp [results, Try.results18, go_sem, u0, u1]) rfl ?_
        exact ⟨HUB.out, .inr ⟨HE.out, rfl⟩⟩
      · have HC : Hid (Kc w (.slice (some ⟨g, o, none⟩) fs.length fc) fs i hil 0 k W1 W1) := HT.out.go hil hbad ⟨_, HD1.out⟩
        have HN3 : Hid (fs[i].2.length = fs[i].1.length ∧ fs[i].1.length ≤ 24) := ⟨by omega, by omega⟩
        have HWR : Hid (wr.heap.size < W1.heap.size ∧ wr.heap.size ≠ w.heap.size + 1) := ⟨by omega, by have := HT.out.kw.lt; omega⟩
        have x0 := heap_cell' (i := 0) HB1.out.1 rfl
        rw [decide_eq_false hbad]
        clear hk hr hN hX hs1 hb1 hX1 hbad HX HT HD1
        generalize hnl : fs[i].1.length = n at *
        generalize hnx : fs[i].2.length = n' at *
        have HNL : Hid (fs[i].1.length = n ∧ fs[i].2.length = n') := ⟨hnl, hnx⟩
        clear hnl hnx
        go_wp2
        clear x0
        generalize hFb : wr.heap.size = Fb at *
        clear hFb
        go_loopw [45] (fun pv wq => ∃ (p : Nat) (k' : Kn), p ≤ n ∧ pv = .int .i64 p ∧ Hid (Kc w (.slice (some ⟨g, o, none⟩) fs.length fc) fs i hil p k' W1 wq)) (fun pv _ => n - (intOf pv).toNat)
        case atStart => exact ⟨0, k, by omega, by go_num, HC.out⟩
        case round =>
          obtain ⟨p, k', hp, rfl, HP⟩ := hrel
          by_cases hpl : p < n
          · have hp1 : p < fs[i].1.length := by have := HNL.out; omega
            have hp2 : p < fs[i].2.length := by have := HNL.out; have := HN3.out; omega
            obtain ⟨_, _, he1, hrn⟩ := RowP.open HNX.out.1
            injection he1 with he1 hx1 hcc1
            subst he1 hcc1
            obtain ⟨_, _, he2, hrx⟩ := RowP.open HNX.out.2
            injection he2 with he2 hx2 hcc2
            subst he2 hcc2
            clear hx1 hx2
            obtain ⟨gn, on, rfl, hcn, hnn⟩ := hrn (fun e => by rw [e] at hp1; simp at hp1)
            obtain ⟨gx, ox, rfl, hcx, hxx⟩ := hrx (fun e => by rw [e] at hp2; simp at hp2)
            obtain ⟨sn, n1, hnlen⟩ := hnn p hp1
            obtain ⟨sx, n2⟩ := hxx p hp2
            have hkq : Keeps S w wr := Keeps.of HP.out.kw.below HS.out
            have q1 := (hkq.cell (p := ⟨gn, on + p * 1, none⟩) sn).trans n1
            rw [Nat.mul_one] at q1
            have hlk := HP.out.kw.map.look fs[i].1[p] hnlen
            unfold kV at hlk
            have m1 := heap_cell' (i := 1) HP.out.kw.kb rfl
            have hW2 : ∃ W2, W2 = wr.alloc (Obj.cells #[.int .i64 (looks k' fs[i].1[p]).1, .int .i64 (looks k' fs[i].1[p]).2.1, .int .i64 (looks k' fs[i].1[p]).2.2] 79) ∧ Keeps S w W2 ∧ W2.heap[Fb]? = some (.cells #[.slice (some ⟨gn, on, none⟩) n cap, .slice (some ⟨gx, ox, none⟩) n' cap'] 47 (0, 0)) ∧ Kw w (.slice (some ⟨g, o, none⟩) fs.length fc) k' W2 := by
              have hw := HWR.out
              refine ⟨_, rfl, Keeps.of (HP.out.kw.alloc _).below HS.out, ?_, HP.out.kw.alloc _⟩
              rw [Below.heap_alloc _ _ _ (by have := HP.out.size; omega), HP.out.on Fb hw.1 hw.2]
              exact HB1.out.1
            obtain ⟨W2, hW2, hk2, hb2, hw2⟩ := hW2
            have q2 := (hk2.cell (p := ⟨gx, ox + p * 1, none⟩) sx).trans n2
            rw [Nat.mul_one] at q2
            have f1 := heap_cell' (i := 1) hb2 rfl
            have m2 := heap_cell' (i := 1) hw2.kb rfl
            have j1 : (0 : Int) ≤ (p : Int) := by omega
            have j2 : (p : Int) < (n : Int) := by omega
            have j3 : (p : Int) < (n' : Int) := by have := HNL.out; omega
            have hlkn := look_none_iff k' fs[i].1[p]
            have HLK : Hid ((look k' fs[i].1[p] = none) ↔ ¬ ∃ e ∈ k', e.1 = fs[i].1[p]) := hlkn
            clear hrn hrx hnn hxx hlkn hkq n1 n2 sn sx hk2 hb2 HNX HB1
            have hn24 := HN3.out.2
            have HD2 : Hid (W2 = wr.alloc (Obj.cells #[.int .i64 (looks k' fs[i].1[p]).1, .int .i64 (looks k' fs[i].1[p]).2.1, .int .i64 (looks k' fs[i].1[p]).2.2] 79)) := hW2
            have HNLN : Hid (fs[i].1[p].length < 140737488355328) := hnlen
            have HW2 : Hid (Kw w (.slice (some ⟨g, o, none⟩) fs.length fc) k' W2) := hw2
            have hbe : decide (fs[i].1[p] = [] ∨ (∃ e ∈ k', e.1 = fs[i].1[p]) ∨ fs[i].2[p] < 0 ∨ 8 < fs[i].2[p]) = (fs[i].1[p].isEmpty || ((look k' fs[i].1[p]).isSome || (decide (fs[i].2[p] < 0) || decide (8 < fs[i].2[p])))) := by
              have hl := HLK.out
              have hE : decide (fs[i].1[p] = []) = fs[i].1[p].isEmpty := by cases fs[i].1[p] <;> rfl
              cases h1 : look k' fs[i].1[p] with
              | none =>
                have h2 := hl.1 h1
                simp [h2, hE]
              | some c =>
                have h2 : ∃ e ∈ k', e.1 = fs[i].1[p] := by
                  refine Classical.byContradiction fun h3 => ?_
                  rw [hl.2 h3] at h1
                  cases h1
                simp [h2]
            clear hw2 hnlen
            generalize hB : decide (fs[i].1[p] = [] ∨ (∃ e ∈ k', e.1 = fs[i].1[p]) ∨ fs[i].2[p] < 0 ∨ 8 < fs[i].2[p]) = B at hbe
            have HB : Hid (decide (fs[i].1[p] = [] ∨ (∃ e ∈ k', e.1 = fs[i].1[p]) ∨ fs[i].2[p] < 0 ∨ 8 < fs[i].2[p]) = B) := hB
            clear hB
            go_upto_region 11 with fail
            rw [← hW2]
            clear hW2 hlk m1 q1
            go_upto_region 12 with fail
            clear f1 q2
            go_cut [74] from 62 to 74 (fun v wd => v = .bool B ∧ wd = W2)
            case first =>
              clear HD2 HNLN HW2 HB HLK HP HC HX1 HKB HS HR m2
              generalize (look k' fs[i].1[p]).isSome = bb at *
              generalize fs[i].1[p] = nm at *
              generalize fs[i].2[p] = x at *
              cases h1 : nm.isEmpty with
              | true =>
                obtain rfl : nm = [] := by simpa using h1
                rw [h1] at hbe
                clear h1
                go_wp2
                go_meet
                case rel => exact ⟨by rw [hbe]; rfl, rfl⟩
              | false =>
                rw [h1] at hbe
                cases bb with
                | true =>
                  go_wp2
                  go_meet
                  case rel => exact ⟨by rw [hbe]; rfl, rfl⟩
                | false =>
                  cases h2 : decide (x < 0) with
                  | true =>
                    rw [h2] at hbe
                    go_wp2
                    go_meet
                    case rel => exact ⟨by rw [hbe]; rfl, rfl⟩
                  | false =>
                    rw [h2] at hbe
                    cases h3 : decide (8 < x) with
                    | true =>
                      rw [h3] at hbe
                      go_wp2
                      go_meet
                      case rel => exact ⟨by rw [hbe]; rfl, rfl⟩
                    | false =>
                      rw [h3] at hbe
                      go_wp2
                      go_meet
                      case rel => exact ⟨by rw [hbe]; rfl, rfl⟩
            obtain ⟨rfl, hwc⟩ := hcut
            obtain rfl := hwc.symm
            clear hbe
            cases B with
            | true =>
              have hbad := of_decide_eq_true HB.out
              have HE : Hid (knowF 0 [] fs = none) := HP.out.bad hp1 hp2 hbad
              obtain ⟨U, hU, hUR, hUb, _⟩ := HW2.out.ret (.slice none 0 0) (.map none)
              have y0 := heap_cell' (i := 0) HW2.out.res rfl
              have y1 := heap_cell' (i := 1) HW2.out.res rfl
              have z0 := heap_frozen (o := 0) HW2.out.res
              have z1 := heap_frozen (o := 1) HW2.out.res
              have HUB : Hid (Below w.heap.size w U) := hUb
              clear HP HC HX1 HKB HS HR hUb hbad HB HLK m2
              go_wp2
              rw [← hU]
              have u0 := heap_cell' (i := 0) hUR rfl
              have u1 := heap_cell' (i := 1) hUR rfl
              refine bodyPost_ret (v := .tuple #[.agg #[.slice none 0 0, .map none], .bool false]) (by simp [results, Try.results18, go_sem, u0, u1]) rfl ?_
              exact ⟨HUB.out, .inr ⟨HE.out, rfl⟩⟩
            | false =>
              have hbad := of_decide_eq_false HB.out
              obtain ⟨W3, hup, hW3⟩ := HP.out.put hp1 hp2 hbad HNLN.out ⟨_, HD2.out⟩
              have HW3 : Hid (Kc w (.slice (some ⟨g, o, none⟩) fs.length fc) fs i hil (p + 1) (k' ++ [(fs[i].1[p], i, p, fs[i].2[p].toNat)]) W1 W3) := hW3
              clear hbad hW3 HB
              go_wp2
              exact ⟨⟨p + 1, _, hpl, by go_num, HW3.out⟩, by simp [intOf]; omega⟩
          · obtain rfl : p = n := by omega
            have HD : Hid (Kr w (.slice (some ⟨g, o, none⟩) fs.length fc) fs (i + 1) k' wr) := by
              have h1 := HP.out
              have h2 := HNL.out.1
              rw [← h2] at h1
              exact h1.done
            clear HP
            go_wp2
            go_roundw
            case rel => exact ⟨i + 1, k', hil, by go_num, HD.out⟩
            case measure => simp [intOf]; omega
    · obtain rfl : i = fs.length := by omega
      have h0 := HT.out
      obtain ⟨U, hU, hUR, hUb, hUM⟩ := h0.kw.ret (.slice fa fs.length fc) (.map (some (w.heap.size + 1)))
      have y0 := heap_cell' (i := 0) h0.kw.res rfl
      have y1 := heap_cell' (i := 1) h0.kw.res rfl
      have z0 := heap_frozen (o := 0) h0.kw.res
      have z1 := heap_frozen (o := 1) h0.kw.res
      have m0 := heap_cell' (i := 0) h0.kw.kb rfl
      have m1 := heap_cell' (i := 1) h0.kw.kb rfl
      have HE : Hid (knowF 0 [] fs = some k) := by
        show _ = _
        rw [h0.same, List.drop_eq_nil_of_le (Nat.le_refl _)]
        rfl
      clear h0
      go_wp2
      rw [← hU]
      have u0 := heap_cell' (i := 0) hUR rfl
      have u1 := heap_cell' (i := 1) hUR rfl
      refine bodyPost_ret (v := .tuple #[.agg #[.slice fa fs.length fc, .map (some (w.heap.size + 1))], .bool true]) (by simp [results, Try.results18, go_sem, u0, u1]) rfl ?_
      exact ⟨hUb, .inl ⟨k, _, HE.out, rfl, by omega, hUM⟩⟩
end Go.Proofs.Ytpdmkhnonbbhnaa
