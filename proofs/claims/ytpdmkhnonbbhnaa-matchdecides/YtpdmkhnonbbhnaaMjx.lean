/- branch: between its cases. branch: what is called for one case. -/
import Derived.Test.YtpdmkhnonbbhnaaMix
import Derived.Test.YtpdmkhnonbbhnaaMgx
namespace Go.Proofs.Ytpdmkhnonbbhnaa
open Go.RowKit Go.Maps

structure Bw {f : Nat} (step : Cs → Nat → Tr f × Nat) (cs : List Cs) (n m : Nat) (fv mv : Value) (W4 : World) (Cb : Nat) (i : Nat) (cur : Array Value) (wr : World) : Prop where
  os : wr.os = W4.os
  tape : wr.tape = W4.tape
  output : wr.output = W4.output
  size : W4.heap.size ≤ wr.heap.size
  keep : ∀ x, x < W4.heap.size → x ≠ m → x ≠ Cb → wr.heap[x]? = W4.heap[x]?
  mblk : wr.heap[m]? = some (.cells #[fv, mv, .int .i64 (eachP step (cs.take i) n).2] 65 (0, 0))
  cblk : wr.heap[Cb]? = some (.cells cur 53 (0, 0))
  names : ∀ j (h : j < cs.length), cur[j * 7]? = some (.string ⟨cs[j].1.toArray⟩) ∧ cur[j * 7 + 1]? = some (.int .i64 cs[j].2)
  zero : ∀ j (_ : j < cs.length), i ≤ j → cur[j * 7 + 2]? = some (.int .i64 0) ∧ cur[j * 7 + 3]? = some (.int .i64 0) ∧ cur[j * 7 + 4]? = some (.slice none 0 0) ∧ cur[j * 7 + 5]? = some (.slice none 0 0) ∧ cur[j * 7 + 6]? = some (.slice none 0 0)
  done : ∀ j (h : j < (eachP step (cs.take i) n).1.length), ∃ v0 v1 v2 v3 v4, cur[j * 7 + 2]? = some v0 ∧ cur[j * 7 + 3]? = some v1 ∧ cur[j * 7 + 4]? = some v2 ∧ cur[j * 7 + 5]? = some v3 ∧ cur[j * 7 + 6]? = some v4 ∧ TrV wr (fun x => W4.heap.size ≤ x ∧ x < wr.heap.size) f (.agg #[v0, v1, v2, v3, v4]) (eachP step (cs.take i) n).1[j]
  cnt : n ≤ (eachP step (cs.take i) n).2 ∧ (eachP step (cs.take i) n).2 ≤ 5001 + 201 * f + i
theorem Bw.start {f : Nat} (step : Cs → Nat → Tr f × Nat) (cs : List Cs) (n m : Nat) (fv mv : Value) (W4 : World) (Cb : Nat) (cur : Array Value) (h1 : W4.heap[m]? = some (.cells #[fv, mv, .int .i64 n] 65 (0, 0))) (h2 : W4.heap[Cb]? = some (.cells cur 53 (0, 0))) (h3 : ∀ j (h : j < cs.length) i, i < 7 → cur[j * 7 + i]? = (csE cs[j])[i]?) (hn : n ≤ 5000) : Bw step cs n m fv mv W4 Cb 0 cur W4 :=
  ⟨rfl, rfl, rfl, Nat.le_refl _, fun _ _ _ _ => rfl, h1, h2, fun j h => ⟨h3 j h 0 (by omega), h3 j h 1 (by omega)⟩, fun j h _ => ⟨h3 j h 2 (by omega), h3 j h 3 (by omega), h3 j h 4 (by omega), h3 j h 5 (by omega), h3 j h 6 (by omega)⟩, fun j h => by simp [eachP] at h, by simp [eachP]; omega⟩
theorem take_snoc {α : Type} (l : List α) (i : Nat) (h : i < l.length) : l.take (i + 1) = l.take i ++ [l[i]] := by
  rw [List.take_add_one, List.getElem?_eq_getElem h]
  rfl
set_option maxHeartbeats 4000000 in
theorem Bw.step {f : Nat} {step : Cs → Nat → Tr f × Nat} {cs : List Cs} {n m : Nat} {fv mv : Value} {W4 : World} {Cb i : Nat} {cur : Array Value} {wr wc w' : World} (h : Bw step cs n m fv mv W4 Cb i cur wr) (hi : i < cs.length) (hm : m < W4.heap.size) (hCb : Cb < W4.heap.size) (hmC : m ≠ Cb)
    (hb : Below wr.heap.size wr wc) (hk : Kx m wc w') (hblk : w'.heap[m]? = some (.cells #[fv, mv, .int .i64 (step cs[i] (eachP step (cs.take i) n).2).2] 65 (0, 0)))
    (hcnt : (5000 ≤ (eachP step (cs.take i) n).2 → (step cs[i] (eachP step (cs.take i) n).2).2 = (eachP step (cs.take i) n).2 + 1) ∧ ((eachP step (cs.take i) n).2 < 5000 → (step cs[i] (eachP step (cs.take i) n).2).2 ≤ 5001 + 201 * f)) (hge : (eachP step (cs.take i) n).2 ≤ (step cs[i] (eachP step (cs.take i) n).2).2)
    {v0 v1 v2 v3 v4 : Value} (ht : TrV w' (fun x => wc.heap.size ≤ x ∧ x < w'.heap.size) f (.agg #[v0, v1, v2, v3, v4]) (step cs[i] (eachP step (cs.take i) n).2).1) :
    w'.heap[Cb]? = some (.cells cur 53 (0, 0)) ∧ ∃ U, U = ((((w'.setCell ⟨Cb, i * 7 + 2, none⟩ v0).setCell ⟨Cb, i * 7 + 3, none⟩ v1).setCell ⟨Cb, i * 7 + 4, none⟩ v2).setCell ⟨Cb, i * 7 + 5, none⟩ v3).setCell ⟨Cb, i * 7 + 6, none⟩ v4 ∧ ∃ cur', Bw step cs n m fv mv W4 Cb (i + 1) cur' U := by
  have hwc := hb.size
  have hw' := hk.size
  have hsz := h.size
  have hcb : w'.heap[Cb]? = some (.cells cur 53 (0, 0)) := ((hk.block Cb (by omega) (fun e => hmC e.symm)).trans (hb.block Cb (by omega))).trans h.cblk
  refine ⟨hcb, _, rfl, ((((cur.setIfInBounds (i * 7 + 2) v0).setIfInBounds (i * 7 + 3) v1).setIfInBounds (i * 7 + 4) v2).setIfInBounds (i * 7 + 5) v3).setIfInBounds (i * 7 + 6) v4, ?_⟩
  have hU := setCell_block (i := i * 7 + 6) (v := v4) (setCell_block (i := i * 7 + 5) (v := v3) (setCell_block (i := i * 7 + 4) (v := v2) (setCell_block (i := i * 7 + 3) (v := v1) (setCell_block (i := i * 7 + 2) (v := v0) hcb))))
  have hoth : ∀ x, x ≠ Cb → (((((w'.setCell ⟨Cb, i * 7 + 2, none⟩ v0).setCell ⟨Cb, i * 7 + 3, none⟩ v1).setCell ⟨Cb, i * 7 + 4, none⟩ v2).setCell ⟨Cb, i * 7 + 5, none⟩ v3).setCell ⟨Cb, i * 7 + 6, none⟩ v4).heap[x]? = w'.heap[x]? := fun x hx => by
    rw [Below.heap_setCell _ _ _ _ hx, Below.heap_setCell _ _ _ _ hx, Below.heap_setCell _ _ _ _ hx, Below.heap_setCell _ _ _ _ hx, Below.heap_setCell _ _ _ _ hx]
  have hUs : (((((w'.setCell ⟨Cb, i * 7 + 2, none⟩ v0).setCell ⟨Cb, i * 7 + 3, none⟩ v1).setCell ⟨Cb, i * 7 + 4, none⟩ v2).setCell ⟨Cb, i * 7 + 5, none⟩ v3).setCell ⟨Cb, i * 7 + 6, none⟩ v4).heap.size = w'.heap.size := by simp [World.setCell]
  have hcs : (i * 7 + 6) < cur.size := by
    obtain ⟨_, _, _, _, z⟩ := h.zero i hi (Nat.le_refl _)
    exact (Array.getElem?_eq_some_iff.1 z).1
  have hget : ∀ t, (∀ q, q < 5 → t ≠ i * 7 + 2 + q) → (((((cur.setIfInBounds (i * 7 + 2) v0).setIfInBounds (i * 7 + 3) v1).setIfInBounds (i * 7 + 4) v2).setIfInBounds (i * 7 + 5) v3).setIfInBounds (i * 7 + 6) v4)[t]? = cur[t]? := fun t ht => by
    have := ht 0 (by omega); have := ht 1 (by omega); have := ht 2 (by omega); have := ht 3 (by omega); have := ht 4 (by omega)
    rw [Array.getElem?_setIfInBounds, if_neg (by omega), Array.getElem?_setIfInBounds, if_neg (by omega), Array.getElem?_setIfInBounds, if_neg (by omega), Array.getElem?_setIfInBounds, if_neg (by omega), Array.getElem?_setIfInBounds, if_neg (by omega)]
  have hE : eachP step (cs.take (i + 1)) n = ((eachP step (cs.take i) n).1 ++ [(step cs[i] (eachP step (cs.take i) n).2).1], (step cs[i] (eachP step (cs.take i) n).2).2) := by rw [take_snoc cs i hi, eachP_snoc]
  have hlen : (eachP step (cs.take i) n).1.length = i := by rw [eachP_len, List.length_take]; omega
  refine ⟨hk.os.trans (hb.os.trans h.os), hk.tape.trans (hb.tape.trans h.tape), hk.output.trans (hb.output.trans h.output), by rw [hUs]; omega, fun x hx hxm hxC => ?_, ?_, hU, fun j hj => ?_, fun j hj hij => ?_, fun j hj => ?_, ?_⟩
  · rw [hoth x hxC, hk.block x (by omega) hxm, hb.block x (by omega)]
    exact h.keep x hx hxm hxC
  · rw [hoth m hmC, hE]
    exact hblk
  · rw [hget _ (fun q hq => by omega), hget _ (fun q hq => by omega)]
    exact h.names j hj
  · rw [hget _ (fun q hq => by omega), hget _ (fun q hq => by omega), hget _ (fun q hq => by omega), hget _ (fun q hq => by omega), hget _ (fun q hq => by omega)]
    exact h.zero j hj (by omega)
  · have hkT : Keeps (fun x => W4.heap.size ≤ x ∧ x < w'.heap.size) w' (((((w'.setCell ⟨Cb, i * 7 + 2, none⟩ v0).setCell ⟨Cb, i * 7 + 3, none⟩ v1).setCell ⟨Cb, i * 7 + 4, none⟩ v2).setCell ⟨Cb, i * 7 + 5, none⟩ v3).setCell ⟨Cb, i * 7 + 6, none⟩ v4) := fun x hx => hoth x (by omega)
    rcases Nat.lt_or_ge j i with hji | hji
    · obtain ⟨u0, u1, u2, u3, u4, e0, e1, e2, e3, e4, et⟩ := h.done j (by omega)
      refine ⟨u0, u1, u2, u3, u4, ?_, ?_, ?_, ?_, ?_, ?_⟩
      · rw [hget _ (fun q hq => by omega)]; exact e0
      · rw [hget _ (fun q hq => by omega)]; exact e1
      · rw [hget _ (fun q hq => by omega)]; exact e2
      · rw [hget _ (fun q hq => by omega)]; exact e3
      · rw [hget _ (fun q hq => by omega)]; exact e4
      · have hkA : Keeps (fun x => W4.heap.size ≤ x ∧ x < wr.heap.size) wr w' := fun x hx => (hk.block x (by omega) (by omega)).trans (hb.block x hx.2)
        have ht2 := TrV.below hkA (S' := fun x => W4.heap.size ≤ x ∧ x < w'.heap.size) (fun x hx => ⟨hx.1, by omega⟩) f _ _ et
        have ht3 := TrV.below hkT (S' := fun x => W4.heap.size ≤ x ∧ x < (((((w'.setCell ⟨Cb, i * 7 + 2, none⟩ v0).setCell ⟨Cb, i * 7 + 3, none⟩ v1).setCell ⟨Cb, i * 7 + 4, none⟩ v2).setCell ⟨Cb, i * 7 + 5, none⟩ v3).setCell ⟨Cb, i * 7 + 6, none⟩ v4).heap.size) (fun x hx => ⟨hx.1, by rw [hUs]; exact hx.2⟩) f _ _ ht2
        have e5 : (eachP step (cs.take (i + 1)) n).1[j] = (eachP step (cs.take i) n).1[j] := by
          simp only [hE]
          rw [List.getElem_append_left (by omega)]
        rw [e5]
        exact ht3
    · have hj2 : j = i := by
        rw [hE] at hj
        simp [hlen] at hj
        omega
      subst hj2
      refine ⟨v0, v1, v2, v3, v4, ?_, ?_, ?_, ?_, ?_, ?_⟩
      · rw [Array.getElem?_setIfInBounds, if_neg (by omega), Array.getElem?_setIfInBounds, if_neg (by omega), Array.getElem?_setIfInBounds, if_neg (by omega), Array.getElem?_setIfInBounds, if_neg (by omega), Array.getElem?_setIfInBounds, if_pos rfl, if_pos (by omega)]
      · rw [Array.getElem?_setIfInBounds, if_neg (by omega), Array.getElem?_setIfInBounds, if_neg (by omega), Array.getElem?_setIfInBounds, if_neg (by omega), Array.getElem?_setIfInBounds, if_pos rfl, if_pos (by simp; omega)]
      · rw [Array.getElem?_setIfInBounds, if_neg (by omega), Array.getElem?_setIfInBounds, if_neg (by omega), Array.getElem?_setIfInBounds, if_pos rfl, if_pos (by simp; omega)]
      · rw [Array.getElem?_setIfInBounds, if_neg (by omega), Array.getElem?_setIfInBounds, if_pos rfl, if_pos (by simp; omega)]
      · rw [Array.getElem?_setIfInBounds, if_pos rfl, if_pos (by simp; omega)]
      · have ht2 := TrV.below (Keeps.refl _ _) (S' := fun x => W4.heap.size ≤ x ∧ x < w'.heap.size) (fun x hx => ⟨by omega, hx.2⟩) f _ _ ht
        have ht3 := TrV.below hkT (S' := fun x => W4.heap.size ≤ x ∧ x < (((((w'.setCell ⟨Cb, j * 7 + 2, none⟩ v0).setCell ⟨Cb, j * 7 + 3, none⟩ v1).setCell ⟨Cb, j * 7 + 4, none⟩ v2).setCell ⟨Cb, j * 7 + 5, none⟩ v3).setCell ⟨Cb, j * 7 + 6, none⟩ v4).heap.size) (fun x hx => ⟨hx.1, by rw [hUs]; exact hx.2⟩) f _ _ ht2
        have e5 : (eachP step (cs.take (j + 1)) n).1[j] = (step cs[j] (eachP step (cs.take j) n).2).1 := by
          simp only [hE]
          rw [List.getElem_append_right (by omega)]
          simp
        rw [e5]
        exact ht3
  · rw [hE]
    have h1 := h.cnt
    refine ⟨by omega, ?_⟩
    rcases Nat.lt_or_ge (eachP step (cs.take i) n).2 5000 with hlt | hlt
    · have := hcnt.2 hlt
      show (step cs[i] (eachP step (cs.take i) n).2).2 ≤ _
      omega
    · have := hcnt.1 hlt
      show (step cs[i] (eachP step (cs.take i) n).2).2 ≤ _
      omega
end Go.Proofs.Ytpdmkhnonbbhnaa

namespace Go.Proofs.Ytpdmkhnonbbhnaa
open Go.RowKit Go.Maps

/-- The blocks of S, and those from B on. -/
def Fr (S : Nat → Prop) (B : Nat) (w : World) (x : Nat) : Prop := S x ∨ (B ≤ x ∧ x < w.heap.size)
theorem Fr.lt {S : Nat → Prop} {B : Nat} {w : World} (hS : ∀ x, S x → x < B) (hB : B ≤ w.heap.size) : ∀ x, Fr S B w x → x < w.heap.size := fun x h => by
  rcases h with h | h
  · exact Nat.lt_of_lt_of_le (hS x h) hB
  · exact h.2
theorem Fr.up {S : Nat → Prop} {B : Nat} {w w' : World} (h1 : B ≤ w.heap.size) (h2 : w.heap.size ≤ w'.heap.size) : ∀ x, (Fr S B w x ∨ (w.heap.size ≤ x ∧ x < w'.heap.size)) → Fr S B w' x := fun x h => by
  rcases h with (h | h) | h
  · exact .inl h
  · exact .inr ⟨h.1, by omega⟩
  · exact .inr ⟨by omega, h.2⟩
theorem Fr.keeps {S : Nat → Prop} {B : Nat} {w w' : World} (hS : ∀ x, S x → x < B) (hB : B ≤ w.heap.size) (h : Below w.heap.size w w') : Keeps (Fr S B w) w w' := fun x hx => h.block x (Fr.lt hS hB x hx)
theorem cols_list {w : World} {S : Nat → Prop} {g : Nat} : ∀ (l : List Col) (o : Nat), (∀ j (h : j < l.length), S g ∧ ∃ cb, w.cell? ⟨g, o + j * 1, none⟩ = some (.pointer (some ⟨cb, 0, none⟩)) ∧ ColP w S cb l[j]) →
    ∃ L : List (Nat × Col), L.map (·.2) = l ∧ (∀ j (h : j < L.length), S g ∧ w.cell? ⟨g, o + j * 1, none⟩ = some (.pointer (some ⟨L[j].1, 0, none⟩))) ∧ ∀ s ∈ L, ColP w S s.1 s.2
  | [], _, _ => ⟨[], rfl, fun j h => by simp at h, by simp⟩
  | a :: r, o, h => by
    obtain ⟨L, h1, h2, h3⟩ := cols_list r (o + 1) (fun j hj => by
      have := h (j + 1) (by simpa using hj)
      rw [show o + (j + 1) * 1 = o + 1 + j * 1 by omega] at this
      exact this)
    obtain ⟨s0, cb, s1, s2⟩ := h 0 (by simp)
    refine ⟨(cb, a) :: L, by rw [List.map_cons, h1], fun j hj => ?_, fun s hs => ?_⟩
    · cases j with
      | zero => exact ⟨s0, s1⟩
      | succ j =>
        rw [show o + (j + 1) * 1 = o + 1 + j * 1 by omega]
        exact h2 j (by simpa using hj)
    · rcases List.mem_cons.1 hs with rfl | hs
      · exact s2
      · exact h3 s hs
def ptrOf (x : Nat × Col) : Value := .pointer (some ⟨x.1, 0, none⟩)
theorem Cols.list {w : World} {S : Nat → Prop} {v : Value} {l : List Col} (h : Cols w S v l) : ∃ L : List (Nat × Col), L.map (·.2) = l ∧ Vals w S v (L.map ptrOf) ∧ ∀ s ∈ L, ColP w S s.1 s.2 := by
  rcases h with ⟨rfl, h⟩ | ⟨g, o, cap, rfl, h0, hc, h⟩
  · exact ⟨[], rfl, .inl ⟨rfl, h⟩, by simp⟩
  · obtain ⟨L, h1, h2, h3⟩ := cols_list l o h
    have hl : L.length = l.length := by rw [← h1, List.length_map]
    refine ⟨L, h1, .inr ⟨g, o, cap, by rw [List.length_map, hl], fun e => h0 (by rw [← h1, List.map_eq_nil_iff.1 e]; rfl), by rw [List.length_map, hl]; exact hc, fun j hj => ?_⟩, h3⟩
    rw [List.getElem_map]
    exact h2 j (by simpa using hj)
theorem cut_cols {w : World} {S : Nat → Prop} (g o cc : Nat) (cols fields : List Col) (fv : Value) (ax : Nat) (hS : ∀ b, S b → b < w.heap.size) (hc : Cols w S (.slice (some ⟨g, o, none⟩) cols.length cc) cols) (hcap : cols.length ≤ cc) (hf : Cols w S fv fields) (hl : cols.length + fields.length ≤ 100000) (ha : ax < cols.length) :
    Calls Try.prog 50 #[.slice (some ⟨g, o, none⟩) cols.length cc, .int .i64 ax, fv] w fun r w' => Below w.heap.size w w' ∧ ∃ v, r = .returned v ∧ Cols w' (fun x => S x ∨ (w.heap.size ≤ x ∧ x < w'.heap.size)) v (cols.take ax ++ fields ++ cols.drop (ax + 1)) := by
  obtain ⟨L, hL, hv, hp⟩ := hc.list
  obtain ⟨M, hM, hvM, hpM⟩ := hf.list
  obtain ⟨ma, mc, rfl⟩ := hvM.len
  have lL : cols.length = (L.map ptrOf).length := by rw [← hL]; simp
  have lM : fields.length = (M.map ptrOf).length := by rw [← hM]; simp
  rw [lL] at hv hcap ha hl ⊢
  rw [lM] at hl
  refine (cutC (L.map ptrOf) (M.map ptrOf) ax g o ma cc mc S w hS hv hcap hvM (by intro u hu; obtain ⟨n, _, rfl⟩ := List.mem_map.1 hu; rfl) (by intro u hu; obtain ⟨n, _, rfl⟩ := List.mem_map.1 hu; rfl) hl ha).mono fun r w' h => ?_
  obtain ⟨v, rfl, hown, hb⟩ := h
  refine ⟨hb, v, rfl, ?_⟩
  have hN : (L.map ptrOf).take ax ++ M.map ptrOf ++ (L.map ptrOf).drop (ax + 1) = (L.take ax ++ M ++ L.drop (ax + 1)).flatMap fun x => [ptrOf x] := by
    rw [← List.map_take, ← List.map_drop, ← List.map_append, ← List.map_append]
    exact List.map_eq_flatMap
  have hn : ax + (M.map ptrOf).length + ((L.map ptrOf).length - (ax + 1)) = (L.take ax ++ M ++ L.drop (ax + 1)).length := by
    simp only [List.length_append, List.length_take, List.length_drop, List.length_map] at ha ⊢
    omega
  rw [hN, hn] at hown
  have hrow := own_row hown (fun _ _ => rfl)
  have hC : cols.take ax ++ fields ++ cols.drop (ax + 1) = (L.take ax ++ M ++ L.drop (ax + 1)).map (·.2) := by
    rw [← hL, ← hM, List.map_append, List.map_append, List.map_take, List.map_drop]
  rw [hC]
  have hk : Keeps S w w' := Keeps.of hb hS
  have hm : RowP 1 (fun g o (x : Nat × Col) => (S g ∨ (w.heap.size ≤ g ∧ g < w'.heap.size)) ∧ ∃ cb, w'.cell? ⟨g, o, none⟩ = some (.pointer (some ⟨cb, 0, none⟩)) ∧ ColP w' (fun x => S x ∨ (w.heap.size ≤ x ∧ x < w'.heap.size)) cb x.2) v (L.take ax ++ M ++ L.drop (ax + 1)) := by
    refine hrow.mono fun g o x hx h => ?_
    obtain ⟨⟨_, e1, e2⟩, e3⟩ := h
    refine ⟨.inr ⟨e1, e2⟩, x.1, e3 0 (by omega), ?_⟩
    have : ColP w S x.1 x.2 := by
      rcases List.mem_append.1 hx with hx | hx
      · rcases List.mem_append.1 hx with hx | hx
        · exact hp x (List.mem_of_mem_take hx)
        · exact hpM x hx
      · exact hp x (List.mem_of_mem_drop hx)
    exact (this.on hk).up fun _ h => .inl h
  exact RowP.map (Q' := fun g o c => (S g ∨ (w.heap.size ≤ g ∧ g < w'.heap.size)) ∧ ∃ cb, w'.cell? ⟨g, o, none⟩ = some (.pointer (some ⟨cb, 0, none⟩)) ∧ ColP w' (fun x => S x ∨ (w.heap.size ≤ x ∧ x < w'.heap.size)) cb c) (fun x : Nat × Col => x.2) (fun _ _ _ h => h) hm
/-- What does not change while branch runs. -/
structure Cx (k : Kn) (fs : List Fam) (fa : Option Addr) (fc b m f n : Nat) (cols : List Col) (rows : List Nat) (ax : Nat) : Prop where
  hK : KnOk k fs
  hT : TreeC k fs fa fc b m f
  fuel : 5001 ≤ n + f ∧ f ≤ 5000 ∧ n ≤ 5000
  mapne : b ≠ m
  ha : ax < cols.length
  good : ∀ c ∈ cols, Good k (5001 - f) c
  num : cols.length ≤ 16 + 8 * (5000 - f)
  rise : rows.Pairwise (· < ·)
  low : ∀ r ∈ rows, r < 200
/-- What is read while branch runs. -/
structure Rd (k : Kn) (fs : List Fam) (fa : Option Addr) (fc b m : Nat) (cols : List Col) (rows : List Nat) (g o cc : Nat) (rv sv pv : Value) (spots : List Sp) (path : List Nat) (S : Nat → Prop) (w : World) : Prop where
  set : ∀ x, S x → x < w.heap.size ∧ x ≠ m
  map : MapK w b k
  fams : Fams w S (.slice fa fs.length fc) fs
  hcols : Cols w S (.slice (some ⟨g, o, none⟩) cols.length cc) cols
  cap : cols.length ≤ cc
  hrows : Nats w S rv rows
  hsp : Spots w S sv spots
  hpv : Nats w S pv path
theorem Rd.on {k : Kn} {fs : List Fam} {fa : Option Addr} {fc b m : Nat} {cols : List Col} {rows : List Nat} {g o cc : Nat} {rv sv pv : Value} {spots : List Sp} {path : List Nat} {S : Nat → Prop} {w w' : World} (h : Rd k fs fa fc b m cols rows g o cc rv sv pv spots path S w) (hk : Keeps S w w') (hb : w'.heap[b]? = w.heap[b]?) (hs : w.heap.size ≤ w'.heap.size) : Rd k fs fa fc b m cols rows g o cc rv sv pv spots path S w' :=
  ⟨fun x hx => ⟨Nat.lt_of_lt_of_le (h.set x hx).1 hs, (h.set x hx).2⟩, h.map.on hb, h.fams.on hk, h.hcols.on hk, h.cap, h.hrows.on hk, h.hsp.on hk, h.hpv.on hk⟩
/-- A call of tree for fewer rows. -/
theorem sub_tree {k : Kn} {fs : List Fam} {fa : Option Addr} {fc b m f n : Nat} {cols : List Col} {rows : List Nat} {ax : Nat} {g o cc : Nat} {rv sv pv : Value} {spots : List Sp} {path : List Nat} {S : Nat → Prop} {wr w4 : World} (hc : Cx k fs fa fc b m f n cols rows ax) (hr : Rd k fs fa fc b m cols rows g o cc rv sv pv spots path S wr)
    {n' : Nat} (hn : n ≤ n' ∧ n' ≤ 1010202) (hm : wr.heap[m]? = some (.cells #[.slice fa fs.length fc, .map (some b), .int .i64 n'] 65 (0, 0))) (hb : Below wr.heap.size wr w4) {cols' : List Col} {rows' : List Nat} {cv' rv' : Value} (hC : Cols w4 (Fr S wr.heap.size w4) cv' cols') (hR : Nats w4 (Fr S wr.heap.size w4) rv' rows')
    (hg : ∀ c ∈ cols', Good k (5002 - f) c) (hnum : cols'.length ≤ 16 + 8 * (5001 - f)) (hrs : rows'.Sublist rows) :
    Calls Try.prog 20 #[.pointer (some ⟨m, 0, none⟩), cv', rv'] w4 fun r w' => Kx m w4 w' ∧ w'.heap[m]? = some (.cells #[.slice fa fs.length fc, .map (some b), .int .i64 (treeP k fs f n' cols' rows').2] 65 (0, 0)) ∧ ((5000 ≤ n' → (treeP k fs f n' cols' rows').2 = n' + 1) ∧ (n' < 5000 → (treeP k fs f n' cols' rows').2 ≤ 5001 + 201 * f)) ∧
    ∃ a b pa pl pc ca cl cc ea el ec, r = .returned (.agg #[.int .i64 a, .int .i64 b, .slice pa pl pc, .slice ca cl cc, .slice ea el ec]) ∧ TrV w' (fun b => w4.heap.size ≤ b ∧ b < w'.heap.size) f (.agg #[.int .i64 a, .int .i64 b, .slice pa pl pc, .slice ca cl cc, .slice ea el ec]) (treeP k fs f n' cols' rows').1 := by
  have hml := lt_of_heap hm
  have hbl := Mv.lt hr.map
  have h4 := hb.size
  have hf := hc.fuel
  have hlt : ∀ x, S x → x < wr.heap.size := fun x hx => (hr.set x hx).1
  refine (hc.hT n' cols' rows' cv' rv' (Fr S wr.heap.size w4) w4 ⟨by omega, hn.2, (hb.block m hml).trans hm, fun x hx => ⟨Fr.lt hlt h4 x hx, ?_⟩, hr.map.on (hb.block b hbl), hc.mapne, (hr.fams.on (Keeps.of hb hlt)).up fun _ h => .inl h, hC, hR, hg, hnum, hc.rise.sublist hrs, fun r hr => hc.low r (hrs.subset hr)⟩).mono fun r w' h => ?_
  · rcases hx with hx | hx
    · exact (hr.set x hx).2
    · omega
  · obtain ⟨e1, e2, e3, x, rfl, e4⟩ := h
    obtain ⟨a, b', pa, pl, pc, ca, cl, cc', ea, el, ec, rfl⟩ := e4.parts
    exact ⟨e1, e2, e3, a, b', pa, pl, pc, ca, cl, cc', ea, el, ec, rfl, e4⟩
end Go.Proofs.Ytpdmkhnonbbhnaa
