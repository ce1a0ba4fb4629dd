/- The order of cases: cmp.Compare, cmp.Or, the closure that sorts. The closure that sorts cases. Cases that are one: the closure; a row of cases in a block. -/
import Derived.Test.YtpdmkhnonbbhnaaSh
import Derived.Test.YtpdmkhnonbbhnaaWi
namespace Go.Proofs.Ytpdmkhnonbbhnaa
open Go.RowKit Go.Maps

def cmpI (x y : Int) : Int := if x < y then -1 else if y < x then 1 else 0
set_option maxHeartbeats 4000000 in
set_option maxRecDepth 10000 in
theorem compare_any (x y : Int) (w : World) : Calls Try.prog 63 #[.int .i64 x, .int .i64 y] w fun r w' => r = .returned (.int .i64 (cmpI x y)) ∧ w' = w := by
  have e1 : (x != x) = false := by simp
  have e2 : (y != y) = false := by simp
  unfold cmpI
  by_cases h1 : x < y
  · rw [if_pos h1]
    go_enter Try.func63, Try.ntmps63
    go_wp2
    go_ret
    exact ⟨rfl, rfl⟩
  · rw [if_neg h1]
    by_cases h2 : y < x
    · rw [if_pos h2]
      go_enter Try.func63, Try.ntmps63
      go_wp2
      go_ret
      exact ⟨rfl, rfl⟩
    · rw [if_neg h2]
      go_enter Try.func63, Try.ntmps63
      go_wp2
      go_ret
      exact ⟨rfl, rfl⟩
set_option maxHeartbeats 4000000 in
set_option maxRecDepth 10000 in
theorem or_any (a b : Int) (g : Nat) (w : World) (h0 : w.cell? ⟨g, 0, none⟩ = some (.int .i64 a)) (h1 : w.cell? ⟨g, 1, none⟩ = some (.int .i64 b)) : Calls Try.prog 62 #[.slice (some ⟨g, 0, none⟩) 2 2] w fun r w' => r = .returned (.int .i64 (if a = 0 then b else a)) ∧ w' = w := by
  by_cases ha : a = 0
  · rw [if_pos ha]
    subst ha
    by_cases hb : b = 0
    · subst hb
      go_enter Try.func62, Try.ntmps62
      go_wp2
      refine wp_loop_rounds 3 ?_
      rw [rounds_succ]
      go_wp2
      rw [rounds_succ]
      go_wp2
      rw [rounds_succ]
      go_wp2
      go_ret
      exact ⟨rfl, rfl⟩
    · have hb' : (b != 0) = true := by simpa using hb
      go_enter Try.func62, Try.ntmps62
      go_wp2
      refine wp_loop_rounds 3 ?_
      rw [rounds_succ]
      go_wp2
      rw [rounds_succ]
      go_wp2
      go_ret
      exact ⟨rfl, rfl⟩
  · rw [if_neg ha]
    have ha' : (a != 0) = true := by simpa using ha
    go_enter Try.func62, Try.ntmps62
    go_wp2
    refine wp_loop_rounds 3 ?_
    rw [rounds_succ]
    go_wp2
    go_ret
    exact ⟨rfl, rfl⟩
end Go.Proofs.Ytpdmkhnonbbhnaa

namespace Go.Proofs.Ytpdmkhnonbbhnaa
open Go.RowKit Go.Maps

/-- A case whose name may be. -/
abbrev CsB := { c : Cs // c.1.length < 140737488355328 }
def csE (c : Cs) : List Value := [.string ⟨c.1.toArray⟩, .int .i64 c.2, .int .i64 0, .int .i64 0, .slice none 0 0, .slice none 0 0, .slice none 0 0]
def cfK (k : Kn) (x y : Cs) : Int := if cmpI (looks k x.1).2.1 (looks k y.1).2.1 = 0 then cmpI x.2 y.2 else cmpI (looks k x.1).2.1 (looks k y.1).2.1
set_option maxRecDepth 100000 in
theorem fld1 (a b c : Int) (W : World) : (Instr.field 79 (.agg #[.int .i64 a, .int .i64 b, .int .i64 c]) 1).run Try.prog W = .ok (.int .i64 b) W := by
  rfl
set_option maxHeartbeats 4000000 in
set_option maxRecDepth 10000 in
theorem sorts_any (k : Kn) (b Kb : Nat) (x y : CsB) (W : World) (hM : MapK W b k) (hK : W.cell? ⟨Kb, 1, none⟩ = some (.map (some b))) (hKb : Kb < W.heap.size) :
    Calls Try.prog 61 #[.agg (csE x.1).toArray, .agg (csE y.1).toArray, .pointer (some ⟨Kb, 0, none⟩)] W fun r w' => r = .returned (.int .i64 (cfK k x.1 y.1)) ∧ ∃ q os, w' = Sort.grow (W.drewN q) os := by
  obtain ⟨⟨xn, xm⟩, hx⟩ := x
  obtain ⟨⟨yn, ym⟩, hy⟩ := y
  unfold csE cfK
  dsimp only at hx hy ⊢
  have hl1 : ∀ w', w'.heap[b]? = W.heap[b]? → (Instr.lookup 56 (.map (some b)) (.string ⟨xn.toArray⟩) false).run Try.prog w' = .ok (kV (looks k xn)) w' ∧ (Instr.lookup 56 (.map (some b)) (.string ⟨yn.toArray⟩) false).run Try.prog w' = .ok (kV (looks k yn)) w' := fun w' hw => ⟨(hM.on hw).look1 xn hx, (hM.on hw).look1 yn hy⟩
  have hbl := Mv.lt hM
  unfold kV at hl1
  generalize looks k xn = lx at *
  generalize looks k yn = ly at *
  generalize (⟨xn.toArray⟩ : ByteArray) = xb at *
  generalize (⟨yn.toArray⟩ : ByteArray) = yb at *
  have hW : ∃ W2, W2 = (W.alloc (Obj.cells #[.string xb, .int .i64 xm, .int .i64 0, .int .i64 0, .slice none 0 0, .slice none 0 0, .slice none 0 0] 53)).alloc (Obj.cells #[.string yb, .int .i64 ym, .int .i64 0, .int .i64 0, .slice none 0 0, .slice none 0 0, .slice none 0 0] 53) ∧ Below W.heap.size W W2 ∧ W2.heap.size = W.heap.size + 2 ∧ W2.cell? ⟨W.heap.size, 0, none⟩ = some (.string xb) ∧ W2.cell? ⟨W.heap.size, 1, none⟩ = some (.int .i64 xm) ∧ W2.cell? ⟨W.heap.size + 1, 0, none⟩ = some (.string yb) ∧ W2.cell? ⟨W.heap.size + 1, 1, none⟩ = some (.int .i64 ym) := by
    refine ⟨_, rfl, ((Below.refl _ _).alloc (Nat.le_refl _) _).alloc (by simp) _, by simp, ?_⟩
    have h1 := new_block W (Obj.cells #[.string xb, .int .i64 xm, .int .i64 0, .int .i64 0, .slice none 0 0, .slice none 0 0, .slice none 0 0] 53)
    have h2 := new_block (W.alloc (Obj.cells #[.string xb, .int .i64 xm, .int .i64 0, .int .i64 0, .slice none 0 0, .slice none 0 0, .slice none 0 0] 53)) (Obj.cells #[.string yb, .int .i64 ym, .int .i64 0, .int .i64 0, .slice none 0 0, .slice none 0 0, .slice none 0 0] 53)
    rw [show (W.alloc (Obj.cells #[.string xb, .int .i64 xm, .int .i64 0, .int .i64 0, .slice none 0 0, .slice none 0 0, .slice none 0 0] 53)).heap.size = W.heap.size + 1 by simp] at h2
    have h3 := (Below.heap_alloc (W.alloc (Obj.cells #[.string xb, .int .i64 xm, .int .i64 0, .int .i64 0, .slice none 0 0, .slice none 0 0, .slice none 0 0] 53)) (Obj.cells #[.string yb, .int .i64 ym, .int .i64 0, .int .i64 0, .slice none 0 0, .slice none 0 0, .slice none 0 0] 53) W.heap.size (by simp)).trans h1
    exact ⟨heap_cell h3 rfl, heap_cell h3 rfl, heap_cell h2 rfl, heap_cell h2 rfl⟩
  obtain ⟨W2, hW2, hb2, hs2, a0, a1, c0, c1⟩ := hW
  have HEQ : Hid (∃ os, W2 = Sort.grow W os) := ⟨_, by rw [hW2, Sort.alloc_eq_grow, Sort.alloc_eq_grow, Sort.grow_grow]⟩
  have hK2 := (hb2.cell (p := ⟨Kb, 1, none⟩) hKb).trans hK
  have hl2 := (hl1 W2.drew (hb2.block b hbl)).1
  have hl3 := (hl1 W2.drew (hb2.block b hbl)).2
  have f1 := fun W' => fld1 lx.1 lx.2.1 lx.2.2 W'
  have f2 := fun W' => fld1 ly.1 ly.2.1 ly.2.2 W'
  have CP := compare_any lx.2.1 ly.2.1
  have CN := compare_any xm ym
  generalize cmpI lx.2.1 ly.2.1 = p at *
  generalize cmpI xm ym = q at *
  have HR : Hid ((if p = 0 then q else p) = if p = 0 then q else p) := rfl
  generalize hRR : (if p = 0 then q else p) = R
  clear hM hK hl1 hb2
  have HS2 : Hid (W2.heap.size = W.heap.size + 2) := hs2
  clear hs2
  go_enter Try.func61, Try.ntmps61
  go_upto_region 1 with fail
  rw [← hW2]
  clear hW2
  have hkA : ∀ pt : Addr, pt.block < W2.heap.size → ((W2.alloc (Obj.cells #[.int .i64 p, .int .i64 q] 3)).drew).cell? pt = W2.cell? pt := fun pt h => World.cell?_of_block (w := W2) (Below.heap_alloc _ _ _ h)
  have hn := new_block W2 (Obj.cells #[.int .i64 p, .int .i64 q] 3)
  have CO := or_any p q W2.heap.size ((W2.alloc (Obj.cells #[.int .i64 p, .int .i64 q] 3)).drew) (heap_cell (w := (W2.alloc (Obj.cells #[.int .i64 p, .int .i64 q] 3)).drew) hn rfl) (heap_cell (w := (W2.alloc (Obj.cells #[.int .i64 p, .int .i64 q] 3)).drew) hn rfl)
  have hA : W.heap.size < W2.heap.size ∧ W.heap.size + 1 < W2.heap.size ∧ Kb < W2.heap.size := by have := HS2.out; omega
  clear hn
  rw [hRR] at CO
  clear hRR HR
  go_region_held3 (fun w' => (w'.cell? ⟨Kb, 1, none⟩ = some (.map (some b)) ∧ w'.cell? ⟨W.heap.size, 0, none⟩ = some (.string xb) ∧ w'.cell? ⟨W.heap.size, 1, none⟩ = some (.int .i64 xm)) ∧ w'.cell? ⟨W.heap.size + 1, 0, none⟩ = some (.string yb) ∧ w'.cell? ⟨W.heap.size + 1, 1, none⟩ = some (.int .i64 ym)) (first | exact ⟨⟨hK2, a0, a1⟩, c0, c1⟩ | assumption | exact ⟨⟨(hkA _ hA.2.2).trans hK2, (hkA _ hA.1).trans a0, (hkA _ hA.1).trans a1⟩, (hkA _ hA.2.1).trans c0, (hkA _ hA.2.1).trans c1⟩ | go_keep)
    (first | (go_at_call 63; (with_reducible refine Calls.mono (CP _) ?_); rintro e' w1 ⟨rfl, rfl⟩) | (go_at_call 63; (with_reducible refine Calls.mono (CN _) ?_); rintro e' w1 ⟨rfl, rfl⟩) | (go_at_call 62; (with_reducible refine Calls.mono CO ?_); rintro e' w1 ⟨rfl, rfl⟩))
  all_goals
    go_wp2
    go_ret
    obtain ⟨os, h⟩ := HEQ.out
    refine ⟨rfl, 1, os ++ #[Obj.cells #[.int .i64 p, .int .i64 q] 3], ?_⟩
    rw [← Sort.grow_grow]
    show (W2.alloc (Obj.cells #[.int .i64 p, .int .i64 q] 3)).drew = _
    rw [h, Sort.alloc_eq_grow]
    rfl
end Go.Proofs.Ytpdmkhnonbbhnaa

namespace Go.Proofs.Ytpdmkhnonbbhnaa
open Go.RowKit Go.Maps

set_option maxHeartbeats 4000000 in
set_option maxRecDepth 10000 in
theorem ones_any (x y : Cs) (W : World) :
    Calls Try.prog 65 #[.agg (csE x).toArray, .agg (csE y).toArray] W fun r w' => r = .returned (.bool (decide (x = y))) ∧ Below W.heap.size W w' := by
  obtain ⟨xn, xm⟩ := x
  obtain ⟨yn, ym⟩ := y
  unfold csE
  dsimp only
  have hR : decide ((xn, xm) = (yn, ym)) = (decide (xn = yn) && decide (xm = ym)) := by simp
  rw [hR]
  have hB : ∀ o o', Below W.heap.size W ((W.alloc o).alloc o') := fun o o' => ((Below.refl _ _).alloc (Nat.le_refl _) o).alloc (by simp) o'
  clear hR
  by_cases hn : xn = yn
  · subst hn
    rw [decide_eq_true rfl, Bool.true_and]
    have e1 : ((⟨xn.toArray⟩ : ByteArray).toList == (⟨xn.toArray⟩ : ByteArray).toList) = true := by simp
    generalize (⟨xn.toArray⟩ : ByteArray) = xb at *
    by_cases hm : xm = ym
    · subst hm
      have e2 : (xm == xm) = true := by simp
      rw [decide_eq_true rfl]
      go_enter Try.func65, Try.ntmps65
      go_wp2
      go_ret
      exact ⟨rfl, hB _ _⟩
    · have e2 : (xm == ym) = false := by simpa using hm
      rw [decide_eq_false hm]
      clear hm
      go_enter Try.func65, Try.ntmps65
      go_wp2
      go_ret
      exact ⟨rfl, hB _ _⟩
  · have e1 : ((⟨xn.toArray⟩ : ByteArray).toList == (⟨yn.toArray⟩ : ByteArray).toList) = false := by rw [bytes_list, bytes_list]; simpa using hn
    rw [decide_eq_false hn, Bool.false_and]
    generalize (⟨xn.toArray⟩ : ByteArray) = xb at *
    generalize (⟨yn.toArray⟩ : ByteArray) = yb at *
    clear hn
    go_enter Try.func65, Try.ntmps65
    go_wp2
    go_ret
    exact ⟨rfl, hB _ _⟩
/-- The cells of a row of cases. -/
def rowC (ds : List Cs) : Array Value := (ds.flatMap csE).toArray
theorem rowC_size (ds : List Cs) : (rowC ds).size = ds.length * 7 := by
  simp only [rowC, List.size_toArray]
  induction ds with
  | nil => rfl
  | cons a r ih =>
    rw [List.flatMap_cons, List.length_append, ih, List.length_cons]
    show 7 + _ = _
    omega
theorem rowC_get (ds : List Cs) (j : Nat) (h : j < ds.length) (i : Nat) (hi : i < 7) : (rowC ds)[j * 7 + i]? = (csE ds[j])[i]? := by
  unfold rowC
  rw [List.getElem?_toArray]
  exact flat_get (k := 7) (f := csE) ds (fun _ _ => rfl) j h i hi
theorem rowC_set (ds : List Cs) (k : Nat) (hk : k < ds.length) (x : Cs) : (((((((rowC ds).setIfInBounds (k * 7) (.string ⟨x.1.toArray⟩)).setIfInBounds (k * 7 + 1) (.int .i64 x.2)).setIfInBounds (k * 7 + 2) (.int .i64 0)).setIfInBounds (k * 7 + 3) (.int .i64 0)).setIfInBounds (k * 7 + 4) (.slice none 0 0)).setIfInBounds (k * 7 + 5) (.slice none 0 0)).setIfInBounds (k * 7 + 6) (.slice none 0 0) = rowC (ds.set k x) := by
  have hs := rowC_size ds
  apply Array.ext_getElem?
  intro t
  by_cases ht : t < ds.length * 7
  · have hd : t / 7 < ds.length := by omega
    have hm : t % 7 < 7 := by omega
    have e : t = t / 7 * 7 + t % 7 := by omega
    generalize t / 7 = j at *
    generalize t % 7 = i at *
    subst e
    rw [rowC_get (ds.set k x) j (by simpa using hd) i hm]
    simp only [Array.getElem?_setIfInBounds, Array.size_setIfInBounds, hs]
    by_cases hj : j = k
    · subst hj
      rw [List.getElem_set_self]
      have : i = 0 ∨ i = 1 ∨ i = 2 ∨ i = 3 ∨ i = 4 ∨ i = 5 ∨ i = 6 := by omega
      rcases this with rfl | rfl | rfl | rfl | rfl | rfl | rfl <;> simp [csE] <;> omega
    · rw [List.getElem_set_ne (by omega)]
      rw [if_neg (by omega), if_neg (by omega), if_neg (by omega), if_neg (by omega), if_neg (by omega), if_neg (by omega), if_neg (by omega)]
      exact rowC_get ds j hd i hm
  · rw [Array.getElem?_eq_none (by simp [hs]; omega), Array.getElem?_eq_none (by rw [rowC_size]; simp; omega)]
/-- Each case that is the same as the one ahead of it is left out. -/
def compactP (l : List Cs) : List Cs := l.foldl (fun acc x => if acc.getLast? = some x then acc else acc ++ [x]) []
theorem compactP_snoc (l : List Cs) (x : Cs) : compactP (l ++ [x]) = if (compactP l).getLast? = some x then compactP l else compactP l ++ [x] := by
  unfold compactP
  rw [List.foldl_append]
  rfl
theorem compactP_last (l : List Cs) : (compactP l).getLast? = l.getLast? := by
  rcases List.eq_nil_or_concat l with rfl | ⟨r, x, rfl⟩
  · rfl
  · rw [List.concat_eq_append, compactP_snoc]
    by_cases h : (compactP r).getLast? = some x
    · rw [if_pos h, h]; simp
    · rw [if_neg h]; simp
theorem compactP_take (l : List Cs) (j : Nat) (h : j + 1 < l.length) : compactP (l.take (j + 2)) = if l[j + 1] = l[j] then compactP (l.take (j + 1)) else compactP (l.take (j + 1)) ++ [l[j + 1]] := by
  have h1 : l.take (j + 2) = l.take (j + 1) ++ [l[j + 1]] := by rw [List.take_add_one, List.getElem?_eq_getElem h]; rfl
  have h2 : (l.take (j + 1)).getLast? = some l[j] := by
    rw [List.take_add_one, List.getElem?_eq_getElem (by omega)]
    exact List.getLast?_concat
  rw [h1, compactP_snoc, compactP_last, h2]
  by_cases e : l[j + 1] = l[j]
  · rw [if_pos e, if_pos (by rw [e])]
  · rw [if_neg e, if_neg (by simpa using fun h => e h.symm)]
theorem compactP_one (l : List Cs) (h : 0 < l.length) : compactP (l.take 1) = l.take 1 := by
  cases l with
  | nil => simp at h
  | cons a r => rfl
end Go.Proofs.Ytpdmkhnonbbhnaa
