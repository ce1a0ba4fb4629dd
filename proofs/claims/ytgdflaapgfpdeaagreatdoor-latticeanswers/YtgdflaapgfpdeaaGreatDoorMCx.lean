/- edged: its rows written over and grown. edged: what holds between the rounds of its later loops. edged, whole: the law's own function answers true. -/
import Derived.Test.YtgdflaapgfpdeaaGreatDoorMBx
namespace Go.Proofs.YtgdflaapgfpdeaaGreatDoor
open Go.RowKit

theorem Rr.head {B : Nat} {w : World} {v : Value} {l : List Value} (h : Rr B w v l) (hp : 0 < l.length) : ∃ g cap, v = .slice (some ⟨g, 0, none⟩) l.length cap ∧ l.length ≤ cap ∧ B ≤ g ∧ g < w.heap.size := by
  rcases id h.1.2 with ⟨h1, h2⟩ | ⟨g, cap, cur, h1, h2, h3, h4, _⟩
  · omega
  · exact ⟨g, cap, h1, h4, h2, lt_heap h3⟩
theorem Rr.frozen {B : Nat} {w : World} {g n cap i : Nat} {l : List Value} (h : Rr B w (.slice (some ⟨g, 0, none⟩) n cap) l) : w.frozen? ⟨g, i, none⟩ = false := by
  rcases id h.1.2 with ⟨h1, h2⟩ | ⟨g', cap', cur, h1, h2, h3, h4, h5, h6, h7⟩
  · cases h1
  · obtain ⟨e1, -, -⟩ := Value.slice.inj h1
    simp only [Option.some.injEq, Addr.mk.injEq, and_true] at e1
    subst e1
    exact heap_frozen h3
theorem Rr.put {B : Nat} {w : World} {g n cap : Nat} {l : List Value} (h : Rr B w (.slice (some ⟨g, 0, none⟩) n cap) l) (i : Nat) (u : Value) (hu : u.oneCell' = true) : Rr B (w.setCell ⟨g, i, none⟩ u) (.slice (some ⟨g, 0, none⟩) n cap) (l.set i u) := by
  refine ⟨?_, fun x hx => ?_⟩
  · rw [List.length_set]
    refine ⟨by simp, ?_⟩
    rcases id h.1.2 with ⟨h1, h2⟩ | ⟨g', cap', cur, h1, h2, h3, h4, h5, h6, h7⟩
    · cases h1
    · obtain ⟨e1, -, -⟩ := Value.slice.inj h1
      simp only [Option.some.injEq, Addr.mk.injEq, and_true] at e1
      subst e1
      refine .inr ⟨g, cap', cur.setIfInBounds i u, h1, h2, setCell_block h3, h4, h5, by simpa using h6, ?_⟩
      rw [Array.toList_setIfInBounds, List.take_set, h7]
  · rcases List.mem_or_eq_of_mem_set hx with h1 | rfl
    · exact h.2 x h1
    · exact hu
/-- A number is written into one of the rows. -/
theorem Ed2.put {B : Nat} {w : World} {ov wv : Value} {ys xs zs : List Value} {ls : List (List Int)} (h : Ed2 B w ov wv ys xs zs ls) {k : Nat} (hk : k < zs.length) {g n cap : Nat} (e : zs.getD k undef = .slice (some ⟨g, 0, none⟩) n cap) (i : Nat) (x : Int) : Ed2 B (w.setCell ⟨g, i, none⟩ (.int .i64 x)) ov wv ys xs zs (ls.set k ((ls.getD k []).set i x)) := by
  have hg := h.apart k g hk (by rw [e]; rfl)
  exact ⟨h.out.keep fun y e2 => Below.heap_setCell _ _ _ _ fun e3 => by subst e3; exact hg.1 e2, h.want.keep fun y e2 => Below.heap_setCell _ _ _ _ fun e3 => by subst e3; exact hg.2 e2, h.fam.put hk e i x, h.apart, h.two⟩
/-- One of the rows has grown. -/
theorem Ed2.grow {B : Nat} {w w' : World} {ov wv : Value} {ys xs zs : List Value} {ls : List (List Int)} (h : Ed2 B w ov wv ys xs zs ls) {k : Nat} (hk : k < zs.length) {v : Value} {l : List Int} (hv : Ir B w' v l) (K : ∀ y, y < w.heap.size → (zs.getD k undef).ownBlock ≠ some y → w'.heap[y]? = w.heap[y]?) (G : v.ownBlock = (zs.getD k undef).ownBlock ∨ ∃ g, v.ownBlock = some g ∧ w.heap.size ≤ g) : Ed2 B w' ov wv ys xs (zs.set k v) (ls.set k l) := by
  have hl := h.fam.len
  have e1 : ∀ j, j ≠ k → (zs.set k v).getD j undef = zs.getD j undef := fun j hj => by simp only [List.getD, List.getElem?_set_ne (fun e => hj e.symm)]
  have e2 : (zs.set k v).getD k undef = v := by simp [List.getD, hk]
  have f1 : ∀ j, j ≠ k → (ls.set k l).getD j [] = ls.getD j [] := fun j hj => by simp only [List.getD, List.getElem?_set_ne (fun e => hj e.symm)]
  have f2 : (ls.set k l).getD k [] = l := by simp [List.getD, show k < ls.length by omega]
  have hnew : ∀ g, g < w.heap.size → (zs.getD k undef).ownBlock ≠ some g → v.ownBlock ≠ some g := fun g hg hne e => by
    rcases G with G | ⟨g2, G, hg2⟩
    · exact hne (by rw [← G]; exact e)
    · rw [G] at e
      injection e with e
      omega
  refine ⟨h.out.keep fun g e => K g (h.out.lt g e).2 fun e3 => (h.apart k g hk e3).1 e, h.want.keep fun g e => K g (h.want.lt g e).2 fun e3 => (h.apart k g hk e3).2 e, ⟨by simp [hl], fun j hj => ?_, fun i j g hi hj hij e => ?_⟩, fun j g hj e => ?_, h.two⟩
  · rw [List.length_set] at hj
    by_cases hjk : j = k
    · subst hjk
      rw [e2, f2]
      exact hv
    · rw [e1 j hjk, f1 j hjk]
      exact (h.fam.row j hj).keep fun g e => K g ((h.fam.row j hj).lt g e).2 (h.fam.apart j k g hj hk hjk e)
  · rw [List.length_set] at hi hj
    by_cases hik : i = k
    · subst hik
      rw [e2] at e
      rw [e1 j (fun e => hij e.symm)]
      intro e3
      exact hnew g ((h.fam.row j hj).lt g e3).2 (h.fam.apart j i g hj hi (fun e => hij e.symm) e3) e
    · rw [e1 i hik] at e
      by_cases hjk : j = k
      · subst hjk
        rw [e2]
        exact hnew g ((h.fam.row i hi).lt g e).2 (h.fam.apart i j g hi hj hik e)
      · rw [e1 j hjk]
        exact h.fam.apart i j g hi hj hij e
  · rw [List.length_set] at hj
    by_cases hjk : j = k
    · subst hjk
      rw [e2] at e
      exact ⟨fun e3 => hnew g (h.out.lt g e3).2 (fun e4 => (h.apart j g hj e4).1 e3) e, fun e3 => hnew g (h.want.lt g e3).2 (fun e4 => (h.apart j g hj e4).2 e3) e⟩
    · rw [e1 j hjk] at e
      exact h.apart j g hj e
/-- A slice is written into out. -/
theorem Ed2.store {B : Nat} {w : World} {g n cap : Nat} {wv : Value} {ys xs zs : List Value} {ls : List (List Int)} (h : Ed2 B w (.slice (some ⟨g, 0, none⟩) n cap) wv ys xs zs ls) (j : Nat) (u : Value) (hu : u.oneCell' = true) : Ed2 B (w.setCell ⟨g, j, none⟩ u) (.slice (some ⟨g, 0, none⟩) n cap) wv (ys.set j u) xs zs ls :=
  ⟨h.out.put j u hu, h.want.keep fun y e2 => Below.heap_setCell _ _ _ _ fun e3 => by subst e3; exact h.two y rfl e2, h.fam.keep fun i y hi e2 => Below.heap_setCell _ _ _ _ fun e3 => by subst e3; exact (h.apart i y hi e2).1 rfl, h.apart, h.two⟩
theorem getD_set_ne {α : Type} {l : List α} {i j : Nat} {a e : α} (h : j ≠ i) : (l.set i a).getD j e = l.getD j e := by simp only [List.getD, List.getElem?_set_ne (fun e => h e.symm)]
theorem getD_set_eq {α : Type} {l : List α} {i : Nat} {a e : α} (h : i < l.length) : (l.set i a).getD i e = a := by simp [List.getD, h]
theorem getD_few {n : Nat} {ls : List (List Int)} (h : ∀ l ∈ ls, l.length ≤ n) (i : Nat) : (ls.getD i []).length ≤ n := by
  by_cases hi : i < ls.length
  · rw [show ls.getD i [] = ls[i] by simp [List.getD, hi]]
    exact h _ (List.getElem_mem hi)
  · simp [List.getD, show ls.length ≤ i by omega]
/-- A number is written into both rows of a pair. -/
theorem EdS.put {k : Nat} {ys xs zs : List Value} {ls : List (List Int)} (h : EdS k ys xs zs ls) (hz : zs.length = ls.length) {j : Nat} (hj : j < k) (i : Nat) (x : Int) : EdS k ys xs zs ((ls.set (2 * j) ((ls.getD (2 * j) []).set i x)).set (2 * j + 1) (((ls.set (2 * j) ((ls.getD (2 * j) []).set i x)).getD (2 * j + 1) []).set i x)) := by
  obtain ⟨h1, h2, h3, h4, h5⟩ := h
  have hs : (ls.set (2 * j) ((ls.getD (2 * j) []).set i x)).getD (2 * j + 1) [] = ls.getD (2 * j + 1) [] := getD_set_ne (by omega)
  rw [hs]
  refine ⟨h1, h2, h3, fun m hm => ?_, fun l hl => ?_⟩
  · obtain ⟨e1, e2, e3⟩ := h4 m hm
    refine ⟨e1, e2, ?_⟩
    by_cases hmj : m = j
    · subst hmj
      rw [getD_set_ne (by omega), getD_set_eq (by omega), getD_set_eq (by simp; omega), e3]
    · rw [getD_set_ne (by omega), getD_set_ne (by omega), getD_set_ne (by omega), getD_set_ne (by omega), e3]
  · rcases List.mem_or_eq_of_mem_set hl with h6 | rfl
    · rcases List.mem_or_eq_of_mem_set h6 with h6 | rfl
      · exact h5 l h6
      · rw [List.length_set]; exact getD_few h5 _
    · rw [List.length_set]; exact getD_few h5 _
/-- The first k of the rows of out have their marks. -/
def EdM (k : Nat) (ys xs zs : List Value) (ls : List (List Int)) : Prop := ys.length = 6 ∧ xs.length = 6 ∧ zs.length = 12 ∧ (∀ i, i < 6 → zs.getD (2 * i) undef = ys.getD i undef ∧ zs.getD (2 * i + 1) undef = xs.getD i undef ∧ ls.getD (2 * i) [] = ls.getD (2 * i + 1) [] ++ if i < k then [-100 - (i : Int), -100 - (i : Int)] else []) ∧ (∀ i, i < 6 → (ls.getD (2 * i + 1) []).length ≤ 40)
theorem EdS.marks {ys xs zs : List Value} {ls : List (List Int)} (h : EdS 6 ys xs zs ls) : EdM 0 ys xs zs ls := by
  obtain ⟨h1, h2, h3, h4, h5⟩ := h
  refine ⟨h1, h2, h3, fun i hi => ?_, fun i hi => getD_few h5 _⟩
  obtain ⟨e1, e2, e3⟩ := h4 i hi
  exact ⟨e1, e2, by rw [if_neg (by omega), List.append_nil]; exact e3⟩
theorem EdM.more {k : Nat} {ys xs zs : List Value} {ls : List (List Int)} (h : EdM k ys xs zs ls) (hz : zs.length = ls.length) (hk : k < 6) (v : Value) : EdM (k + 1) (ys.set k v) xs (zs.set (2 * k) v) (ls.set (2 * k) (ls.getD (2 * k) [] ++ [-100 - (k : Int), -100 - (k : Int)])) := by
  obtain ⟨h1, h2, h3, h4, h5⟩ := h
  refine ⟨by simp [h1], h2, by simp [h3], fun i hi => ?_, fun i hi => ?_⟩
  · obtain ⟨e1, e2, e3⟩ := h4 i hi
    by_cases hik : i = k
    · subst hik
      rw [getD_set_eq (by omega), getD_set_eq (by omega), getD_set_ne (by omega), getD_set_eq (by omega), getD_set_ne (by omega), if_pos (by omega), e3, if_neg (by omega), List.append_nil]
      exact ⟨rfl, e2, rfl⟩
    · rw [getD_set_ne (by omega), getD_set_ne hik, getD_set_ne (by omega), getD_set_ne (by omega), getD_set_ne (by omega), e3]
      refine ⟨e1, e2, ?_⟩
      by_cases hlt : i < k
      · rw [if_pos hlt, if_pos (by omega)]
      · rw [if_neg hlt, if_neg (by omega)]
  · rw [getD_set_ne (by omega)]
    exact h5 i hi
end Go.Proofs.YtgdflaapgfpdeaaGreatDoor

namespace Go.Proofs.YtgdflaapgfpdeaaGreatDoor
open Go.RowKit

/-- Between the rounds that write the rows over. -/
def EdT (W w : World) (go oc gw wc : Nat) (ys xs zs : List Value) : Prop := ∃ ls, Below W.heap.size W w ∧ Ed2 W.heap.size w (.slice (some ⟨go, 0, none⟩) 6 oc) (.slice (some ⟨gw, 0, none⟩) 6 wc) ys xs zs ls ∧ EdS 6 ys xs zs ls
theorem EdT.below {W w w' : World} {go oc gw wc : Nat} {ys xs zs : List Value} (h : EdT W w go oc gw wc ys xs zs) (hb : Below w.heap.size w w') : EdT W w' go oc gw wc ys xs zs := by
  obtain ⟨ls, h1, h2, h3⟩ := h
  exact ⟨ls, h1.trans (hb.mono h1.size), h2.below hb, h3⟩
theorem EdT.cells {W w : World} {go oc gw wc : Nat} {ys xs zs : List Value} (h : EdT W w go oc gw wc ys xs zs) {k : Nat} (hk : k < 6) : w.cell? ⟨go, k, none⟩ = some (ys.getD k undef) ∧ w.cell? ⟨gw, k, none⟩ = some (xs.getD k undef) := by
  obtain ⟨ls, h1, h2, h3⟩ := h
  exact ⟨h2.out.cell (by rw [h3.1]; exact hk), h2.want.cell (by rw [h3.2.1]; exact hk)⟩
theorem EdT.rows {W w : World} {go oc gw wc : Nat} {ys xs zs : List Value} (h : EdT W w go oc gw wc ys xs zs) {k : Nat} (hk : k < 6) : ∃ l, Zts w (ys.getD k undef) l ∧ Zts w (xs.getD k undef) l ∧ l.length ≤ 40 := by
  obtain ⟨ls, h1, h2, h3⟩ := h
  obtain ⟨e1, e2, e3⟩ := h3.2.2.2.1 k hk
  have r1 := h2.fam.row (2 * k) (by have := h3.2.2.1; omega)
  have r2 := h2.fam.row (2 * k + 1) (by have := h3.2.2.1; omega)
  rw [e1] at r1
  rw [e2, ← e3] at r2
  exact ⟨_, r1.read, r2.read, getD_few h3.2.2.2.2 _⟩
theorem ir_form {B : Nat} {w : World} {v : Value} {l : List Int} (h : Ir B w v l) : ∃ a c, v = .slice a l.length c ∧ (0 < l.length → ∃ g, a = some ⟨g, 0, none⟩ ∧ l.length ≤ c) := by
  rcases h.len with ⟨rfl, rfl⟩ | ⟨g, c, rfl, h1, _, _⟩
  · exact ⟨none, 0, rfl, fun h => by simp at h⟩
  · exact ⟨_, c, rfl, fun _ => ⟨g, rfl, h1⟩⟩
theorem EdT.form {W w : World} {go oc gw wc : Nat} {ys xs zs : List Value} (h : EdT W w go oc gw wc ys xs zs) {k : Nat} (hk : k < 6) : ∃ ay cy ax cx n, ys.getD k undef = .slice ay n cy ∧ xs.getD k undef = .slice ax n cx ∧ n ≤ 40 ∧ (0 < n → ∃ g1 g2, ay = some ⟨g1, 0, none⟩ ∧ ax = some ⟨g2, 0, none⟩ ∧ n ≤ cy ∧ n ≤ cx) := by
  obtain ⟨ls, h1, h2, h3⟩ := h
  obtain ⟨e1, e2, e3⟩ := h3.2.2.2.1 k hk
  have r1 := h2.fam.row (2 * k) (by have := h3.2.2.1; omega)
  have r2 := h2.fam.row (2 * k + 1) (by have := h3.2.2.1; omega)
  rw [e1] at r1
  rw [e2, ← e3] at r2
  obtain ⟨a, c, q1, q2⟩ := ir_form r1
  obtain ⟨b, d, p1, p2⟩ := ir_form r2
  refine ⟨a, c, b, d, _, q1, p1, getD_few h3.2.2.2.2 _, fun hp => ?_⟩
  obtain ⟨g1, s1, s2⟩ := q2 hp
  obtain ⟨g2, s3, s4⟩ := p2 hp
  exact ⟨g1, g2, s1, s3, s2, s4⟩
/-- A number is written into both rows. -/
theorem EdT.put {W w : World} {go oc gw wc : Nat} {ys xs zs : List Value} (h : EdT W w go oc gw wc ys xs zs) {k : Nat} (hk : k < 6) {g1 g2 n cy cx : Nat} (ey : ys.getD k undef = .slice (some ⟨g1, 0, none⟩) n cy) (ex : xs.getD k undef = .slice (some ⟨g2, 0, none⟩) n cx) {i : Nat} (hi : i < n) (x : Int) :
    (∃ z, w.cell? ⟨g1, i, none⟩ = some (.int .i64 z)) ∧ w.frozen? ⟨g1, i, none⟩ = false ∧ (w.setCell ⟨g1, i, none⟩ (.int .i64 x)).cell? ⟨gw, k, none⟩ = some (xs.getD k undef) ∧ (∃ z, (w.setCell ⟨g1, i, none⟩ (.int .i64 x)).cell? ⟨g2, i, none⟩ = some (.int .i64 z)) ∧ (w.setCell ⟨g1, i, none⟩ (.int .i64 x)).frozen? ⟨g2, i, none⟩ = false ∧ EdT W ((w.setCell ⟨g1, i, none⟩ (.int .i64 x)).setCell ⟨g2, i, none⟩ (.int .i64 x)) go oc gw wc ys xs zs := by
  obtain ⟨ls, h1, h2, h3⟩ := h
  obtain ⟨e1, e2, e3⟩ := h3.2.2.2.1 k hk
  have hz := h3.2.2.1
  have hzl := h2.fam.len
  have r1 := h2.fam.row (2 * k) (by omega)
  have r2 := h2.fam.row (2 * k + 1) (by omega)
  rw [e1, ey] at r1
  rw [e2, ex] at r2
  have len1 : (ls.getD (2 * k) []).length = n := by
    rcases r1.len with ⟨_, q⟩ | ⟨g, c, q, _⟩
    · injection q with q1 q2 q3; cases q1
    · injection q with q1 q2 q3; exact q2.symm
  have hB1 := (r1.lt g1 rfl).1
  have hB2 := (r2.lt g2 rfl).1
  have p1 := h2.put (k := 2 * k) (by omega) (e1.trans ey) i x
  have s1 : (ls.set (2 * k) ((ls.getD (2 * k) []).set i x)).getD (2 * k + 1) [] = ls.getD (2 * k + 1) [] := getD_set_ne (by omega)
  have p2 := p1.put (k := 2 * k + 1) (by omega) (e2.trans ex) i x
  have r3 := p1.fam.row (2 * k + 1) (by omega)
  rw [e2, ex, s1] at r3
  exact ⟨⟨_, r1.cell (by rw [len1]; exact hi)⟩, r1.frozen, p1.want.cell (by rw [h3.2.1]; exact hk), ⟨_, r3.cell (by rw [← e3, len1]; exact hi)⟩, r3.frozen, _, (h1.setCell (show W.heap.size ≤ g1 from hB1) _).setCell (show W.heap.size ≤ g2 from hB2) _, p2, h3.put hzl hk i x⟩
/-- Between the rounds that add the marks. -/
def EdN (k : Nat) (W w : World) (go oc gw wc : Nat) : Prop := ∃ ys xs zs ls, Below W.heap.size W w ∧ Ed2 W.heap.size w (.slice (some ⟨go, 0, none⟩) 6 oc) (.slice (some ⟨gw, 0, none⟩) 6 wc) ys xs zs ls ∧ EdM k ys xs zs ls
theorem EdT.marks {W w : World} {go oc gw wc : Nat} {ys xs zs : List Value} (h : EdT W w go oc gw wc ys xs zs) : EdN 0 W w go oc gw wc := by
  obtain ⟨ls, h1, h2, h3⟩ := h
  exact ⟨ys, xs, zs, ls, h1, h2, h3.marks⟩
theorem EdN.below {k : Nat} {W w w' : World} {go oc gw wc : Nat} (h : EdN k W w go oc gw wc) (hb : Below w.heap.size w w') : EdN k W w' go oc gw wc := by
  obtain ⟨ys, xs, zs, ls, h1, h2, h3⟩ := h
  exact ⟨ys, xs, zs, ls, h1.trans (hb.mono h1.size), h2.below hb, h3⟩
/-- One row more has its marks. -/
theorem EdN.at {k : Nat} {W w : World} {go oc gw wc : Nat} (h : EdN k W w go oc gw wc) (hk : k < 6) : ∃ (a : Option Addr) (c : Nat) (L : List Int), w.cell? ⟨go, k, none⟩ = some (.slice a L.length c) ∧ Ir W.heap.size w (.slice a L.length c) L ∧ L.length ≤ 40 ∧ W.heap.size ≤ w.heap.size ∧
    ∀ w2, Below w.heap.size w w2 → ∀ v' w', Ir W.heap.size w' v' (L ++ [-100 - (k : Int), -100 - (k : Int)]) → Below W.heap.size w2 w' → (∀ y, y < w2.heap.size → (Value.slice a L.length c).ownBlock ≠ some y → w'.heap[y]? = w2.heap[y]?) → (v'.ownBlock = (Value.slice a L.length c).ownBlock ∨ ∃ g, v'.ownBlock = some g ∧ w2.heap.size ≤ g) →
      w'.frozen? ⟨go, k, none⟩ = false ∧ (∃ z, w'.cell? ⟨go, k, none⟩ = some z) ∧ EdN (k + 1) W (w'.setCell ⟨go, k, none⟩ v') go oc gw wc := by
  obtain ⟨ys, xs, zs, ls, h1, h2, h3⟩ := h
  obtain ⟨e1, e2, e3⟩ := h3.2.2.2.1 k hk
  have hz := h3.2.2.1
  have hzl := h2.fam.len
  have r1 := h2.fam.row (2 * k) (by omega)
  rw [if_neg (by omega), List.append_nil] at e3
  have h40 := h3.2.2.2.2 k hk
  rw [← e3] at h40
  obtain ⟨a, c, q1, _⟩ := ir_form r1
  rw [q1] at r1
  refine ⟨a, c, _, ?_, r1, h40, h1.size, fun w2 hb v' w' hv hB K G => ?_⟩
  · rw [← q1, e1]
    exact h2.out.cell (by rw [h3.1]; exact hk)
  · have h4 := h2.below hb
    rw [← q1] at K G
    have h5 := h4.grow (k := 2 * k) (by omega) hv K G
    have hv1 : v'.oneCell' = true := by
      obtain ⟨a', c', q, _⟩ := ir_form hv
      rw [q]
      rfl
    have h6 := h5.store k v' hv1
    exact ⟨h5.out.frozen, ⟨_, h5.out.cell (by rw [h3.1]; exact hk)⟩, ys.set k v', xs, _, _, ((h1.trans (hb.mono h1.size)).trans hB).setCell (show W.heap.size ≤ go from (h5.out.lt go rfl).1) _, h6, h3.more hzl hk v'⟩
/-- At last each row of out is the row of want, and two marks. -/
theorem EdN.last {W w : World} {go oc gw wc : Nat} (h : EdN 6 W w go oc gw wc) {k : Nat} (hk : k < 6) : ∃ (g c : Nat) (vx : Value) (l : List Int), l.length + 2 ≤ c ∧ l.length ≤ 40 ∧ Zts w (.slice (some ⟨g, 0, none⟩) l.length c) l ∧ Zts w vx l ∧
    ∀ w2, Below w.heap.size w w2 → w2.cell? ⟨go, k, none⟩ = some (.slice (some ⟨g, 0, none⟩) (l.length + 2) c) ∧ w2.cell? ⟨gw, k, none⟩ = some vx ∧ w2.cell? ⟨g, l.length, none⟩ = some (.int .i64 (-100 - (k : Int))) ∧ w2.cell? ⟨g, l.length + 1, none⟩ = some (.int .i64 (-100 - (k : Int))) := by
  obtain ⟨ys, xs, zs, ls, h1, h2, h3⟩ := h
  obtain ⟨e1, e2, e3⟩ := h3.2.2.2.1 k hk
  have hz := h3.2.2.1
  have r1 := h2.fam.row (2 * k) (by omega)
  have r2 := h2.fam.row (2 * k + 1) (by omega)
  have h40 := h3.2.2.2.2 k hk
  have hc1 := h2.out.cell (i := k) (by rw [h3.1]; exact hk)
  have hc2 := h2.want.cell (i := k) (by rw [h3.2.1]; exact hk)
  have hgo := (h2.out.lt go rfl).2
  have hgw := (h2.want.lt gw rfl).2
  rw [if_pos hk] at e3
  rw [e1, e3] at r1
  rw [e2] at r2
  generalize ls.getD (2 * k + 1) [] = l at *
  rcases r1.len with ⟨q, _⟩ | ⟨g, c, q1, q2, _, hg⟩
  · simp at q
  · rw [q1] at r1 hc1
    have hl : (l ++ [-100 - (k : Int), -100 - (k : Int)]).length = l.length + 2 := by simp
    have hz1 := r1.zts q2 (k := l.length) (by omega)
    rw [List.take_left' rfl] at hz1
    have c1 := r1.cell (i := l.length) (by omega)
    have c2 := r1.cell (i := l.length + 1) (by omega)
    rw [getD_right (j := 0) (by omega)] at c1
    rw [getD_right (j := 1) (by omega)] at c2
    rw [hl] at hc1 q2
    exact ⟨g, c, _, l, q2, h40, hz1, r2.read, fun w2 hb => ⟨(hb.cell (p := ⟨go, k, none⟩) hgo).trans hc1, (hb.cell (p := ⟨gw, k, none⟩) hgw).trans hc2, (hb.cell (p := ⟨g, l.length, none⟩) hg).trans c1, (hb.cell (p := ⟨g, l.length + 1, none⟩) hg).trans c2⟩⟩
end Go.Proofs.YtgdflaapgfpdeaaGreatDoor

namespace Go.Proofs.YtgdflaapgfpdeaaGreatDoor
open Go.RowKit

set_option maxHeartbeats 16000000 in
set_option maxRecDepth 10000 in
theorem edged_any (d : Nat) (x : Value) (t : Tn (d + 1)) (w : World) (hx : TyAt w w.heap.size (d + 1) x t) (hN : (flat (d + 1) t).length ≤ 4194304) (f v : Int) :
    Calls Tryz.prog 11 #[x, .int .i64 f, .int .i64 v] w fun r w' => r = .returned (.bool true) ∧ Hid (Below w.heap.size w w') := by
  have HX : Hid (TyAt w w.heap.size (d + 1) x t) := hx
  obtain ⟨u, rfl, -, -, hrow⟩ := hx
  obtain ⟨ad, cap, rfl⟩ := hrow.len
  obtain ⟨X, hX⟩ : ∃ X, X = w.heap.size := ⟨_, rfl⟩
  obtain ⟨W, hW⟩ : ∃ W, W = w.alloc (.cells #[.int .i64 t.1.1, .string ⟨t.1.2.toArray⟩, .slice ad t.2.length cap] 24) := ⟨_, rfl⟩
  have hBW : Below w.heap.size w W := by rw [hW]; exact (Below.refl _ _).alloc (Nat.le_refl _) _
  have hXW : W.heap[X]? = some (.cells #[.int .i64 t.1.1, .string ⟨t.1.2.toArray⟩, .slice ad t.2.length cap] 24 (0, 0)) := by rw [hW, hX]; exact new_blk _ _
  have HALL : Hid (∀ w2 : World, Below W.heap.size W w2 → Below w.heap.size w w2 ∧ (w2.cell? ⟨X, 0, none⟩ = some (.int .i64 t.1.1) ∧ w2.cell? ⟨X, 1, none⟩ = some (.string ⟨t.1.2.toArray⟩) ∧ w2.cell? ⟨X, 2, none⟩ = some (.slice ad t.2.length cap)) ∧ TyAt w2 w2.heap.size (d + 1) (.agg #[.int .i64 t.1.1, .string ⟨t.1.2.toArray⟩, .slice ad t.2.length cap]) t) := fun w2 h2 => by
    have h3 : Below w.heap.size w w2 := hBW.trans (h2.mono hBW.size)
    have h4 := (h2.block X (lt_heap hXW)).trans hXW
    exact ⟨h3, ⟨heap_cl h4 rfl, heap_cl h4 rfl, heap_cl h4 rfl⟩, TyAt.below h3 h3.size _ _ _ HX.out⟩
  have HXE : Hid (X = w.heap.size) := hX
  have HNT : Hid ((flat (d + 1) t).length ≤ 4194304) := hN
  have HB0 : Hid (Below W.heap.size W W) := Below.refl _ _
  clear hrow hX hBW hXW hN HX
  go_enter Tryz.func11, Tryz.ntmps11
  go_upto_region 1 with fail
  rw [← hW, ← HXE.out]
  clear hW
  go_upto_region 4 with fail
  go_loopw [7, 8, 9] (fun ov wv kv wr => ∃ (k : Nat) (ys xs zs : List Value) (ls : List (List Int)) (oa : Option Addr) (oc : Nat) (wa : Option Addr) (wc : Nat), k ≤ 6 ∧ kv = .int .i64 k ∧ ov = .slice oa ys.length oc ∧ wv = .slice wa xs.length wc ∧ Hid (Below W.heap.size W wr) ∧ Hid (Ed2 W.heap.size wr (.slice oa ys.length oc) (.slice wa xs.length wc) ys xs zs ls) ∧ Hid (EdS k ys xs zs ls)) (fun _ _ kv _ => 6 - (intOf kv).toNat)
  case atStart => exact ⟨0, [], [], [], [], none, 0, none, 0, by omega, by go_num, rfl, rfl, HB0.out, ⟨⟨World.ownsRow_nil _ _ _ _, fun u h => by cases h⟩, ⟨World.ownsRow_nil _ _ _ _, fun u h => by cases h⟩, Fam.nil _ _, fun i g h => by simp at h, fun g h => by cases h⟩, ⟨rfl, rfl, rfl, fun i h => by omega, fun l h => by cases h⟩⟩
  case round =>
    obtain ⟨k, ys, xs, zs, ls, oa, oc, wa, wc, hk, rfl, rfl, rfl, HB, HE, HS⟩ := hrel
    by_cases hk6 : k < 6
    · have i1 : (k : Int) < 6 := by omega
      go_upto_if 35 with fail
      go_cut [10, 11] from 33 to 42 (fun p q wx => ∃ p' q' : Int, p = .int .i64 p' ∧ q = .int .i64 q' ∧ wx = wr)
      case first =>
        by_cases h3 : 0 < (k : Int) % 3
        · go_wp2_with fail
          go_meet
          exact ⟨_, _, rfl, rfl, rfl⟩
        · go_wp2_with fail
          go_meet
          exact ⟨_, _, rfl, rfl, rfl⟩
      case rest =>
        obtain ⟨f', v', rfl, rfl, hwc⟩ := hcut
        obtain rfl := hwc.symm
        clear hwc
        obtain ⟨-, ⟨c0, c1, c2⟩, hxx⟩ := HALL.out wr HB.out
        have C1 := edge_ref d _ t wr hxx HNT.out f' v'
        have hfew := edgeD_len (t := t) f' v'
        have C2 : Hid (∀ w2, Below W.heap.size W w2 → Calls Tryz.prog 31 #[.agg #[.int .i64 t.1.1, .string ⟨t.1.2.toArray⟩, .slice ad t.2.length cap], .int .i64 f', .int .i64 v'] w2 fun r w' => EdPost (edgeD (funD d t) f' v') w2 r w') := fun w2 hb => edge_all d _ t w2 (HALL.out w2 hb).2.2 HNT.out f' v'
        clear hxx
        generalize edgeD (funD d t) f' v' = eD at *
        go_upto_region 12 with (first | (go_at_call 30; (with_reducible refine Calls.mono C1 ?_); rintro e' w1 ⟨a1, q1, rfl, HN1, HO1⟩))
        have HB1 : Hid (Below W.heap.size W w1) := HB.out.trans (HN1.out.mono HB.out.size)
        clear c0 c1 c2 C1
        obtain ⟨-, ⟨c0, c1, c2⟩, -⟩ := HALL.out w1 HB1.out
        have C3 := C2.out w1 HB1.out
        go_upto_region 13 with (first | (go_at_call 31; (with_reducible refine Calls.mono C3 ?_); rintro e' w2 ⟨a2, q2, rfl, HN2, HO2⟩))
        have HB2 : Hid (Below W.heap.size W w2) := HB1.out.trans (HN2.out.mono HB1.out.size)
        clear c0 c1 c2 C2 C3
        have hx2 := (ownN_ir (HO1.out.on (fun _ h => h.elim) HN1.out.size HN2.out)).read
        have hy2 := (ownN_ir HO2.out).read
        have CS := same_rows hy2 hx2 (by rw [ofN_len]; omega)
        rw [decide_eq_true (rfl : ofN eD.1 = ofN eD.1)] at CS
        clear hx2 hy2
        go_upto_region 14 with (first | (go_at_call 10; (with_reducible refine Calls.mono CS ?_); rintro e' w3 ⟨rfl, HN3⟩))
        have HB3 : Hid (Below W.heap.size W w3) := HB2.out.trans (HN3.out.mono HB2.out.size)
        have hsz0 := HB.out.size
        have hsz1 := HN1.out.size
        have hsz2 := HN2.out.size
        have hsz3 := HN3.out.size
        have HE3 : Hid (Ed2 W.heap.size w3 (.slice oa ys.length oc) (.slice wa xs.length wc) ys xs zs ls) := HE.out.below (HN1.out.trans ((HN2.out.mono hsz1).trans (HN3.out.mono (Nat.le_trans hsz1 hsz2))))
        have hIx : Ir W.heap.size w3 (.slice a1 eD.1.length q1) (ofN eD.1) := by
          have h1 := ownN_ir (HO1.out.on (fun _ h => h.elim) hsz1 (HN2.out.trans (HN3.out.mono hsz2)))
          exact World.ownsRow.mono h1 hsz0
        have hIy : Ir W.heap.size w3 (.slice a2 eD.1.length q2) (ofN eD.1) := by
          have h1 := ownN_ir (HO2.out.on (fun _ h => h.elim) hsz2 HN3.out)
          exact World.ownsRow.mono h1 (by omega)
        have hNx : ∀ g, (Value.slice a1 eD.1.length q1).ownBlock = some g → (Value.slice oa ys.length oc).ownBlock ≠ some g := fun g e e2 => by
          have h1 := ((ownN_ir HO1.out).lt g e).1
          have := (HE.out.out.lt g e2).2
          omega
        have HXK : Hid (∀ w', (∀ y, y < w3.heap.size → (Value.slice oa ys.length oc).ownBlock ≠ some y → w'.heap[y]? = w3.heap[y]?) → Ir W.heap.size w' (.slice a1 eD.1.length q1) (ofN eD.1)) := fun w' K => hIx.keep fun g e => K g (hIx.lt g e).2 (hNx g e)
        have hNy : ∀ g, (Value.slice a2 eD.1.length q2).ownBlock = some g → (∀ i, i < zs.length → (zs.getD i undef).ownBlock ≠ some g) ∧ (Value.slice oa ys.length oc).ownBlock ≠ some g ∧ (Value.slice wa xs.length wc).ownBlock ≠ some g := fun g e => by
          have h1 := ((ownN_ir HO2.out).lt g e).1
          exact ⟨fun i hi e2 => by have := ((HE.out.fam.row i hi).lt g e2).2; omega, fun e2 => by have := (HE.out.out.lt g e2).2; omega, fun e2 => by have := (HE.out.want.lt g e2).2; omega⟩
        have HIX : Hid (Ir W.heap.size w3 (.slice a1 eD.1.length q1) (ofN eD.1)) := hIx
        have HADD : Hid (∀ ov' w', Rr W.heap.size w' ov' (ys ++ [Value.slice a2 eD.1.length q2]) → (∀ y, y < w3.heap.size → (Value.slice oa ys.length oc).ownBlock ≠ some y → w'.heap[y]? = w3.heap[y]?) → (ov'.ownBlock = (Value.slice oa ys.length oc).ownBlock ∨ ∃ g, ov'.ownBlock = some g ∧ w3.heap.size ≤ g) → Ed2 W.heap.size w' ov' (.slice wa xs.length wc) (ys ++ [Value.slice a2 eD.1.length q2]) xs (zs ++ [Value.slice a2 eD.1.length q2]) (ls ++ [ofN eD.1])) := fun ov' w' O K G => HE3.out.add hIy hNy O K G
        have HOA := rr_own HE3.out.out
        have hBs := HB3.out.size
        have hyl : ys.length = k := HS.out.1
        have HOH : Hid (OwnN ERaw 25 W.heap.size (fun _ => False) w3 (.slice oa ys.length oc) ys) := HOA
        have HFE : Hid (eD.1.length ≤ 40 ∧ W.heap.size ≤ w3.heap.size ∧ ys.length = k) := ⟨hfew, hBs, hyl⟩
        clear hIx hIy hNy hNx HOA HN1 HN2 HN3 HO1 HO2 hsz0 hsz1 hsz2 hsz3 HE HB CS HB1 HB2 hfew hyl
        go_upto_region 17 with (at_builtin; refine raw_append rfl _ _ rfl rfl HOH.out HFE.out.2.1 rfl rfl (Nat.le_refl _) (by have := HFE.out.2.2; omega) ?_; intro v4 w4 O4 B4 S4 K4 G4; have HE4 := HADD.out v4 w4 (own_rr O4) K4 G4; have HB4 : Hid (Below W.heap.size W w4) := HB3.out.trans B4; have HL4 := O4.len; have HX4 : Hid (Ir W.heap.size w4 (.slice a1 eD.1.length q1) (ofN eD.1)) := HXK.out w4 K4; clear O4 B4 S4 K4 G4)
        obtain ⟨a4, q4, rfl⟩ := HL4
        have HE4' : Hid (Ed2 W.heap.size w4 (.slice a4 (ys ++ [Value.slice a2 eD.1.length q2]).length q4) (.slice wa xs.length wc) (ys ++ [Value.slice a2 eD.1.length q2]) xs (zs ++ [Value.slice a2 eD.1.length q2]) (ls ++ [ofN eD.1])) := HE4
        have HZ4 : Hid (∀ w2, Below w4.heap.size w4 w2 → Zts w2 (.slice a1 eD.1.length q1) (ofN eD.1)) := fun w2 hb => (HX4.out.read).on hb
        have HW4 : Hid (W.heap.size ≤ w4.heap.size) := HB4.out.size
        have HXL : Hid (xs.length = k) := HS.out.2.1
        obtain ⟨ti, zi, hi0, hz0, hk0, hby0, hzs0⟩ := Tryz.tyInt.info
        clear HE4 HX4 HXK HADD HE3 HB3 HIX HOH
        go_wp2_with (first
          | (at_make; refine wpList_make_room _ rfl _ _ 25 rfl 3 ti zi 1 Tryz.tyInt.slice hi0 hz0 hk0 .i64 .i64 _ _ 0 eD.1.length rfl rfl rfl rfl (Nat.zero_le _) (by have := HFE.out.1; rw [hby0]; omega) (by have := HFE.out.1; unfold maxLen; omega) ?_; intro w5 G hG hs5 hb5 hc5; have HI5 : Hid (Ir G w5 (.slice (some ⟨G, 0, none⟩) 0 eD.1.length) []) := ir_made hc5 (Nat.le_refl _) (by have := HFE.out.1; unfold maxLen; omega); have HZ5 : Hid (Zts w5 (.slice a1 eD.1.length q1) (ofN eD.1)) := HZ4.out w5 hb5; have HG5 : Hid (G ≤ w5.heap.size ∧ w4.heap.size = G ∧ Below G w4 w5) := ⟨by omega, hG.symm, by rw [hG]; exact hb5⟩; clear hc5 hs5 hb5 hG)
          | (at_builtin; refine ir_append rfl _ _ rfl rfl HI5.out rfl HZ5.out (by have := HFE.out.1; rw [ofN_len]; simp only [List.length_nil]; omega) HG5.out.1 ?_; intro z6 w6 I6 B6 S6 K6 R6; have HB6 : Hid (Below G w4 w6) := HG5.out.2.2.trans B6; obtain ⟨za, zn, zc, rfl⟩ : ∃ za zn zc, z6 = .slice za zn zc := (by rcases I6.len with ⟨_, h⟩ | ⟨g, c, h, _⟩ <;> exact ⟨_, _, _, h⟩); have HI6 : Hid (Ir G w6 (.slice za zn zc) (ofN eD.1)) := I6; have HE6 : Hid (Ed2 W.heap.size w6 (.slice a4 (ys ++ [Value.slice a2 eD.1.length q2]).length q4) (.slice wa xs.length wc) (ys ++ [Value.slice a2 eD.1.length q2]) xs (zs ++ [Value.slice a2 eD.1.length q2]) (ls ++ [ofN eD.1])) := HE4'.out.below (by rw [HG5.out.2.1]; exact HB6.out); have HWG : Hid (W.heap.size ≤ G) := (by rw [← HG5.out.2.1]; exact HW4.out); clear I6 B6 S6 K6 R6 HI5 HZ5)
          | (at_builtin; refine raw_append rfl _ _ rfl rfl (rr_own HE6.out.want) (by have := HB6.out.size; have := HWG.out; have := HG5.out; omega) rfl rfl (Nat.le_refl _) (by have := HXL.out; omega) ?_; intro v7 w7 O7 B7 S7 K7 G7; have HL7 := O7.len; obtain ⟨a7, q7, rfl⟩ := HL7; have HE7 : Hid (Ed2 W.heap.size w7 (.slice a4 (ys ++ [Value.slice a2 eD.1.length q2]).length q4) (.slice a7 (xs ++ [Value.slice za zn zc]).length q7) (ys ++ [Value.slice a2 eD.1.length q2]) (xs ++ [Value.slice za zn zc]) ((zs ++ [Value.slice a2 eD.1.length q2]) ++ [Value.slice za zn zc]) ((ls ++ [ofN eD.1]) ++ [ofN eD.1])) := (HE6.out.swap.add (p := Value.slice za zn zc) (World.ownsRow.mono HI6.out HWG.out) (fun g e => by
              have h1 := (HI6.out.lt g e).1
              have h2 := HG5.out.2.1
              exact ⟨fun i hi e2 => by have := ((HE4'.out.fam.row i hi).lt g e2).2; omega, fun e2 => by have := (HE4'.out.want.lt g e2).2; omega, fun e2 => by have := (HE4'.out.out.lt g e2).2; omega⟩) (own_rr O7) K7 G7).swap; have HB7 : Hid (Below W.heap.size W w7) := (HB4.out.trans (HB6.out.mono HWG.out)).trans B7; clear O7 B7 S7 K7 G7))
        go_roundw
        case rel => exact ⟨k + 1, _, _, _, _, a4, q4, a7, q7, hk6, by go_num, by simp only [List.length_append, List.length_singleton], by simp only [List.length_append, List.length_singleton], HB7.out, HE7.out, EdS.more HS.out (by rw [ofN_len]; exact HFE.out.1) (by have := HE4'.out.fam.len; simpa using this)⟩
        case measure => simp [intOf]; omega
    · have hk6' : k = 6 := by omega
      have i0 : ¬ ((k : Int) < 6) := by omega
      have HS6 : EdS 6 ys xs zs ls := by have := HS.out; rw [hk6'] at this; exact this
      obtain ⟨hyl, hxl, hzl, -, -⟩ := id HS6
      obtain ⟨go, oc2, he, hoc, -, -⟩ := HE.out.out.head (by omega)
      obtain ⟨gw, wc2, he2, hwc, -, -⟩ := HE.out.want.head (by omega)
      obtain ⟨rfl, -, rfl⟩ := Value.slice.inj he
      obtain ⟨rfl, -, rfl⟩ := Value.slice.inj he2
      rw [hyl] at hoc
      rw [hxl] at hwc
      have HT : Hid (EdT W wr go oc gw wc ys xs zs) := ⟨ls, HB.out, by have := HE.out; rw [hyl, hxl] at this; exact this, HS6⟩
      rw [hyl, hxl]
      have HWB : Hid (∀ w2 : World, Below W.heap.size W w2 → Below w.heap.size w w2) := fun w2 h2 => (HALL.out w2 h2).1
      clear HB HE HS HS6 he he2 HALL HB0 hzl hyl hxl HXE HNT hk hk6 hk6'
      go_upto_region 19 with fail
      go_loopw [17] (fun tv wt => ∃ t : Nat, t ≤ 2 ∧ tv = .int .i64 t ∧ Hid (EdT W wt go oc gw wc ys xs zs)) (fun tv _ => 2 - (intOf tv).toNat)
      case atStart => exact ⟨0, by omega, by go_num, HT.out⟩
      case round =>
        clear HT
        obtain ⟨t2, ht, rfl, HT⟩ := hrel
        by_cases ht2 : t2 < 2
        · have i1 : (t2 : Int) < 2 := by omega
          go_upto_region 22 with fail
          go_loopw [18] (fun kv wk => ∃ k : Nat, k ≤ 6 ∧ kv = .int .i64 k ∧ Hid (EdT W wk go oc gw wc ys xs zs)) (fun kv _ => 6 - (intOf kv).toNat)
          case atStart => exact ⟨0, by omega, by go_num, HT.out⟩
          case round =>
            clear HT
            obtain ⟨k, hk, rfl, HT⟩ := hrel
            by_cases hk6 : k < 6
            · have i2 : (k : Int) < 6 := by omega
              have i3 : (0 : Int) ≤ (k : Int) := by omega
              have HTd : Hid (EdT W wr.drew go oc gw wc ys xs zs) := HT.out.below ((Below.refl _ _).drew)
              obtain ⟨vy, hvy⟩ : ∃ vy, vy = ys.getD k undef := ⟨_, rfl⟩
              obtain ⟨vx, hvx⟩ : ∃ vx, vx = xs.getD k undef := ⟨_, rfl⟩
              obtain ⟨l, z1, z2, z3⟩ := HTd.out.rows hk6
              have hc := HTd.out.cells hk6
              have HKS : Hid (∀ w2, EdT W w2 go oc gw wc ys xs zs → w2.cell? ⟨go, k, none⟩ = some vy ∧ w2.cell? ⟨gw, k, none⟩ = some vx) := fun w2 h2 => by rw [hvy, hvx]; exact h2.cells hk6
              rw [← hvy] at z1 hc
              rw [← hvx] at z2 hc
              clear hvy hvx
              have CS := same_rows z1 z2 (by omega)
              rw [decide_eq_true (rfl : l = l)] at CS
              have hS0 : (fun w' : World => w'.cell? ⟨go, k, none⟩ = some vy ∧ w'.cell? ⟨gw, k, none⟩ = some vx) wr.drew := hc
              clear z1 z2 hc
              go_upto_region 24 with fail
              refine wp_region_M (S := (fun w' : World => w'.cell? ⟨go, k, none⟩ = some vy ∧ w'.cell? ⟨gw, k, none⟩ = some vx)) (L := 9) (n := 10) (by kernel_rfl) rfl (by kernel_rfl) ?_
              refine wpAnyK_go (i := 0) (m' := 1) (some 89) (v := .slice (some ⟨go, 0, none⟩) 6 oc) rfl rfl (by kernel_rfl) (by kernel_rfl) (by kernel_rfl) (by kernel_rfl) (by kernel_rfl) (fun _ _ _ h => h) (Or.inl ⟨by rfl, ?_⟩) hS0 ?_
              · intro w' hSw
                go_simp
              simp only [Act.put, List.setIfInBounds_toArray, List.set_cons_zero, List.set_cons_succ]
              refine wpAnyK_go (i := 1) (m' := 3) (some 90) (v := .int .i64 (k : Int)) rfl rfl (by kernel_rfl) (by kernel_rfl) (by kernel_rfl) (by kernel_rfl) (by kernel_rfl) (fun _ _ _ h => h) (Or.inl ⟨by rfl, ?_⟩) hS0 ?_
              · intro w' hSw
                go_simp
              simp only [Act.put, List.setIfInBounds_toArray, List.set_cons_zero, List.set_cons_succ]
              refine wpAnyK_go (i := 2) (m' := 7) (some 91) (v := .pointer (some ⟨go, k, none⟩)) rfl rfl (by kernel_rfl) (by kernel_rfl) (by kernel_rfl) (by kernel_rfl) (by kernel_rfl) (fun _ _ _ h => h) (Or.inl ⟨by rfl, ?_⟩) hS0 ?_
              · intro w' hSw
                go_simp
              simp only [Act.put, List.setIfInBounds_toArray, List.set_cons_zero, List.set_cons_succ]
              refine wpAnyK_go (i := 3) (m' := 15) (some 92) (v := vy) rfl rfl (by kernel_rfl) (by kernel_rfl) (by kernel_rfl) (by kernel_rfl) (by kernel_rfl) (fun _ _ _ h => h) (Or.inl ⟨by rfl, ?_⟩) hS0 ?_
              · intro w' hSw
                obtain ⟨s1, s2⟩ := hSw
                go_simp
              simp only [Act.put, List.setIfInBounds_toArray, List.set_cons_zero, List.set_cons_succ]
              refine wpAnyK_go (i := 4) (m' := 31) (some 93) (v := .slice (some ⟨gw, 0, none⟩) 6 wc) rfl rfl (by kernel_rfl) (by kernel_rfl) (by kernel_rfl) (by kernel_rfl) (by kernel_rfl) (fun _ _ _ h => h) (Or.inl ⟨by rfl, ?_⟩) hS0 ?_
              · intro w' hSw
                go_simp
              simp only [Act.put, List.setIfInBounds_toArray, List.set_cons_zero, List.set_cons_succ]
              refine wpAnyK_go (i := 5) (m' := 63) (some 94) (v := .int .i64 (k : Int)) rfl rfl (by kernel_rfl) (by kernel_rfl) (by kernel_rfl) (by kernel_rfl) (by kernel_rfl) (fun _ _ _ h => h) (Or.inl ⟨by rfl, ?_⟩) hS0 ?_
              · intro w' hSw
                go_simp
              simp only [Act.put, List.setIfInBounds_toArray, List.set_cons_zero, List.set_cons_succ]
              refine wpAnyK_go (i := 6) (m' := 127) (some 95) (v := .pointer (some ⟨gw, k, none⟩)) rfl rfl (by kernel_rfl) (by kernel_rfl) (by kernel_rfl) (by kernel_rfl) (by kernel_rfl) (fun _ _ _ h => h) (Or.inl ⟨by rfl, ?_⟩) hS0 ?_
              · intro w' hSw
                go_simp
              simp only [Act.put, List.setIfInBounds_toArray, List.set_cons_zero, List.set_cons_succ]
              refine wpAnyK_go (i := 7) (m' := 255) (some 96) (v := vx) rfl rfl (by kernel_rfl) (by kernel_rfl) (by kernel_rfl) (by kernel_rfl) (by kernel_rfl) (fun _ _ _ h => h) (Or.inl ⟨by rfl, ?_⟩) hS0 ?_
              · intro w' hSw
                obtain ⟨s1, s2⟩ := hSw
                go_simp
              simp only [Act.put, List.setIfInBounds_toArray, List.set_cons_zero, List.set_cons_succ]
              refine wpAnyK_only (i := 8) (m' := 511) (by kernel_rfl) rfl (by kernel_rfl) fun K hK => ?_
              go_simp
              (with_reducible refine Calls.mono CS ?_)
              rintro e' w9 ⟨rfl, HB9⟩
              have HT9 : Hid (EdT W w9 go oc gw wc ys xs zs) := HTd.out.below HB9.out
              have hS9 := HKS.out w9 HT9.out
              go_simp
              refine hK.out _ _ (fun _ => hS9) ?_
              clear hK K CS hS0
              refine wpAnyK_only (i := 9) (m' := 1023) (by kernel_rfl) rfl (by kernel_rfl) fun K hK => ?_
              go_simp
              refine hK.out _ _ (fun _ => hS9) ?_
              clear hK K hS9 HKS HTd HT HB9
              refine wpAnyK_done (by kernel_rfl) ?_ _
              go_wp2
              go_roundw
              case rel => exact ⟨k + 1, hk6, by go_num, HT9.out⟩
              case measure => simp [intOf]; omega
            · have i0 : ¬ ((k : Int) < 6) := by omega
              clear hk hk6
              go_upto_region 28 with fail
              go_loopw [20] (fun kv wk => ∃ k : Nat, k ≤ 6 ∧ kv = .int .i64 k ∧ Hid (EdT W wk go oc gw wc ys xs zs)) (fun kv _ => 6 - (intOf kv).toNat)
              case atStart => exact ⟨0, by omega, by go_num, HT.out⟩
              case round =>
                clear HT
                obtain ⟨k, hk, rfl, HT⟩ := hrel
                by_cases hk6 : k < 6
                · have i2 : (k : Int) < 6 := by omega
                  have i3 : (0 : Int) ≤ (k : Int) := by omega
                  obtain ⟨ay, cy, ax, cx, n, ey, ex, hn40, hpos⟩ := HT.out.form hk6
                  have HF : Hid (ys.getD k undef = .slice ay n cy ∧ xs.getD k undef = .slice ax n cx) := ⟨ey, ex⟩
                  have HPOS : Hid (0 < n → ∃ g1 g2, ay = some ⟨g1, 0, none⟩ ∧ ax = some ⟨g2, 0, none⟩ ∧ n ≤ cy ∧ n ≤ cx) := hpos
                  clear ey ex hpos
                  go_upto_region 31 with fail
                  go_loopw [21] (fun iv wk => ∃ i : Nat, i ≤ n ∧ iv = .int .i64 i ∧ Hid (EdT W wk go oc gw wc ys xs zs)) (fun iv _ => n - (intOf iv).toNat)
                  case atStart => exact ⟨0, by omega, by go_num, HT.out⟩
                  case round =>
                    clear HT
                    obtain ⟨i, hi, rfl, HT⟩ := hrel
                    have c1 : wr.cell? ⟨go, k, none⟩ = some (.slice ay n cy) := by rw [← HF.out.1]; exact (HT.out.cells hk6).1
                    by_cases hin : i < n
                    · obtain ⟨g1, g2, rfl, rfl, hcy, hcx⟩ := HPOS.out (by omega)
                      have i4 : (i : Int) < (n : Int) := by omega
                      have i5 : (0 : Int) ≤ (i : Int) := by omega
                      obtain ⟨⟨z1, q1⟩, q2, q3, ⟨z2, q4⟩, q5, q6⟩ := HT.out.put hk6 HF.out.1 HF.out.2 hin (-10 - (k : Int))
                      rw [HF.out.2] at q3
                      have HT2 : Hid (EdT W ((wr.setCell ⟨g1, i, none⟩ (.int .i64 (-10 - (k : Int)))).setCell ⟨g2, i, none⟩ (.int .i64 (-10 - (k : Int)))) go oc gw wc ys xs zs) := q6
                      have i6 : (-10 : Int) - (k : Int) = -10 - (k : Int) := rfl
                      clear q6 HT
                      go_upto_region 34 with fail
                      go_wp2
                      go_roundw
                      case rel => exact ⟨i + 1, hin, by go_num, HT2.out⟩
                      case measure => simp [intOf]; omega
                    · obtain rfl : i = n := by omega
                      have i4 : ¬ ((i : Int) < (i : Int)) := by omega
                      go_wp2
                      go_roundw
                      case rel => exact ⟨k + 1, hk6, by go_num, HT.out⟩
                      case measure => simp [intOf]; omega
                · have i0 : ¬ ((k : Int) < 6) := by omega
                  clear hk hk6
                  go_wp2
                  go_roundw
                  case rel => exact ⟨t2 + 1, ht2, by go_num, HT.out⟩
                  case measure => simp [intOf]; omega
        · have i0 : ¬ ((t2 : Int) < 2) := by omega
          clear ht ht2
          have HN : Hid (EdN 0 W wr go oc gw wc) := HT.out.marks
          clear HT
          go_upto_region 36 with fail
          go_loopw [22] (fun kv wk => ∃ k : Nat, k ≤ 6 ∧ kv = .int .i64 k ∧ Hid (EdN k W wk go oc gw wc)) (fun kv _ => 6 - (intOf kv).toNat)
          case atStart => exact ⟨0, by omega, by go_num, HN.out⟩
          case round =>
            clear HN
            obtain ⟨k, hk, rfl, HN⟩ := hrel
            by_cases hk6 : k < 6
            · have i2 : (k : Int) < 6 := by omega
              have i3 : (0 : Int) ≤ (k : Int) := by omega
              obtain ⟨a, c, L, c1, hI, hL, hWs, hgo⟩ := HN.out.at hk6
              have HI : Hid (Ir W.heap.size wr (.slice a L.length c) L) := hI
              clear hI
              go_upto_region 39 with (at_builtin; refine ir_append (m := [-100 - (k : Int), -100 - (k : Int)]) rfl _ _ rfl rfl (HI.out.keep (w' := wr.alloc (.cells #[.int .i64 (-100 - (k : Int)), .int .i64 (-100 - (k : Int))] 3)) fun g hg => Below.heap_alloc _ _ _ (by have := (HI.out.lt g hg).2; omega)) rfl (two_zts (new_blk _ _)) (by simp only [List.length_cons, List.length_nil]; omega) (by rw [World.size_alloc]; omega) ?_; intro x10 v10 I10 B10 S10 K10 R10)
              obtain ⟨f1, ⟨z1, f2⟩, hn2⟩ := hgo (wr.alloc (.cells #[.int .i64 (-100 - (k : Int)), .int .i64 (-100 - (k : Int))] 3)) ((Below.refl _ _).alloc (Nat.le_refl _) _) _ _ I10 B10 K10 R10
              obtain ⟨a2, c2, rfl, -⟩ := ir_form I10
              have eL : (L ++ [-100 - (k : Int), -100 - (k : Int)]).length = L.length + 2 := by simp
              rw [eL] at hn2 ⊢
              have HN2 : Hid (EdN (k + 1) W (v10.setCell ⟨go, k, none⟩ (.slice a2 (L.length + 2) c2)) go oc gw wc) := hn2
              clear eL hn2 I10 B10 S10 K10 R10 hgo HI c1 HN
              go_wp2
              go_roundw
              case rel => exact ⟨k + 1, hk6, by go_num, HN2.out⟩
              case measure => simp [intOf]; omega
            · have i0 : ¬ ((k : Int) < 6) := by omega
              have hk6' : k = 6 := by omega
              have HN6 : Hid (EdN 6 W wr go oc gw wc) := by have := HN.out; rw [hk6'] at this; exact this
              clear hk hk6 hk6' HN
              go_upto_region 41 with fail
              go_loopw [24] (fun kv wk => ∃ k : Nat, k ≤ 6 ∧ kv = .int .i64 k ∧ Hid (EdN 6 W wk go oc gw wc)) (fun kv _ => 6 - (intOf kv).toNat)
              case atStart => exact ⟨0, by omega, by go_num, HN6.out⟩
              case round =>
                clear HN6
                obtain ⟨k, hk, rfl, HN⟩ := hrel
                by_cases hk6 : k < 6
                · have i2 : (k : Int) < 6 := by omega
                  have i3 : (0 : Int) ≤ (k : Int) := by omega
                  have HNd : Hid (EdN 6 W wr.drew go oc gw wc) := HN.out.below ((Below.refl _ _).drew)
                  obtain ⟨g, c, vx, l, hlc, h40, z1, z2, hks⟩ := HNd.out.last hk6
                  have HKS : Hid (∀ w2, Below wr.drew.heap.size wr.drew w2 → w2.cell? ⟨go, k, none⟩ = some (.slice (some ⟨g, 0, none⟩) (l.length + 2) c) ∧ w2.cell? ⟨gw, k, none⟩ = some vx ∧ w2.cell? ⟨g, l.length, none⟩ = some (.int .i64 (-100 - (k : Int))) ∧ w2.cell? ⟨g, l.length + 1, none⟩ = some (.int .i64 (-100 - (k : Int)))) := hks
                  have CS := same_rows z1 z2 (by omega)
                  rw [decide_eq_true (rfl : l = l)] at CS
                  have hS0 : (fun w' : World => w'.cell? ⟨go, k, none⟩ = some (.slice (some ⟨g, 0, none⟩) (l.length + 2) c) ∧ w'.cell? ⟨gw, k, none⟩ = some vx) wr.drew := ⟨(hks _ (Below.refl _ _)).1, (hks _ (Below.refl _ _)).2.1⟩
                  have c1 : wr.cell? ⟨go, k, none⟩ = some (.slice (some ⟨g, 0, none⟩) (l.length + 2) c) := (hks _ (Below.refl _ _)).1
                  clear z1 z2 hks HN
                  generalize hgl : l.length = n at *
                  clear hgl
                  have j1 : (n : Int) ≤ (c : Int) := by omega
                  have j2 : (n : Int) ≤ ((n + 2 : Nat) : Int) := by omega
                  have j3 : (0 : Int) ≤ (n : Int) := by omega
                  have j4 : (n : Int) < 1000 := by omega
                  go_upto_region 44 with fail
                  refine wp_region_M (S := (fun w' : World => w'.cell? ⟨go, k, none⟩ = some (.slice (some ⟨g, 0, none⟩) (n + 2) c) ∧ w'.cell? ⟨gw, k, none⟩ = some vx)) (L := 11) (n := 12) (by kernel_rfl) rfl (by kernel_rfl) ?_
                  refine wpAnyK_go (i := 0) (m' := 1) (some 163) (v := .slice (some ⟨go, 0, none⟩) 6 oc) rfl rfl (by kernel_rfl) (by kernel_rfl) (by kernel_rfl) (by kernel_rfl) (by kernel_rfl) (fun _ _ _ h => h) (Or.inl ⟨by rfl, ?_⟩) hS0 ?_
                  · intro w' hSw
                    go_simp
                  simp only [Act.put, List.setIfInBounds_toArray, List.set_cons_zero, List.set_cons_succ]
                  refine wpAnyK_go (i := 1) (m' := 3) (some 164) (v := .int .i64 (k : Int)) rfl rfl (by kernel_rfl) (by kernel_rfl) (by kernel_rfl) (by kernel_rfl) (by kernel_rfl) (fun _ _ _ h => h) (Or.inl ⟨by rfl, ?_⟩) hS0 ?_
                  · intro w' hSw
                    go_simp
                  simp only [Act.put, List.setIfInBounds_toArray, List.set_cons_zero, List.set_cons_succ]
                  refine wpAnyK_go (i := 2) (m' := 7) (some 165) (v := .pointer (some ⟨go, k, none⟩)) rfl rfl (by kernel_rfl) (by kernel_rfl) (by kernel_rfl) (by kernel_rfl) (by kernel_rfl) (fun _ _ _ h => h) (Or.inl ⟨by rfl, ?_⟩) hS0 ?_
                  · intro w' hSw
                    go_simp
                  simp only [Act.put, List.setIfInBounds_toArray, List.set_cons_zero, List.set_cons_succ]
                  refine wpAnyK_go (i := 3) (m' := 15) (some 166) (v := .slice (some ⟨g, 0, none⟩) (n + 2) c) rfl rfl (by kernel_rfl) (by kernel_rfl) (by kernel_rfl) (by kernel_rfl) (by kernel_rfl) (fun _ _ _ h => h) (Or.inl ⟨by rfl, ?_⟩) hS0 ?_
                  · intro w' hSw
                    obtain ⟨s1, s2⟩ := hSw
                    go_simp
                  simp only [Act.put, List.setIfInBounds_toArray, List.set_cons_zero, List.set_cons_succ]
                  refine wpAnyK_go (i := 4) (m' := 31) (some 167) (v := .int .i64 (n : Int)) rfl rfl (by kernel_rfl) (by kernel_rfl) (by kernel_rfl) (by kernel_rfl) (by kernel_rfl) (fun _ _ _ h => h) (Or.inl ⟨by rfl, ?_⟩) hS0 ?_
                  · intro w' hSw
                    go_simp
                  simp only [Act.put, List.setIfInBounds_toArray, List.set_cons_zero, List.set_cons_succ]
                  refine wpAnyK_go (i := 5) (m' := 63) (some 168) (v := .slice (some ⟨g, 0, none⟩) n c) rfl rfl (by kernel_rfl) (by kernel_rfl) (by kernel_rfl) (by kernel_rfl) (by kernel_rfl) (fun _ _ _ h => h) (Or.inl ⟨by rfl, ?_⟩) hS0 ?_
                  · intro w' hSw
                    go_simp
                  simp only [Act.put, List.setIfInBounds_toArray, List.set_cons_zero, List.set_cons_succ]
                  refine wpAnyK_go (i := 6) (m' := 127) (some 169) (v := .slice (some ⟨gw, 0, none⟩) 6 wc) rfl rfl (by kernel_rfl) (by kernel_rfl) (by kernel_rfl) (by kernel_rfl) (by kernel_rfl) (fun _ _ _ h => h) (Or.inl ⟨by rfl, ?_⟩) hS0 ?_
                  · intro w' hSw
                    go_simp
                  simp only [Act.put, List.setIfInBounds_toArray, List.set_cons_zero, List.set_cons_succ]
                  refine wpAnyK_go (i := 7) (m' := 255) (some 170) (v := .int .i64 (k : Int)) rfl rfl (by kernel_rfl) (by kernel_rfl) (by kernel_rfl) (by kernel_rfl) (by kernel_rfl) (fun _ _ _ h => h) (Or.inl ⟨by rfl, ?_⟩) hS0 ?_
                  · intro w' hSw
                    go_simp
                  simp only [Act.put, List.setIfInBounds_toArray, List.set_cons_zero, List.set_cons_succ]
                  refine wpAnyK_go (i := 8) (m' := 511) (some 171) (v := .pointer (some ⟨gw, k, none⟩)) rfl rfl (by kernel_rfl) (by kernel_rfl) (by kernel_rfl) (by kernel_rfl) (by kernel_rfl) (fun _ _ _ h => h) (Or.inl ⟨by rfl, ?_⟩) hS0 ?_
                  · intro w' hSw
                    go_simp
                  simp only [Act.put, List.setIfInBounds_toArray, List.set_cons_zero, List.set_cons_succ]
                  refine wpAnyK_go (i := 9) (m' := 1023) (some 172) (v := vx) rfl rfl (by kernel_rfl) (by kernel_rfl) (by kernel_rfl) (by kernel_rfl) (by kernel_rfl) (fun _ _ _ h => h) (Or.inl ⟨by rfl, ?_⟩) hS0 ?_
                  · intro w' hSw
                    obtain ⟨s1, s2⟩ := hSw
                    go_simp
                  simp only [Act.put, List.setIfInBounds_toArray, List.set_cons_zero, List.set_cons_succ]
                  refine wpAnyK_only (i := 10) (m' := 2047) (by kernel_rfl) rfl (by kernel_rfl) fun K hK => ?_
                  go_simp
                  (with_reducible refine Calls.mono CS ?_)
                  rintro e' w9 ⟨rfl, HB9⟩
                  have HN9 : Hid (EdN 6 W w9 go oc gw wc) := HNd.out.below HB9.out
                  obtain ⟨s1, s2, s3, s4⟩ := HKS.out w9 HB9.out
                  have hS9 : (fun w' : World => w'.cell? ⟨go, k, none⟩ = some (.slice (some ⟨g, 0, none⟩) (n + 2) c) ∧ w'.cell? ⟨gw, k, none⟩ = some vx) w9 := ⟨s1, s2⟩
                  go_simp
                  refine hK.out _ _ (fun _ => hS9) ?_
                  clear hK K CS hS0
                  refine wpAnyK_only (i := 11) (m' := 4095) (by kernel_rfl) rfl (by kernel_rfl) fun K hK => ?_
                  go_simp
                  refine hK.out _ _ (fun _ => hS9) ?_
                  clear hK K hS9 HKS HNd HB9
                  refine wpAnyK_done (by kernel_rfl) ?_ _
                  go_wp2
                  go_roundw
                  case rel => exact ⟨k + 1, hk6, by go_num, HN9.out⟩
                  case measure => simp [intOf]; omega
                · have i0 : ¬ ((k : Int) < 6) := by omega
                  obtain ⟨_, _, _, _, hb, _⟩ := HN.out
                  have HE : Hid (Below w.heap.size w wr) := HWB.out wr hb
                  clear hb hk hk6 HN
                  go_wp2
                  go_ret
                  exact ⟨rfl, HE.out⟩
end Go.Proofs.YtgdflaapgfpdeaaGreatDoor
