/- Renaming of variables: the plain side; rows of bounds; rows of types apart from a row that grows. named at a variable. named at any type. named at any type: its contract. The reference's Canon: its contract. -/
import Derived.Test.YtgdflaapgfpdeaaGreatDoorMmx
import Derived.Test.YtgdflaapgfpdeaaGreatDoorMnx
namespace Go.Proofs.YtgdflaapgfpdeaaGreatDoor
open Go.RowKit

abbrev Nms := List (List UInt8)
/-- Arguments renamed one behind another. -/
def namedArgs {d : Nat} (f : Nms → Tn d → Nms × Tn d) : Nms → List (Tn d) → Nms × List (Tn d)
  | ns, [] => (ns, [])
  | ns, t :: ts => ((namedArgs f (f ns t).1 ts).1, (f ns t).2 :: (namedArgs f (f ns t).1 ts).2)
/-- A type whose variables are renamed; the names met so far, in their order. -/
def namedT : (d : Nat) → Nms → Tn d → Nms × Tn d
  | 0, ns, t => (ns, t)
  | d + 1, ns, ((k, n), ts) => if k = 2 then (if idxN ns n < ns.length then (ns, ((2, letB (idxN ns n)), [])) else (ns ++ [n], ((2, letB ns.length), []))) else ((namedArgs (namedT d) ns ts).1, ((k, n), (namedArgs (namedT d) ns ts).2))
theorem namedArgs_snoc {d : Nat} (f : Nms → Tn d → Nms × Tn d) (ts : List (Tn d)) (t : Tn d) : ∀ ns, namedArgs f ns (ts ++ [t]) = ((f (namedArgs f ns ts).1 t).1, (namedArgs f ns ts).2 ++ [(f (namedArgs f ns ts).1 t).2]) := by
  induction ts with
  | nil => intro ns; rfl
  | cons a r ih => intro ns; rw [List.cons_append, namedArgs, ih]; rfl
theorem namedArgs_len {d : Nat} (f : Nms → Tn d → Nms × Tn d) (hf : ∀ ns t, (f ns t).1.length ≤ ns.length + (flat d t).length) : ∀ (ts : List (Tn d)) ns, (namedArgs f ns ts).1.length ≤ ns.length + (flats d ts).length
  | [], ns => by simp [namedArgs]
  | t :: ts, ns => by
    rw [namedArgs, flats_cons, List.length_append]
    have h1 := namedArgs_len f hf ts (f ns t).1
    have h2 := hf ns t
    show (namedArgs f (f ns t).1 ts).1.length ≤ _
    omega
theorem namedArgs_two {d : Nat} (f : Nms → Tn d → Nms × Tn d) : ∀ (ts : List (Tn d)) ns, (namedArgs f ns ts).2.length = ts.length
  | [], _ => rfl
  | t :: ts, ns => by
    rw [namedArgs, List.length_cons]
    show ((f ns t).2 :: (namedArgs f (f ns t).1 ts).2).length = _
    rw [List.length_cons, namedArgs_two f ts, List.length_cons]
theorem namedT_len : ∀ (d : Nat) (ns : Nms) (t : Tn d), (namedT d ns t).1.length ≤ ns.length + (flat d t).length
  | 0, _, t => t.elim
  | d + 1, ns, ((k, n), ts) => by
    rw [namedT, flat_succ]
    split
    · split
      · show ns.length ≤ _; omega
      · show (ns ++ [n]).length ≤ _; simp
    · have := namedArgs_len (namedT d) (namedT_len d) ts ns
      show (namedArgs (namedT d) ns ts).1.length ≤ _
      simp
      omega
/-- The cells of a row of bounds: each name stands for the variable of its place. -/
def bdCells : Nat → Nms → List Value
  | _, [] => []
  | k, n :: r => .string ⟨n.toArray⟩ :: .int .i64 2 :: .string ⟨(letB k).toArray⟩ :: .slice none 0 0 :: bdCells (k + 1) r
theorem bdCells_len : ∀ (ns : Nms) k, (bdCells k ns).length = ns.length * 4
  | [], _ => rfl
  | n :: r, k => by rw [bdCells]; simp [bdCells_len r]; omega
theorem bdCells_snoc (n : List UInt8) : ∀ (ns : Nms) k, bdCells k (ns ++ [n]) = bdCells k ns ++ [.string ⟨n.toArray⟩, .int .i64 2, .string ⟨(letB (k + ns.length)).toArray⟩, .slice none 0 0]
  | [], k => rfl
  | a :: r, k => by
    rw [List.cons_append, bdCells, bdCells_snoc n r, bdCells, List.length_cons, show k + 1 + r.length = k + (r.length + 1) by omega]
    rfl
theorem bdCells_get : ∀ (ns : Nms) (k j : Nat) (h : j < ns.length), (bdCells k ns)[j * 4]? = some (.string ⟨ns[j].toArray⟩) ∧ (bdCells k ns)[j * 4 + 1]? = some (.int .i64 2) ∧ (bdCells k ns)[j * 4 + 2]? = some (.string ⟨(letB (k + j)).toArray⟩) ∧ (bdCells k ns)[j * 4 + 3]? = some (.slice none 0 0)
  | [], _, _, h => by simp at h
  | n :: r, k, 0, _ => ⟨rfl, rfl, rfl, rfl⟩
  | n :: r, k, j + 1, h => by
    have ih := bdCells_get r (k + 1) j (by simpa using h)
    rw [show k + 1 + j = k + (j + 1) by omega] at ih
    rw [bdCells, show (j + 1) * 4 = j * 4 + 1 + 1 + 1 + 1 by omega]
    refine ⟨?_, ?_, ?_, ?_⟩
    · simpa using ih.1
    · have := ih.2.1
      rw [show j * 4 + 1 + 1 + 1 + 1 + 1 = (j * 4 + 1) + 1 + 1 + 1 + 1 by omega]
      simpa only [List.getElem?_cons_succ] using this
    · have := ih.2.2.1
      rw [show j * 4 + 1 + 1 + 1 + 1 + 2 = (j * 4 + 2) + 1 + 1 + 1 + 1 by omega]
      simpa only [List.getElem?_cons_succ] using this
    · have := ih.2.2.2
      rw [show j * 4 + 1 + 1 + 1 + 1 + 3 = (j * 4 + 3) + 1 + 1 + 1 + 1 by omega]
      simpa only [List.getElem?_cons_succ] using this
theorem add_zero_addr (g i : Nat) : (⟨g, 0, none⟩ : Addr).add i = ⟨g, i, none⟩ := by
  unfold Addr.add
  split
  · rename_i h0; rw [h0]
  · simp
/-- An owned row of bounds: its cells. -/
theorem bd_cells {w : World} {lo : Nat} {v : Value} {ns : Nms} (h : w.ownsRow lo 159 4 v ns.length (bdCells 0 ns)) (h0 : 0 < ns.length) : ∃ g cap, v = .slice (some ⟨g, 0, none⟩) ns.length cap ∧ lo ≤ g ∧ g < w.heap.size ∧ ns.length ≤ cap ∧ ∀ j (hj : j < ns.length), w.cell? ⟨g, j * 4, none⟩ = some (.string ⟨ns[j].toArray⟩) ∧ w.cell? ⟨g, j * 4 + 1, none⟩ = some (.int .i64 2) ∧ w.cell? ⟨g, j * 4 + 2, none⟩ = some (.string ⟨(letB j).toArray⟩) ∧ w.cell? ⟨g, j * 4 + 3, none⟩ = some (.slice none 0 0) := by
  rcases id h.2 with ⟨_, h1⟩ | ⟨g, cap, cur, hv, hb, hh, hcap, _⟩
  · omega
  · refine ⟨g, cap, hv, hb, heap_lt hh, hcap, fun j hj => ?_⟩
    have hc : ∀ i u, (bdCells 0 ns)[i]? = some u → w.cell? ⟨g, i, none⟩ = some u := fun i u hu => by
      have := h.cells (g := g) (by rw [hv]; rfl) i u hu
      rw [add_zero_addr] at this
      exact this
    have hq := bdCells_get ns 0 j hj
    rw [Nat.zero_add] at hq
    exact ⟨hc _ _ hq.1, hc _ _ hq.2.1, hc _ _ hq.2.2.1, hc _ _ hq.2.2.2⟩
/-- A row that is made one by one, in blocks such as A says. -/
structure RowQ (w : World) (A : Nat → Prop) (lo d : Nat) (u : Value) (es : List El) (ts : List (Tn d)) : Prop where
  own : w.ownsRow lo 24 3 u es.length (es.flatMap elCells)
  len : es.length = ts.length
  ap : ∀ g, u.ownBlock = some g → A g
  each : ∀ j (h : j < es.length) (h' : j < ts.length), TyS w (fun g => A g ∧ g < w.heap.size ∧ u.ownBlock ≠ some g) d (elV es[j]) ts[j]
theorem RowQ.nil (w : World) (A : Nat → Prop) (lo d : Nat) : RowQ w A lo d (.slice none 0 0) [] [] := ⟨World.ownsRow_nil _ _ _ _, rfl, fun g h => by simp [Value.ownBlock] at h, fun j h => by simp at h⟩
theorem RowQ.on {w w' : World} {A A' : Nat → Prop} {lo d : Nat} {u : Value} {es : List El} {ts : List (Tn d)} (h : RowQ w A lo d u es ts) (hs : w.heap.size ≤ w'.heap.size) (hA : ∀ g, A g → g < w.heap.size → A' g) (hb : ∀ g, A g → g < w.heap.size → w'.heap[g]? = w.heap[g]?) : RowQ w' A' lo d u es ts := by
  have hlt := h.own.lt
  refine ⟨?_, h.len, fun g hg => hA g (h.ap g hg) (hlt g hg).2, fun j hj hj' => TyS.on (fun g hg => ⟨hA g hg.1 hg.2.1, by omega, hg.2.2⟩) (fun g hg => hb g hg.1 hg.2.1) _ _ _ (h.each j hj hj')⟩
  obtain ⟨h1, h2⟩ := h.own
  refine ⟨h1, ?_⟩
  rcases h2 with h2 | ⟨g, cap, cur, hv, hg, hh, r⟩
  · exact .inl h2
  · refine .inr ⟨g, cap, cur, hv, hg, ?_, r⟩
    rw [hb g (h.ap g (by rw [hv]; rfl)) (heap_lt hh)]
    exact hh
/-- One more. -/
theorem RowQ.snoc {w w' : World} {A : Nat → Prop} {lo d : Nat} {v v' : Value} {es : List El} {ts : List (Tn d)} {e : El} {t : Tn d} {o : Obj} (h : RowQ w A lo d v es ts) (he : TyS w (fun g => A g ∧ g < w.heap.size ∧ v.ownBlock ≠ some g) d (elV e) t) (hA : ∀ g, w.heap.size ≤ g → A g)
    (hown : w'.ownsRow lo 24 3 v' (es.length + 1) (es.flatMap elCells ++ elCells e)) (hg : (w.alloc o).grownBy w' v.ownBlock) (hv : v'.ownBlock = v.ownBlock ∨ ∃ g, v'.ownBlock = some g ∧ w.heap.size ≤ g) : RowQ w' A lo d v' (es ++ [e]) (ts ++ [t]) := by
  have hsz : w.heap.size ≤ w'.heap.size := by have := hg.size; simp at this; omega
  have move : ∀ (x : Value) (u : Tn d), TyS w (fun g => A g ∧ g < w.heap.size ∧ v.ownBlock ≠ some g) d x u → TyS w' (fun g => A g ∧ g < w'.heap.size ∧ v'.ownBlock ≠ some g) d x u := fun x u hu => by
    refine TyS.on (S := fun g => A g ∧ g < w.heap.size ∧ v.ownBlock ≠ some g) (fun g q => ⟨q.1, by omega, ?side⟩) (fun g q => ?keep) d x u hu
    case side =>
      rcases hv with hv | ⟨g', hv, hge⟩
      · rw [hv]; exact q.2.2
      · rw [hv]
        intro e0
        have := Option.some.inj e0
        have := q.2.1
        omega
    case keep =>
      rw [hg.block g (by have := q.2.1; simp; omega) (fun e0 => q.2.2 e0.symm)]
      exact Below.heap_alloc _ _ _ q.2.1
  refine ⟨by simpa using hown, by simp [h.len], fun g hg' => ?_, fun j hj hj' => ?_⟩
  · rcases hv with hv | ⟨g', hv, hge⟩
    · exact h.ap g (hv ▸ hg')
    · rw [hv] at hg'
      exact hA g (by rw [← Option.some.inj hg']; exact hge)
  by_cases hlt : j < es.length
  · have hlt' : j < ts.length := by have := h.len; omega
    rw [List.getElem_append_left hlt, List.getElem_append_left hlt']
    exact move _ _ (h.each j hlt hlt')
  · have h1 : j = es.length := by simp at hj; omega
    subst h1
    have hl := h.len
    rw [List.getElem_concat_length, List.getElem_append_right (by omega)]
    · simp only [hl, Nat.sub_self, List.getElem_cons_zero]
      exact move _ _ he
    · rfl
/-- The tree whose arguments are such a row. -/
theorem RowQ.tree {w : World} {A : Nat → Prop} {lo d : Nat} {v : Value} {es : List El} {ts : List (Tn d)} (h : RowQ w A lo d v es ts) (k : Int) (n : List UInt8) (hn : n.length < 140737488355328) (hl : ts.length < 140737488355328) :
    TyS w (fun g => A g ∧ g < w.heap.size) (d + 1) (.agg #[.int .i64 k, .string ⟨n.toArray⟩, v]) ((k, n), ts) := by
  refine ⟨v, rfl, hn, hl, ?_⟩
  rcases id h.own.2 with ⟨hv, h0⟩ | ⟨g, cap, cur, hv, hb, hh, hcap, _⟩
  · refine .inl ⟨List.length_eq_zero_iff.1 (by rw [← h.len, h0]), none, 0, hv⟩
  · by_cases h0 : es.length = 0
    · refine .inl ⟨List.length_eq_zero_iff.1 (by rw [← h.len, h0]), _, cap, by rw [hv, h0]⟩
    · refine .inr ⟨g, 0, cap, by rw [hv, h.len], ?_, by show ts.length ≤ cap; rw [← h.len]; exact hcap, ⟨h.ap g (by rw [hv]; rfl), heap_lt hh⟩, fun j hj => ?_⟩
      · intro e0
        have e0 : ts = [] := e0
        rw [h.len, e0] at h0
        exact h0 rfl
      · have hj : j < ts.length := hj
        have hj' : j < es.length := by rw [h.len]; exact hj
        have hc : ∀ i, i < 3 → ∀ u, (elCells es[j])[i]? = some u → w.cell? ⟨g, 0 + j * 3 + i, none⟩ = some u := by
          intro i hi u hu
          have := h.own.cells (g := g) (by rw [hv]; rfl) (j * 3 + i) u (by rw [elCells_get es j i hj' hi]; exact hu)
          rw [Nat.zero_add]
          rw [add_zero_addr] at this
          exact this
        exact ⟨es[j].1, es[j].2.1, es[j].2.2, hc 0 (by omega) _ rfl, hc 1 (by omega) _ rfl, hc 2 (by omega) _ rfl, TyS.on (fun g q => ⟨q.1, q.2.1⟩) (fun _ _ => rfl) d _ _ (h.each j hj' hj)⟩
theorem Tryz.info159 : (Tryz.prog.info? 159).map (fun i => (i.zero, i.size, i.bytes)) = some (some (.agg #[.string ⟨#[]⟩, .int .i64 0, .string ⟨#[]⟩, .slice none 0 0]), 4, 64) := by kernel_rfl
end Go.Proofs.YtgdflaapgfpdeaaGreatDoor

namespace Go.Proofs.YtgdflaapgfpdeaaGreatDoor
open Go.RowKit

/-- What named leaves: the row of bounds grown, and the renamed type in new blocks. -/
def NmPost (w : World) (lo : Nat) (v : Value) (d : Nat) (R : Nms × Tn d) (r : Ending) (w' : World) : Prop :=
  ∃ (ad : Option Addr) (cap : Nat) (kd : Int) (nm : ByteArray) (ad1 : Option Addr) (len1 cap1 : Nat), r = .returned (.tuple #[.slice ad R.1.length cap, .agg #[.int .i64 kd, .string nm, .slice ad1 len1 cap1]]) ∧
    w'.ownsRow lo 159 4 (.slice ad R.1.length cap) R.1.length (bdCells 0 R.1) ∧ w.grownBy w' v.ownBlock ∧ ((Value.slice ad R.1.length cap).ownBlock = v.ownBlock ∨ ∃ g, (Value.slice ad R.1.length cap).ownBlock = some g ∧ w.heap.size ≤ g) ∧
    TyS w' (fun g => w.heap.size ≤ g ∧ g < w'.heap.size ∧ (Value.slice ad R.1.length cap).ownBlock ≠ some g) d (.agg #[.int .i64 kd, .string nm, .slice ad1 len1 cap1]) R.2
theorem let_len (n : Nat) : (letB n).length ≤ 3 := by
  unfold letB digB
  split
  · simp
  · split <;> simp
theorem below_grown {w w' : World} (h : Below w.heap.size w w') (row : Option Nat) : w.grownBy w' row := ⟨h.os, h.tape, h.output, h.size, fun k hk _ => h.block k hk⟩
theorem grownBy_drew' {w w' : World} {row : Option Nat} (h : w.grownBy w' row) : w.grownBy w'.drew row := ⟨h.os, h.tape, h.output, h.size, h.block⟩
theorem own_move {w w' : World} {lo e size n : Nat} {v : Value} {xs : List Value} (h : w.ownsRow lo e size v n xs) (hb : ∀ k, v.ownBlock = some k → w'.heap[k]? = w.heap[k]?) : w'.ownsRow lo e size v n xs := by
  obtain ⟨h1, h2⟩ := h
  refine ⟨h1, ?_⟩
  rcases h2 with h2 | ⟨g, cap, cur, hv, hg, hh, r⟩
  · exact .inl h2
  · refine .inr ⟨g, cap, cur, hv, hg, ?_, r⟩
    rw [hb g (by rw [hv]; rfl)]
    exact hh
end Go.Proofs.YtgdflaapgfpdeaaGreatDoor

namespace Go.Proofs.YtgdflaapgfpdeaaGreatDoor
open Go.RowKit

theorem take_next {α : Type} : ∀ (l : List α) (j : Nat) (h : j < l.length), l.take (j + 1) = l.take j ++ [l[j]]
  | [], _, h => by simp at h
  | a :: r, 0, _ => by simp
  | a :: r, j + 1, h => by
    have hj : j < r.length := by simpa using h
    rw [List.take_succ_cons, take_next r j hj]
    rfl
/-- The names and the arguments behind the first j arguments. -/
abbrev nsA (d : Nat) (ns0 : Nms) (ts : List (Tn d)) (j : Nat) : Nms := (namedArgs (namedT d) ns0 (ts.take j)).1
abbrev tsA (d : Nat) (ns0 : Nms) (ts : List (Tn d)) (j : Nat) : List (Tn d) := (namedArgs (namedT d) ns0 (ts.take j)).2
/-- Between the rounds of named. -/
structure NmW (w wr : World) (z lo d : Nat) (k : Int) (n : List UInt8) (row0 : Option Nat) (av : Value) (ns0 : Nms) (ts : List (Tn d)) (j : Nat) (v u : Value) (es : List El) : Prop where
  gr : w.grownBy wr row0
  arg : wr.heap[z]? = some (.cells #[.int .i64 k, .string ⟨n.toArray⟩, av] 24 (0, 0))
  res : wr.heap[z + 1]? = some (.cells #[.int .i64 0, .string ⟨#[]⟩, .slice none 0 0] 24 (0, 0))
  box : wr.heap[z + 2]? = some (.cells #[.int .i64 k, .string ⟨n.toArray⟩, u] 24 (0, 0))
  own : wr.ownsRow lo 159 4 v (nsA d ns0 ts j).length (bdCells 0 (nsA d ns0 ts j))
  vb : v.ownBlock = row0 ∨ ∃ g, v.ownBlock = some g ∧ z + 3 ≤ g
  row : RowQ wr (fun g => z + 3 ≤ g ∧ v.ownBlock ≠ some g) (z + 3) d u es (tsA d ns0 ts j)
/-- One argument more was renamed, and laid behind the others. -/
theorem NmW.more {w wr w1 U w5 : World} {z lo d : Nat} {k : Int} {n : List UInt8} {row0 : Option Nat} {av : Value} {ns0 : Nms} {ts : List (Tn d)} {j : Nat} {v u v1 : Value} {es : List El} (T : NmW w wr z lo d k n row0 av ns0 ts j v u es) (hz : w.heap.size = z) (h0 : ∀ g, row0 = some g → g < z) (hj : j < ts.length) {kd : Int} {nm : ByteArray} {ad : Option Addr} {len cap : Nat} {ns1 : Nms} {t1 : Tn d}
    (hR : namedT d (nsA d ns0 ts j) ts[j] = (ns1, t1)) (hown : w1.ownsRow lo 159 4 v1 ns1.length (bdCells 0 ns1)) (hgr : wr.grownBy w1 v.ownBlock) (hvb : v1.ownBlock = v.ownBlock ∨ ∃ g, v1.ownBlock = some g ∧ wr.heap.size ≤ g)
    (hT : TyS w1 (fun g => wr.heap.size ≤ g ∧ g < w1.heap.size ∧ v1.ownBlock ≠ some g) d (.agg #[.int .i64 kd, .string nm, .slice ad len cap]) t1) {o o' : Obj} (hU : U = w1.alloc o) {g cap' : Nat}
    (hown1 : w5.ownsRow (z + 3) 24 3 (.slice (some ⟨g, 0, none⟩) (es.length + 1) cap') (es.length + 1) (es.flatMap elCells ++ [.int .i64 kd, .string nm, .slice ad len cap])) (hg : (U.alloc o').grownBy w5 u.ownBlock) (hat : u.ownBlock = some g ∨ g = U.heap.size + 1) :
    NmW w (w5.setCell ⟨z + 2, 2, none⟩ (.slice (some ⟨g, 0, none⟩) (es.length + 1) cap')) z lo d k n row0 av ns0 ts (j + 1) v1 (.slice (some ⟨g, 0, none⟩) (es.length + 1) cap') (es ++ [(kd, nm, .slice ad len cap)]) := by
  have hz2 := heap_lt T.box
  have hlt := T.own.lt
  have hlt1 := hown.lt
  have hult := T.row.own.lt
  have hU1 : U.heap.size = w1.heap.size + 1 := by rw [hU]; simp
  have hsz1 := hgr.size
  have hUb : ∀ b, b < w1.heap.size → U.heap[b]? = w1.heap[b]? := fun b hb => by rw [hU]; exact Below.heap_alloc _ _ _ hb
  have hs5 : U.heap.size + 1 ≤ w5.heap.size := by have := hg.size; simp at this; omega
  have hv1 : ∀ b, z ≤ b → b < z + 3 → v1.ownBlock ≠ some b := fun b h1 h2 e => by
    rcases hvb with h | ⟨g', h, h'⟩
    · rw [h] at e
      rcases T.vb with q | ⟨g', q, q'⟩
      · have := h0 b (q ▸ e); omega
      · rw [q] at e; have := Option.some.inj e; omega
    · rw [h] at e; have := Option.some.inj e; omega
  have hv : ∀ b, z ≤ b → b < z + 3 → v.ownBlock ≠ some b := fun b h1 h2 e => by
    rcases T.vb with q | ⟨g', q, q'⟩
    · have := h0 b (q ▸ e); omega
    · rw [q] at e; have := Option.some.inj e; omega
  have row1 : RowQ w1 (fun g => z + 3 ≤ g ∧ v1.ownBlock ≠ some g) (z + 3) d u es (tsA d ns0 ts j) := T.row.on hsz1 (fun b hb hl => ⟨hb.1, fun e => by
      rcases hvb with h | ⟨g', h, h'⟩
      · exact hb.2 (h ▸ e)
      · rw [h] at e; have := Option.some.inj e; omega⟩) fun b hb hl => hgr.block b hl fun e => hb.2 e.symm
  have rowU : RowQ U (fun g => z + 3 ≤ g ∧ v1.ownBlock ≠ some g) (z + 3) d u es (tsA d ns0 ts j) := row1.on (by omega) (fun b hb _ => hb) fun b _ hl => hUb b hl
  have heU : TyS U (fun g => (z + 3 ≤ g ∧ v1.ownBlock ≠ some g) ∧ g < U.heap.size ∧ u.ownBlock ≠ some g) d (elV (kd, nm, .slice ad len cap)) t1 := by
    refine TyS.on (S := fun g => wr.heap.size ≤ g ∧ g < w1.heap.size ∧ v1.ownBlock ≠ some g) (fun b q => ⟨⟨by omega, q.2.2⟩, by omega, ?side⟩) (fun b q => hUb b q.2.1) d _ t1 hT
    intro e
    have := (hult b e).2
    omega
  have row5 := rowU.snoc (e := (kd, nm, .slice ad len cap)) (t := t1) (o := o') heU (fun b hb => ⟨by omega, fun e => by have := (hlt1 b e).2; omega⟩) (v' := .slice (some ⟨g, 0, none⟩) (es.length + 1) cap') hown1 hg (by
    rcases hat with h | h
    · exact .inl h.symm
    · exact .inr ⟨g, rfl, by omega⟩)
  have h5 : ∀ b, b < w1.heap.size → u.ownBlock ≠ some b → w5.heap[b]? = w1.heap[b]? := fun b hb hne => by
    rw [hg.block b (by simp; omega) (fun e => hne e.symm), Below.heap_alloc _ _ _ (by omega)]
    exact hUb b hb
  have hu3 : ∀ b, b < z + 3 → u.ownBlock ≠ some b := fun b hb e => by have := (hult b e).1; omega
  have hset : ∀ b, b ≠ z + 2 → (w5.setCell ⟨z + 2, 2, none⟩ (.slice (some ⟨g, 0, none⟩) (es.length + 1) cap')).heap[b]? = w5.heap[b]? := fun b hb => Below.heap_setCell _ _ _ _ hb
  have low : ∀ b, z ≤ b → b < z + 3 → w5.heap[b]? = wr.heap[b]? := fun b h1 h2 => (h5 b (by omega) (hu3 b h2)).trans (hgr.block b (by omega) fun e => hv b h1 h2 e.symm)
  have hns : nsA d ns0 ts (j + 1) = ns1 := by
    show (namedArgs (namedT d) ns0 (ts.take (j + 1))).1 = _
    rw [take_next ts j hj, namedArgs_snoc]
    exact congrArg Prod.fst hR
  have hts : tsA d ns0 ts (j + 1) = tsA d ns0 ts j ++ [t1] := by
    show (namedArgs (namedT d) ns0 (ts.take (j + 1))).2 = _
    rw [take_next ts j hj, namedArgs_snoc]
    exact congrArg (fun q => tsA d ns0 ts j ++ [q]) (congrArg Prod.snd hR)
  refine ⟨⟨?_, ?_, ?_, ?_, fun b hb hne => ?_⟩, ?_, ?_, ?_, ?_, ?_, ?_⟩
  · show w5.os = _
    rw [hg.os, hU]; exact hgr.os.trans T.gr.os
  · show w5.tape = _
    rw [hg.tape, hU]; exact hgr.tape.trans T.gr.tape
  · show w5.output = _
    rw [hg.output, hU]; exact hgr.output.trans T.gr.output
  · have : (w5.setCell ⟨z + 2, 2, none⟩ (.slice (some ⟨g, 0, none⟩) (es.length + 1) cap')).heap.size = w5.heap.size := by simp [World.setCell]
    omega
  · rw [hset b (by omega), h5 b (by omega) (hu3 b (by omega)), hgr.block b (by omega) fun e => ?_]
    · exact T.gr.block b hb hne
    · rcases T.vb with q | ⟨g', q, q'⟩
      · exact hne (e.trans q)
      · rw [q] at e; have := Option.some.inj e; omega
  · rw [hset z (by omega), low z (by omega) (by omega)]; exact T.arg
  · rw [hset (z + 1) (by omega), low (z + 1) (by omega) (by omega)]; exact T.res
  · exact (setCell_block ((low (z + 2) (by omega) (by omega)).trans T.box)).trans rfl
  · rw [hns]
    refine own_move hown fun b hb => ?_
    rw [hset b (fun e => hv1 b (by omega) (by omega) hb)]
    exact h5 b (hlt1 b hb).2 fun e => (row1.ap b e).2 hb
  · rcases hvb with h | ⟨g', h, h'⟩
    · rw [h]; exact T.vb
    · exact .inr ⟨g', h, by omega⟩
  · rw [hts]
    exact row5.on (by simp [World.setCell]) (fun b hb _ => hb) fun b hb _ => hset b (by omega)
end Go.Proofs.YtgdflaapgfpdeaaGreatDoor

namespace Go.Proofs.YtgdflaapgfpdeaaGreatDoor
open Go.RowKit

theorem flats_take {d : Nat} : ∀ (ts : List (Tn d)) (j : Nat) (h : j < ts.length), (flats d (ts.take j)).length + (flat d ts[j]).length ≤ (flats d ts).length
  | [], _, h => by simp at h
  | t :: ts, 0, _ => by rw [flats_cons, List.length_append]; simp [flats_nil]
  | t :: ts, j + 1, h => by
    have hj : j < ts.length := by simpa using h
    have := flats_take ts j hj
    rw [List.take_succ_cons, flats_cons, flats_cons, List.length_append, List.length_append]
    show _ + (flat d ts[j]).length ≤ _
    omega
/-- What is asked of named at depth d. -/
def NamedC (d : Nat) : Prop := ∀ (v x : Value) (t : Tn d) (ns : Nms) (w : World) (B lo : Nat), B ≤ lo → lo ≤ w.heap.size → TyAt w B d x t → formB d t = true → w.ownsRow lo 159 4 v ns.length (bdCells 0 ns) → ns.length + (flat d t).length ≤ 500 → Calls Tryz.prog 47 #[v, x] w (NmPost w lo v d (namedT d ns t))
theorem grown_below {w w' : World} {B : Nat} {row : Option Nat} (h : w.grownBy w' row) (hB : B ≤ w.heap.size) (hr : ∀ g, row = some g → B ≤ g) : Below B w w' := ⟨h.os, h.tape, h.output, h.size, fun k hk => h.block k (by omega) fun e => by have := hr k e.symm; omega⟩
end Go.Proofs.YtgdflaapgfpdeaaGreatDoor

namespace Go.Proofs.YtgdflaapgfpdeaaGreatDoor
open Go.RowKit

def canonT (d : Nat) (t : Tn d) : Tn d := (namedT d [] t).2
/-- What Canon answers. -/
def CanonPost (w : World) (d : Nat) (t : Tn d) (r : Ending) (w' : World) : Prop :=
  Below w.heap.size w w' ∧ ∃ (kd : Int) (nm : ByteArray) (ad : Option Addr) (len cap : Nat), r = .returned (.tuple #[.agg #[.int .i64 kd, .string nm, .slice ad len cap], .int .i64 (wrongT d t)]) ∧
    ((wrongT d t ≠ 0 ∧ kd = 0 ∧ nm = ⟨#[]⟩ ∧ ad = none ∧ len = 0 ∧ cap = 0) ∨ (wrongT d t = 0 ∧ TyS w' (fun g => w.heap.size ≤ g ∧ g < w'.heap.size) d (.agg #[.int .i64 kd, .string nm, .slice ad len cap]) (canonT d t)))
end Go.Proofs.YtgdflaapgfpdeaaGreatDoor
