/- Renaming of variables: the plain side; rows of bounds; rows of types apart from a row that grows. named at a variable. named at any type. named at any type: its contract. The reference's Canon: its contract. -/
import Derived.Test.YthcejnpknjepfaaGreatDoorMc
import Derived.Test.YthcejnpknjepfaaGreatDoorMj
namespace Go.Proofs.YthcejnpknjepfaaGreatDoor
open Go.RowKit

abbrev Nms := List (List UInt8)
/-- Arguments renamed one behind another. -/
def namedArgs {d : Nat} (f : Nms → Tn d → Nms × Tn d) : Nms → List (Tn d) → Nms × List (Tn d)
  | ns, [] => (ns, [])
  | ns, t :: ts => ((namedArgs f (f ns t).1 ts).1, (f ns t).2 :: (namedArgs f (f ns t).1 ts).2)
/-- A type whose variables are renamed; the names met so far, in their order. -/
def namedT : (d : Nat) → Nms → Tn d → Nms × Tn d
  | 0, ns, t => (ns, t)
  | d + 1, ns, ((k, n), ts) => if k = 2 then (if idxN ns n < ns.length then (ns, ((2, letB (idxN ns n)), [])) else (ns ++ [n], ((2, letB ns.length), []))) else ((namedArgs (namedT d) ns ts).1, ((k, n), (namedArgs (namedT d) ns ts).2))
theorem namedArgs_snoc {d : Nat} (f : Nms → Tn d → Nms × Tn d) (ts : List (Tn d)) (t : Tn d) : ∀ ns, namedArgs f ns (ts ++ [t]) = ((f (namedArgs f ns ts).1 t).1, (namedArgs f ns ts).2 ++ [(f (namedArgs f ns ts).1 t).2]) := by
  induction ts with
  | nil => intro ns; rfl
  | cons a r ih => intro ns; rw [List.cons_append, namedArgs, ih]; rfl
theorem namedArgs_len {d : Nat} (f : Nms → Tn d → Nms × Tn d) (hf : ∀ ns t, (f ns t).1.length ≤ ns.length + (flat d t).length) : ∀ (ts : List (Tn d)) ns, (namedArgs f ns ts).1.length ≤ ns.length + (flats d ts).length
  | [], ns => by simp [namedArgs]
  | t :: ts, ns => by
    rw [namedArgs, flats_cons, List.length_append]
    have h1 := namedArgs_len f hf ts (f ns t).1
    have h2 := hf ns t
    show (namedArgs f (f ns t).1 ts).1.length ≤ _
    omega
theorem namedArgs_two {d : Nat} (f : Nms → Tn d → Nms × Tn d) : ∀ (ts : List (Tn d)) ns, (namedArgs f ns ts).2.length = ts.length
  | [], _ => rfl
  | t :: ts, ns => by
    rw [namedArgs, List.length_cons]
    show ((f ns t).2 :: (namedArgs f (f ns t).1 ts).2).length = _
    rw [List.length_cons, namedArgs_two f ts, List.length_cons]
theorem namedT_len : ∀ (d : Nat) (ns : Nms) (t : Tn d), (namedT d ns t).1.length ≤ ns.length + (flat d t).length
  | 0, _, t => t.elim
  | d + 1, ns, ((k, n), ts) => by
    rw [namedT, flat_succ]
    split
    · split
      · show ns.length ≤ _; omega
      · show (ns ++ [n]).length ≤ _; simp
    · have := namedArgs_len (namedT d) (namedT_len d) ts ns
      show (namedArgs (namedT d) ns ts).1.length ≤ _
      simp
      omega
/-- The cells of a row of bounds: each name stands for the variable of its place. -/
def bdCells : Nat → Nms → List Value
  | _, [] => []
  | k, n :: r => .string ⟨n.toArray⟩ :: .int .i64 2 :: .string ⟨(letB k).toArray⟩ :: .slice none 0 0 :: bdCells (k + 1) r
theorem bdCells_len : ∀ (ns : Nms) k, (bdCells k ns).length = ns.length * 4
  | [], _ => rfl
  | n :: r, k => by rw [bdCells]; simp [bdCells_len r]; omega
theorem bdCells_snoc (n : List UInt8) : ∀ (ns : Nms) k, bdCells k (ns ++ [n]) = bdCells k ns ++ [.string ⟨n.toArray⟩, .int .i64 2, .string ⟨(letB (k + ns.length)).toArray⟩, .slice none 0 0]
  | [], k => rfl
  | a :: r, k => by
    rw [List.cons_append, bdCells, bdCells_snoc n r, bdCells, List.length_cons, show k + 1 + r.length = k + (r.length + 1) by omega]
    rfl
theorem bdCells_get : ∀ (ns : Nms) (k j : Nat) (h : j < ns.length), (bdCells k ns)[j * 4]? = some (.string ⟨ns[j].toArray⟩) ∧ (bdCells k ns)[j * 4 + 1]? = some (.int .i64 2) ∧ (bdCells k ns)[j * 4 + 2]? = some (.string ⟨(letB (k + j)).toArray⟩) ∧ (bdCells k ns)[j * 4 + 3]? = some (.slice none 0 0)
  | [], _, _, h => by simp at h
  | n :: r, k, 0, _ => ⟨rfl, rfl, rfl, rfl⟩
  | n :: r, k, j + 1, h => by
    have ih := bdCells_get r (k + 1) j (by simpa using h)
    rw [show k + 1 + j = k + (j + 1) by omega] at ih
    rw [bdCells, show (j + 1) * 4 = j * 4 + 1 + 1 + 1 + 1 by omega]
    refine ⟨?_, ?_, ?_, ?_⟩
    · simpa using ih.1
    · have := ih.2.1
      rw [show j * 4 + 1 + 1 + 1 + 1 + 1 = (j * 4 + 1) + 1 + 1 + 1 + 1 by omega]
      simpa only [List.getElem?_cons_succ] using this
    · have := ih.2.2.1
      rw [show j * 4 + 1 + 1 + 1 + 1 + 2 = (j * 4 + 2) + 1 + 1 + 1 + 1 by omega]
      simpa only [List.getElem?_cons_succ] using this
    · have := ih.2.2.2
      rw [show j * 4 + 1 + 1 + 1 + 1 + 3 = (j * 4 + 3) + 1 + 1 + 1 + 1 by omega]
      simpa only [List.getElem?_cons_succ] using this
theorem add_zero_addr (g i : Nat) : (⟨g, 0, none⟩ : Addr).add i = ⟨g, i, none⟩ := by
  unfold Addr.add
  split
  · rename_i h0; rw [h0]
  · simp
/-- An owned row of bounds: its cells. -/
theorem bd_cells {w : World} {lo : Nat} {v : Value} {ns : Nms} (h : w.ownsRow lo 53 4 v ns.length (bdCells 0 ns)) (h0 : 0 < ns.length) : ∃ g cap, v = .slice (some ⟨g, 0, none⟩) ns.length cap ∧ lo ≤ g ∧ g < w.heap.size ∧ ns.length ≤ cap ∧ ∀ j (hj : j < ns.length), w.cell? ⟨g, j * 4, none⟩ = some (.string ⟨ns[j].toArray⟩) ∧ w.cell? ⟨g, j * 4 + 1, none⟩ = some (.int .i64 2) ∧ w.cell? ⟨g, j * 4 + 2, none⟩ = some (.string ⟨(letB j).toArray⟩) ∧ w.cell? ⟨g, j * 4 + 3, none⟩ = some (.slice none 0 0) := by
  rcases id h.2 with ⟨_, h1⟩ | ⟨g, cap, cur, hv, hb, hh, hcap, _⟩
  · omega
  · refine ⟨g, cap, hv, hb, heap_lt hh, hcap, fun j hj => ?_⟩
    have hc : ∀ i u, (bdCells 0 ns)[i]? = some u → w.cell? ⟨g, i, none⟩ = some u := fun i u hu => by
      have := h.cells (g := g) (by rw [hv]; rfl) i u hu
      rw [add_zero_addr] at this
      exact this
    have hq := bdCells_get ns 0 j hj
    rw [Nat.zero_add] at hq
    exact ⟨hc _ _ hq.1, hc _ _ hq.2.1, hc _ _ hq.2.2.1, hc _ _ hq.2.2.2⟩
theorem find_own {w : World} {lo : Nat} {v : Value} {ns : Nms} (x : List UInt8) (h : w.ownsRow lo 53 4 v ns.length (bdCells 0 ns)) (hl : ns.length ≤ 1000) : Calls Tryz.prog 47 #[v, strV x] w fun r w' => r = .returned (.int .i64 (findI ns x)) ∧ w' = w := by
  by_cases h0 : 0 < ns.length
  · obtain ⟨g, cap, rfl, _, _, _, hc⟩ := bd_cells h h0
    exact find_some ns x g 0 cap w (by omega) fun j hj => by rw [Nat.zero_add]; exact (hc j hj).1
  · have e : ns = [] := List.length_eq_zero_iff.1 (by omega)
    subst e
    obtain ⟨ad, cap, rfl⟩ : ∃ ad cap, v = .slice ad 0 cap := by
      rcases h.2 with ⟨h1, _⟩ | ⟨g, cap, cur, h1, _⟩
      · exact ⟨none, 0, h1⟩
      · exact ⟨_, cap, h1⟩
    exact find_none x ad cap w

/-- A row that is made one by one, in blocks such as A says. -/
structure RowQ (w : World) (A : Nat → Prop) (lo d : Nat) (u : Value) (es : List El) (ts : List (Tn d)) : Prop where
  own : w.ownsRow lo 24 3 u es.length (es.flatMap elCells)
  len : es.length = ts.length
  ap : ∀ g, u.ownBlock = some g → A g
  each : ∀ j (h : j < es.length) (h' : j < ts.length), TyS w (fun g => A g ∧ g < w.heap.size ∧ u.ownBlock ≠ some g) d (elV es[j]) ts[j]
theorem RowQ.nil (w : World) (A : Nat → Prop) (lo d : Nat) : RowQ w A lo d (.slice none 0 0) [] [] := ⟨World.ownsRow_nil _ _ _ _, rfl, fun g h => by simp [Value.ownBlock] at h, fun j h => by simp at h⟩
theorem RowQ.on {w w' : World} {A A' : Nat → Prop} {lo d : Nat} {u : Value} {es : List El} {ts : List (Tn d)} (h : RowQ w A lo d u es ts) (hs : w.heap.size ≤ w'.heap.size) (hA : ∀ g, A g → g < w.heap.size → A' g) (hb : ∀ g, A g → g < w.heap.size → w'.heap[g]? = w.heap[g]?) : RowQ w' A' lo d u es ts := by
  have hlt := h.own.lt
  refine ⟨?_, h.len, fun g hg => hA g (h.ap g hg) (hlt g hg).2, fun j hj hj' => TyS.on (fun g hg => ⟨hA g hg.1 hg.2.1, by omega, hg.2.2⟩) (fun g hg => hb g hg.1 hg.2.1) _ _ _ (h.each j hj hj')⟩
  obtain ⟨h1, h2⟩ := h.own
  refine ⟨h1, ?_⟩
  rcases h2 with h2 | ⟨g, cap, cur, hv, hg, hh, r⟩
  · exact .inl h2
  · refine .inr ⟨g, cap, cur, hv, hg, ?_, r⟩
    rw [hb g (h.ap g (by rw [hv]; rfl)) (heap_lt hh)]
    exact hh
/-- One more. -/
theorem RowQ.snoc {w w' : World} {A : Nat → Prop} {lo d : Nat} {v v' : Value} {es : List El} {ts : List (Tn d)} {e : El} {t : Tn d} {o : Obj} (h : RowQ w A lo d v es ts) (he : TyS w (fun g => A g ∧ g < w.heap.size ∧ v.ownBlock ≠ some g) d (elV e) t) (hA : ∀ g, w.heap.size ≤ g → A g)
    (hown : w'.ownsRow lo 24 3 v' (es.length + 1) (es.flatMap elCells ++ elCells e)) (hg : (w.alloc o).grownBy w' v.ownBlock) (hv : v'.ownBlock = v.ownBlock ∨ ∃ g, v'.ownBlock = some g ∧ w.heap.size ≤ g) : RowQ w' A lo d v' (es ++ [e]) (ts ++ [t]) := by
  have hsz : w.heap.size ≤ w'.heap.size := by have := hg.size; simp at this; omega
  have move : ∀ (x : Value) (u : Tn d), TyS w (fun g => A g ∧ g < w.heap.size ∧ v.ownBlock ≠ some g) d x u → TyS w' (fun g => A g ∧ g < w'.heap.size ∧ v'.ownBlock ≠ some g) d x u := fun x u hu => by
    refine TyS.on (S := fun g => A g ∧ g < w.heap.size ∧ v.ownBlock ≠ some g) (fun g q => ⟨q.1, by omega, ?side⟩) (fun g q => ?keep) d x u hu
    case side =>
      rcases hv with hv | ⟨g', hv, hge⟩
      · rw [hv]; exact q.2.2
      · rw [hv]
        intro e0
        have := Option.some.inj e0
        have := q.2.1
        omega
    case keep =>
      rw [hg.block g (by have := q.2.1; simp; omega) (fun e0 => q.2.2 e0.symm)]
      exact Below.heap_alloc _ _ _ q.2.1
  refine ⟨by simpa using hown, by simp [h.len], fun g hg' => ?_, fun j hj hj' => ?_⟩
  · rcases hv with hv | ⟨g', hv, hge⟩
    · exact h.ap g (hv ▸ hg')
    · rw [hv] at hg'
      exact hA g (by rw [← Option.some.inj hg']; exact hge)
  by_cases hlt : j < es.length
  · have hlt' : j < ts.length := by have := h.len; omega
    rw [List.getElem_append_left hlt, List.getElem_append_left hlt']
    exact move _ _ (h.each j hlt hlt')
  · have h1 : j = es.length := by simp at hj; omega
    subst h1
    have hl := h.len
    rw [List.getElem_concat_length, List.getElem_append_right (by omega)]
    · simp only [hl, Nat.sub_self, List.getElem_cons_zero]
      exact move _ _ he
    · rfl
/-- The tree whose arguments are such a row. -/
theorem RowQ.tree {w : World} {A : Nat → Prop} {lo d : Nat} {v : Value} {es : List El} {ts : List (Tn d)} (h : RowQ w A lo d v es ts) (k : Int) (n : List UInt8) (hn : n.length < 140737488355328) (hl : ts.length < 140737488355328) :
    TyS w (fun g => A g ∧ g < w.heap.size) (d + 1) (.agg #[.int .i64 k, .string ⟨n.toArray⟩, v]) ((k, n), ts) := by
  refine ⟨v, rfl, hn, hl, ?_⟩
  rcases id h.own.2 with ⟨hv, h0⟩ | ⟨g, cap, cur, hv, hb, hh, hcap, _⟩
  · refine .inl ⟨List.length_eq_zero_iff.1 (by rw [← h.len, h0]), none, 0, hv⟩
  · by_cases h0 : es.length = 0
    · refine .inl ⟨List.length_eq_zero_iff.1 (by rw [← h.len, h0]), _, cap, by rw [hv, h0]⟩
    · refine .inr ⟨g, 0, cap, by rw [hv, h.len], ?_, by show ts.length ≤ cap; rw [← h.len]; exact hcap, ⟨h.ap g (by rw [hv]; rfl), heap_lt hh⟩, fun j hj => ?_⟩
      · intro e0
        have e0 : ts = [] := e0
        rw [h.len, e0] at h0
        exact h0 rfl
      · have hj : j < ts.length := hj
        have hj' : j < es.length := by rw [h.len]; exact hj
        have hc : ∀ i, i < 3 → ∀ u, (elCells es[j])[i]? = some u → w.cell? ⟨g, 0 + j * 3 + i, none⟩ = some u := by
          intro i hi u hu
          have := h.own.cells (g := g) (by rw [hv]; rfl) (j * 3 + i) u (by rw [elCells_get es j i hj' hi]; exact hu)
          rw [Nat.zero_add]
          rw [add_zero_addr] at this
          exact this
        exact ⟨es[j].1, es[j].2.1, es[j].2.2, hc 0 (by omega) _ rfl, hc 1 (by omega) _ rfl, hc 2 (by omega) _ rfl, TyS.on (fun g q => ⟨q.1, q.2.1⟩) (fun _ _ => rfl) d _ _ (h.each j hj' hj)⟩
theorem Tryz.info53 : (Tryz.prog.info? 53).map (fun i => (i.zero, i.size, i.bytes)) = some (some (.agg #[.string ⟨#[]⟩, .int .i64 0, .string ⟨#[]⟩, .slice none 0 0]), 4, 64) := by kernel_rfl
end Go.Proofs.YthcejnpknjepfaaGreatDoor

namespace Go.Proofs.YthcejnpknjepfaaGreatDoor
open Go.RowKit

/-- What named leaves: the row of bounds grown, and the renamed type in new blocks. -/
def NmPost (w : World) (lo : Nat) (v : Value) (d : Nat) (R : Nms × Tn d) (r : Ending) (w' : World) : Prop :=
  ∃ (ad : Option Addr) (cap : Nat) (kd : Int) (nm : ByteArray) (ad1 : Option Addr) (len1 cap1 : Nat), r = .returned (.tuple #[.slice ad R.1.length cap, .agg #[.int .i64 kd, .string nm, .slice ad1 len1 cap1]]) ∧
    w'.ownsRow lo 53 4 (.slice ad R.1.length cap) R.1.length (bdCells 0 R.1) ∧ w.grownBy w' v.ownBlock ∧ ((Value.slice ad R.1.length cap).ownBlock = v.ownBlock ∨ ∃ g, (Value.slice ad R.1.length cap).ownBlock = some g ∧ w.heap.size ≤ g) ∧
    TyS w' (fun g => w.heap.size ≤ g ∧ g < w'.heap.size ∧ (Value.slice ad R.1.length cap).ownBlock ≠ some g) d (.agg #[.int .i64 kd, .string nm, .slice ad1 len1 cap1]) R.2
theorem let_len (n : Nat) : (letB n).length ≤ 3 := by
  unfold letB digB
  split
  · simp
  · split <;> simp
theorem below_grown {w w' : World} (h : Below w.heap.size w w') (row : Option Nat) : w.grownBy w' row := ⟨h.os, h.tape, h.output, h.size, fun k hk _ => h.block k hk⟩
theorem grownBy_drew' {w w' : World} {row : Option Nat} (h : w.grownBy w' row) : w.grownBy w'.drew row := ⟨h.os, h.tape, h.output, h.size, h.block⟩
theorem own_move {w w' : World} {lo e size n : Nat} {v : Value} {xs : List Value} (h : w.ownsRow lo e size v n xs) (hb : ∀ k, v.ownBlock = some k → w'.heap[k]? = w.heap[k]?) : w'.ownsRow lo e size v n xs := by
  obtain ⟨h1, h2⟩ := h
  refine ⟨h1, ?_⟩
  rcases h2 with h2 | ⟨g, cap, cur, hv, hg, hh, r⟩
  · exact .inl h2
  · refine .inr ⟨g, cap, cur, hv, hg, ?_, r⟩
    rw [hb g (by rw [hv]; rfl)]
    exact hh
set_option maxHeartbeats 8000000 in
set_option maxRecDepth 10000 in
theorem named_old (d lo : Nat) (v : Value) (ns : Nms) (x : List UInt8) (ad : Option Addr) (cap : Nat) (w : World) (h : w.ownsRow lo 53 4 v ns.length (bdCells 0 ns)) (hl : ns.length ≤ 500) (hi : idxN ns x < ns.length) :
    Calls Tryz.prog 27 #[v, .agg #[.int .i64 2, strV x, .slice ad 0 cap]] w (NmPost w lo v (d + 1) (ns, ((2, letB (idxN ns x)), []))) := by
  obtain ⟨g, c0, rfl, hlo, hg, hc0, hc⟩ := bd_cells h (by omega)
  have C := fun (W : World) (hW : W.ownsRow lo 53 4 (.slice (some ⟨g, 0, none⟩) ns.length c0) ns.length (bdCells 0 ns)) => find_own x hW (by omega)
  have hF : findI ns x = (idxN ns x : Int) := by rw [findI, if_pos hi]
  rw [hF] at C
  generalize idxN ns x = i at C hi ⊢
  obtain ⟨p0, p1, p2, p3⟩ := hc i hi
  have hEX : ∃ W, W = (w.alloc (Obj.cells #[Value.int IntKind.i64 2, strV x, Value.slice ad 0 cap] 24)).alloc (Obj.cells #[Value.int IntKind.i64 0, Value.string ⟨#[]⟩, Value.slice none 0 0] 24) := ⟨_, rfl⟩
  obtain ⟨W, hW⟩ := hEX
  have D := C W (by rw [hW]; exact (h.alloc _).alloc _)
  have hbW : Below w.heap.size w W := by rw [hW]; exact ((Below.refl _ _).alloc (Nat.le_refl _) _).alloc (by simp) _
  have res : W.heap[w.heap.size + 1]? = some (.cells #[.int .i64 0, .string ⟨#[]⟩, .slice none 0 0] 24 (0, 0)) := by
    rw [hW]
    show ((w.heap.push _).push _)[w.heap.size + 1]? = _
    rw [Array.getElem?_push, if_pos (by simp)]
  have hown : W.ownsRow lo 53 4 (.slice (some ⟨g, 0, none⟩) ns.length c0) ns.length (bdCells 0 ns) := by rw [hW]; exact (h.alloc _).alloc _
  have b0 : W.cell? ⟨w.heap.size, 0, none⟩ = some (.int .i64 2) := by rw [hW]; simp
  have b1 : W.cell? ⟨w.heap.size, 1, none⟩ = some (strV x) := by rw [hW]; simp
  have q1 := (hbW.cell (p := ⟨g, i * 4 + 1, none⟩) hg).trans p1
  have q2 := (hbW.cell (p := ⟨g, i * 4 + 2, none⟩) hg).trans p2
  have q3 := (hbW.cell (p := ⟨g, i * 4 + 3, none⟩) hg).trans p3
  have HO : Hid (W.ownsRow lo 53 4 (.slice (some ⟨g, 0, none⟩) ns.length c0) ns.length (bdCells 0 ns)) := hown
  have HB : Hid (Below w.heap.size w W) := hbW
  have HG : Hid (g < w.heap.size) := hg
  obtain ⟨r0, r1, r2⟩ := heap_cells res
  have g0 := heap_frozen (o := 0) res
  have g1 := heap_frozen (o := 1) res
  have g2 := heap_frozen (o := 2) res
  have i1 : (0 : Int) ≤ (i : Int) := by omega
  have i2 : (i : Int) < (ns.length : Int) := by omega
  have i3 : ¬ (i : Int) < 0 := by omega
  clear C hc p0 p1 p2 p3 hown hbW hF h
  go_enter Tryz.func27, Tryz.ntmps27
  go_upto_region 1 with fail
  rw [← hW]
  generalize hz : w.heap.size = z at b0 b1 r0 r1 r2 g0 g1 g2 res ⊢
  have HZ : Hid (w.heap.size = z) := hz
  clear hW hz
  go_upto_region 7 with (go_at_call 47; (with_reducible refine Calls.mono D ?_); rintro e' w' ⟨rfl, hw'⟩; rw [hw']; clear hw' w')
  go_region
  go_wp2
  obtain ⟨W', hW', hz', hoth, hsz, hbz'⟩ := store3 res (.int .i64 2) (strV (letB i)) (.slice none 0 0)
  rw [← hW']
  obtain ⟨s0, s1, s2⟩ := heap_cells hz'
  refine bodyPost_ret (v := .tuple #[.slice (some ⟨g, 0, none⟩) ns.length c0, .agg #[.int .i64 2, strV (letB i), .slice none 0 0]]) (by simp [results, Tryz.results27, go_sem, s0, s1, s2]) rfl ?_
  have hzz := HZ.out
  have hgz := HG.out
  have hbel : Below w.heap.size w W' := HB.out.trans (hbz'.mono (by omega))
  refine ⟨some ⟨g, 0, none⟩, c0, 2, ⟨(letB i).toArray⟩, none, 0, 0, rfl, ?_, below_grown hbel.drew _, .inl rfl, ?_⟩
  · exact own_move HO.out fun k hk => hoth k (by have : g = k := Option.some.inj hk; omega)
  · exact ⟨.slice none 0 0, rfl, by have := let_len i; show (letB i).length < _; omega, by simp, .inl ⟨rfl, none, 0, rfl⟩⟩
set_option maxHeartbeats 8000000 in
set_option maxRecDepth 10000 in
theorem named_new (d lo : Nat) (v : Value) (ns : Nms) (x : List UInt8) (ad : Option Addr) (cap : Nat) (w : World) (h : w.ownsRow lo 53 4 v ns.length (bdCells 0 ns)) (hlo : lo ≤ w.heap.size) (hl : ns.length ≤ 500) (hi : ¬ idxN ns x < ns.length) :
    Calls Tryz.prog 27 #[v, .agg #[.int .i64 2, strV x, .slice ad 0 cap]] w (NmPost w lo v (d + 1) (ns ++ [x], ((2, letB ns.length), []))) := by
  have C := fun (W : World) (hW : W.ownsRow lo 53 4 v ns.length (bdCells 0 ns)) => find_own x hW (by omega)
  have hF : findI ns x = -1 := by rw [findI, if_neg hi]
  rw [hF] at C
  clear hF hi
  have E1 := fun W => letters_any ns.length W (by omega)
  have hbd := bdCells_snoc x ns 0
  rw [Nat.zero_add] at hbd
  have HBD : Hid (bdCells 0 (ns ++ [x]) = bdCells 0 ns ++ [.string ⟨x.toArray⟩, .int .i64 2, .string ⟨(letB ns.length).toArray⟩, .slice none 0 0]) := hbd
  have HLL : Hid ((letB ns.length).length ≤ 3) := let_len _
  generalize letB ns.length = nm at E1 HBD HLL ⊢
  obtain ⟨va, vc, hv⟩ : ∃ va vc, v = .slice va ns.length vc := by
    rcases h.2 with ⟨h1, h2⟩ | ⟨g', cap', cur, h1, _⟩
    · exact ⟨none, 0, by rw [h1, h2]⟩
    · exact ⟨_, _, h1⟩
  subst hv
  have hEX : ∃ W, W = (w.alloc (Obj.cells #[Value.int IntKind.i64 2, strV x, Value.slice ad 0 cap] 24)).alloc (Obj.cells #[Value.int IntKind.i64 0, Value.string ⟨#[]⟩, Value.slice none 0 0] 24) := ⟨_, rfl⟩
  obtain ⟨W, hW⟩ := hEX
  have hown : W.ownsRow lo 53 4 (.slice va ns.length vc) ns.length (bdCells 0 ns) := by rw [hW]; exact (h.alloc _).alloc _
  have D := C W hown
  have hbW : Below w.heap.size w W := by rw [hW]; exact ((Below.refl _ _).alloc (Nat.le_refl _) _).alloc (by simp) _
  have hsW : W.heap.size = w.heap.size + 2 := by rw [hW]; simp
  have res : W.heap[w.heap.size + 1]? = some (.cells #[.int .i64 0, .string ⟨#[]⟩, .slice none 0 0] 24 (0, 0)) := by
    rw [hW]
    show ((w.heap.push _).push _)[w.heap.size + 1]? = _
    rw [Array.getElem?_push, if_pos (by simp)]
  have b0 : W.cell? ⟨w.heap.size, 0, none⟩ = some (.int .i64 2) := by rw [hW]; simp
  have b1 : W.cell? ⟨w.heap.size, 1, none⟩ = some (strV x) := by rw [hW]; simp
  have HO : Hid (W.ownsRow lo 53 4 (.slice va ns.length vc) ns.length (bdCells 0 ns)) := hown
  have HB : Hid (Below w.heap.size w W) := hbW
  have HS : Hid (W.heap.size = w.heap.size + 2) := hsW
  have HLo : Hid (lo ≤ w.heap.size) := hlo
  have HVL : Hid (∀ k, (Value.slice va ns.length vc).ownBlock = some k → lo ≤ k ∧ k < w.heap.size) := h.lt
  have i1 : (0 : Int) ≤ (ns.length : Int) := by omega
  have i2 : (ns.length : Int) < (ns.length : Int) + 1 := by omega
  obtain ⟨i0, hi, hz0, hz1, hz2⟩ := info_parts Tryz.info53
  clear C hown hbW h hlo hsW
  go_enter Tryz.func27, Tryz.ntmps27
  go_upto_region 1 with fail
  rw [← hW]
  generalize hz : w.heap.size = z at b0 b1 res ⊢
  have HZ : Hid (w.heap.size = z) := hz
  clear hW hz
  go_upto_region 6 with (first
    | (go_at_call 47; (with_reducible refine Calls.mono D ?_); rintro e' w' ⟨rfl, hw'⟩; rw [hw']; clear hw' w')
    | (go_at_call 48; (with_reducible refine Calls.mono (E1 _) ?_); rintro e' w1 ⟨rfl, hb1⟩))
  have hb1' : Below (z + 2) W w1 := hb1.mono (by have := HS.out; have := HZ.out; omega)
  have d1 := (hb1'.cell (p := ⟨z, 1, none⟩) (by simp)).trans b1
  have own1 : w1.ownsRow lo 53 4 (.slice va ns.length vc) ns.length (bdCells 0 ns) := own_move HO.out fun k hk => hb1'.block k (by have := HVL.out k hk; have := HZ.out; omega)
  have hlo1 : lo ≤ w1.heap.size := by have := HLo.out; have := HB.out.size; have := hb1.size; omega
  have HB1 : Hid (Below (z + 2) W w1) := hb1'
  have res1 : w1.heap[z + 1]? = some (.cells #[.int .i64 0, .string ⟨#[]⟩, .slice none 0 0] 24 (0, 0)) := (hb1'.block (z + 1) (by omega)).trans res
  have hs1 : z + 2 ≤ w1.heap.size := by have := HS.out; have := HZ.out; have := hb1.size; omega
  clear b0 b1 D E1 hb1 hb1' res
  go_upto_region 7 with (at_builtin; refine wpList_append_lies _ rfl _ _ 37 rfl lo 53 i0 _ 4 64 Tryz.underlying37 hi hz0 hz1 hz2 rfl (by decide) (.slice va ns.length vc) ns.length (bdCells 0 ns) rfl (own1.alloc _) ⟨w1.heap.size, 0, none⟩ 1 1 [.string ⟨x.toArray⟩, .int .i64 2, .string ⟨nm.toArray⟩, .slice none 0 0] rfl rfl (World.news_of_block (cs := #[.string ⟨x.toArray⟩, .int .i64 2, .string ⟨nm.toArray⟩, .slice none 0 0]) (t := 53) (fr := (0, 0)) (heap_alloc_new w1 _)) (by simp [Value.oneCell']) (by omega) (by unfold maxLen; omega) (by omega) (by simp; omega) (w1.heap.size + 1) (by simp) ?_; intro g cap' w5 hown1 hgrow hat hlt5)
  have HG5 : Hid ((w1.alloc (Obj.cells #[.string ⟨x.toArray⟩, .int .i64 2, .string ⟨nm.toArray⟩, .slice none 0 0] 53)).grownBy w5 (Value.slice va ns.length vc).ownBlock) := hgrow
  have HA5 : Hid ((Value.slice va ns.length vc).ownBlock = some g ∨ g = w1.heap.size + 1) := hat
  have hgz : g ≠ z + 1 := by
    rcases HA5.out with h | h
    · have := (HVL.out g h).2
      have := HZ.out
      omega
    · omega
  have res5 : w5.heap[z + 1]? = some (.cells #[.int .i64 0, .string ⟨#[]⟩, .slice none 0 0] 24 (0, 0)) := (HG5.out.block (z + 1) (by simp; omega) (fun e => by have := (HVL.out _ e.symm).2; have := HZ.out; omega)).trans ((Below.heap_alloc _ _ _ (by omega)).trans res1)
  have hc : ∀ i u, [Value.string ⟨x.toArray⟩, .int .i64 2, .string ⟨nm.toArray⟩, .slice none 0 0][i]? = some u → w5.cell? ⟨g, ns.length * 4 + i, none⟩ = some u := fun i u hu => by
    have := hown1.cells (g := g) rfl (ns.length * 4 + i) u (by rw [List.getElem?_append_right (by rw [bdCells_len]; omega), bdCells_len, Nat.add_sub_cancel_left]; exact hu)
    rw [add_zero_addr] at this
    exact this
  have q1 := hc 1 _ rfl
  have q2 := hc 2 _ rfl
  have q3 := hc 3 _ rfl
  have HO5 : Hid (w5.ownsRow lo 53 4 (.slice (some ⟨g, 0, none⟩) (ns.length + 1) cap') (ns.length + 1) (bdCells 0 (ns ++ [x]))) := by
    show World.ownsRow _ _ _ _ _ _ _
    rw [HBD.out]
    exact hown1
  obtain ⟨r0, r1, r2⟩ := heap_cells res5
  have g0 := heap_frozen (o := 0) res5
  have g1 := heap_frozen (o := 1) res5
  have g2 := heap_frozen (o := 2) res5
  have HS1 : Hid (z + 2 ≤ w1.heap.size) := hs1
  have i3 : (ns.length : Int) < ((ns.length + 1 : Nat) : Int) := by omega
  clear hc hown1 hgrow hat own1 res1 hs1 d1 hbd i2
  go_region
  go_wp2
  obtain ⟨W', hW', hz', hoth, hsz, hbz'⟩ := store3 res5 (.int .i64 2) (strV nm) (.slice none 0 0)
  rw [← hW']
  obtain ⟨s0, s1, s2⟩ := heap_cells hz'
  refine bodyPost_ret (v := .tuple #[.slice (some ⟨g, 0, none⟩) (ns.length + 1) cap', .agg #[.int .i64 2, strV nm, .slice none 0 0]]) (by simp [results, Tryz.results27, go_sem, s0, s1, s2]) rfl ?_
  have hzz := HZ.out
  have hsW := HS.out
  have hs1 := HS1.out
  have hG5 := HG5.out
  have hlen : (ns ++ [x]).length = ns.length + 1 := by simp
  have hgr : w.grownBy W' (Value.slice va ns.length vc).ownBlock := by
    refine ⟨?_, ?_, ?_, ?_, fun k hk hne => ?_⟩
    · rw [hbz'.os, hG5.os]; exact HB1.out.os.trans HB.out.os
    · rw [hbz'.tape, hG5.tape]; exact HB1.out.tape.trans HB.out.tape
    · rw [hbz'.output, hG5.output]; exact HB1.out.output.trans HB.out.output
    · have := hG5.size
      simp at this
      omega
    · rw [hoth k (by omega), hG5.block k (by simp; omega) hne, Below.heap_alloc _ _ _ (by omega), HB1.out.block k (by omega)]
      exact HB.out.block k (by omega)
  refine ⟨some ⟨g, 0, none⟩, cap', 2, ⟨nm.toArray⟩, none, 0, 0, ?_, ?_, grownBy_drew' hgr, ?_, ?_⟩
  · show _ = Ending.returned (.tuple #[.slice _ (ns ++ [x]).length _, _])
    rw [hlen]
  · show World.ownsRow _ _ _ _ (.slice _ (ns ++ [x]).length _) (ns ++ [x]).length _
    rw [hlen]
    exact own_move HO5.out fun k hk => hoth k (by have : g = k := Option.some.inj hk; omega)
  · rcases HA5.out with h | h
    · exact .inl h.symm
    · exact .inr ⟨g, rfl, by omega⟩
  · exact ⟨.slice none 0 0, rfl, by have := HLL.out; show nm.length < _; omega, by simp, .inl ⟨rfl, none, 0, rfl⟩⟩
end Go.Proofs.YthcejnpknjepfaaGreatDoor

namespace Go.Proofs.YthcejnpknjepfaaGreatDoor
open Go.RowKit

theorem take_next {α : Type} : ∀ (l : List α) (j : Nat) (h : j < l.length), l.take (j + 1) = l.take j ++ [l[j]]
  | [], _, h => by simp at h
  | a :: r, 0, _ => by simp
  | a :: r, j + 1, h => by
    have hj : j < r.length := by simpa using h
    rw [List.take_succ_cons, take_next r j hj]
    rfl
/-- The names and the arguments behind the first j arguments. -/
abbrev nsA (d : Nat) (ns0 : Nms) (ts : List (Tn d)) (j : Nat) : Nms := (namedArgs (namedT d) ns0 (ts.take j)).1
abbrev tsA (d : Nat) (ns0 : Nms) (ts : List (Tn d)) (j : Nat) : List (Tn d) := (namedArgs (namedT d) ns0 (ts.take j)).2
/-- Between the rounds of named. -/
structure NmW (w wr : World) (z lo d : Nat) (k : Int) (n : List UInt8) (row0 : Option Nat) (av : Value) (ns0 : Nms) (ts : List (Tn d)) (j : Nat) (v u : Value) (es : List El) : Prop where
  gr : w.grownBy wr row0
  arg : wr.heap[z]? = some (.cells #[.int .i64 k, .string ⟨n.toArray⟩, av] 24 (0, 0))
  res : wr.heap[z + 1]? = some (.cells #[.int .i64 0, .string ⟨#[]⟩, .slice none 0 0] 24 (0, 0))
  box : wr.heap[z + 2]? = some (.cells #[.int .i64 k, .string ⟨n.toArray⟩, u] 24 (0, 0))
  own : wr.ownsRow lo 53 4 v (nsA d ns0 ts j).length (bdCells 0 (nsA d ns0 ts j))
  vb : v.ownBlock = row0 ∨ ∃ g, v.ownBlock = some g ∧ z + 3 ≤ g
  row : RowQ wr (fun g => z + 3 ≤ g ∧ v.ownBlock ≠ some g) (z + 3) d u es (tsA d ns0 ts j)
/-- One argument more was renamed, and laid behind the others. -/
theorem NmW.more {w wr w1 U w5 : World} {z lo d : Nat} {k : Int} {n : List UInt8} {row0 : Option Nat} {av : Value} {ns0 : Nms} {ts : List (Tn d)} {j : Nat} {v u v1 : Value} {es : List El} (T : NmW w wr z lo d k n row0 av ns0 ts j v u es) (hz : w.heap.size = z) (h0 : ∀ g, row0 = some g → g < z) (hj : j < ts.length) {kd : Int} {nm : ByteArray} {ad : Option Addr} {len cap : Nat} {ns1 : Nms} {t1 : Tn d}
    (hR : namedT d (nsA d ns0 ts j) ts[j] = (ns1, t1)) (hown : w1.ownsRow lo 53 4 v1 ns1.length (bdCells 0 ns1)) (hgr : wr.grownBy w1 v.ownBlock) (hvb : v1.ownBlock = v.ownBlock ∨ ∃ g, v1.ownBlock = some g ∧ wr.heap.size ≤ g)
    (hT : TyS w1 (fun g => wr.heap.size ≤ g ∧ g < w1.heap.size ∧ v1.ownBlock ≠ some g) d (.agg #[.int .i64 kd, .string nm, .slice ad len cap]) t1) {o o' : Obj} (hU : U = w1.alloc o) {g cap' : Nat}
    (hown1 : w5.ownsRow (z + 3) 24 3 (.slice (some ⟨g, 0, none⟩) (es.length + 1) cap') (es.length + 1) (es.flatMap elCells ++ [.int .i64 kd, .string nm, .slice ad len cap])) (hg : (U.alloc o').grownBy w5 u.ownBlock) (hat : u.ownBlock = some g ∨ g = U.heap.size + 1) :
    NmW w (w5.setCell ⟨z + 2, 2, none⟩ (.slice (some ⟨g, 0, none⟩) (es.length + 1) cap')) z lo d k n row0 av ns0 ts (j + 1) v1 (.slice (some ⟨g, 0, none⟩) (es.length + 1) cap') (es ++ [(kd, nm, .slice ad len cap)]) := by
  have hz2 := heap_lt T.box
  have hlt := T.own.lt
  have hlt1 := hown.lt
  have hult := T.row.own.lt
  have hU1 : U.heap.size = w1.heap.size + 1 := by rw [hU]; simp
  have hsz1 := hgr.size
  have hUb : ∀ b, b < w1.heap.size → U.heap[b]? = w1.heap[b]? := fun b hb => by rw [hU]; exact Below.heap_alloc _ _ _ hb
  have hs5 : U.heap.size + 1 ≤ w5.heap.size := by have := hg.size; simp at this; omega
  have hv1 : ∀ b, z ≤ b → b < z + 3 → v1.ownBlock ≠ some b := fun b h1 h2 e => by
    rcases hvb with h | ⟨g', h, h'⟩
    · rw [h] at e
      rcases T.vb with q | ⟨g', q, q'⟩
      · have := h0 b (q ▸ e); omega
      · rw [q] at e; have := Option.some.inj e; omega
    · rw [h] at e; have := Option.some.inj e; omega
  have hv : ∀ b, z ≤ b → b < z + 3 → v.ownBlock ≠ some b := fun b h1 h2 e => by
    rcases T.vb with q | ⟨g', q, q'⟩
    · have := h0 b (q ▸ e); omega
    · rw [q] at e; have := Option.some.inj e; omega
  have row1 : RowQ w1 (fun g => z + 3 ≤ g ∧ v1.ownBlock ≠ some g) (z + 3) d u es (tsA d ns0 ts j) := T.row.on hsz1 (fun b hb hl => ⟨hb.1, fun e => by
      rcases hvb with h | ⟨g', h, h'⟩
      · exact hb.2 (h ▸ e)
      · rw [h] at e; have := Option.some.inj e; omega⟩) fun b hb hl => hgr.block b hl fun e => hb.2 e.symm
  have rowU : RowQ U (fun g => z + 3 ≤ g ∧ v1.ownBlock ≠ some g) (z + 3) d u es (tsA d ns0 ts j) := row1.on (by omega) (fun b hb _ => hb) fun b _ hl => hUb b hl
  have heU : TyS U (fun g => (z + 3 ≤ g ∧ v1.ownBlock ≠ some g) ∧ g < U.heap.size ∧ u.ownBlock ≠ some g) d (elV (kd, nm, .slice ad len cap)) t1 := by
    refine TyS.on (S := fun g => wr.heap.size ≤ g ∧ g < w1.heap.size ∧ v1.ownBlock ≠ some g) (fun b q => ⟨⟨by omega, q.2.2⟩, by omega, ?side⟩) (fun b q => hUb b q.2.1) d _ t1 hT
    intro e
    have := (hult b e).2
    omega
  have row5 := rowU.snoc (e := (kd, nm, .slice ad len cap)) (t := t1) (o := o') heU (fun b hb => ⟨by omega, fun e => by have := (hlt1 b e).2; omega⟩) (v' := .slice (some ⟨g, 0, none⟩) (es.length + 1) cap') hown1 hg (by
    rcases hat with h | h
    · exact .inl h.symm
    · exact .inr ⟨g, rfl, by omega⟩)
  have h5 : ∀ b, b < w1.heap.size → u.ownBlock ≠ some b → w5.heap[b]? = w1.heap[b]? := fun b hb hne => by
    rw [hg.block b (by simp; omega) (fun e => hne e.symm), Below.heap_alloc _ _ _ (by omega)]
    exact hUb b hb
  have hu3 : ∀ b, b < z + 3 → u.ownBlock ≠ some b := fun b hb e => by have := (hult b e).1; omega
  have hset : ∀ b, b ≠ z + 2 → (w5.setCell ⟨z + 2, 2, none⟩ (.slice (some ⟨g, 0, none⟩) (es.length + 1) cap')).heap[b]? = w5.heap[b]? := fun b hb => Below.heap_setCell _ _ _ _ hb
  have low : ∀ b, z ≤ b → b < z + 3 → w5.heap[b]? = wr.heap[b]? := fun b h1 h2 => (h5 b (by omega) (hu3 b h2)).trans (hgr.block b (by omega) fun e => hv b h1 h2 e.symm)
  have hns : nsA d ns0 ts (j + 1) = ns1 := by
    show (namedArgs (namedT d) ns0 (ts.take (j + 1))).1 = _
    rw [take_next ts j hj, namedArgs_snoc]
    exact congrArg Prod.fst hR
  have hts : tsA d ns0 ts (j + 1) = tsA d ns0 ts j ++ [t1] := by
    show (namedArgs (namedT d) ns0 (ts.take (j + 1))).2 = _
    rw [take_next ts j hj, namedArgs_snoc]
    exact congrArg (fun q => tsA d ns0 ts j ++ [q]) (congrArg Prod.snd hR)
  refine ⟨⟨?_, ?_, ?_, ?_, fun b hb hne => ?_⟩, ?_, ?_, ?_, ?_, ?_, ?_⟩
  · show w5.os = _
    rw [hg.os, hU]; exact hgr.os.trans T.gr.os
  · show w5.tape = _
    rw [hg.tape, hU]; exact hgr.tape.trans T.gr.tape
  · show w5.output = _
    rw [hg.output, hU]; exact hgr.output.trans T.gr.output
  · have : (w5.setCell ⟨z + 2, 2, none⟩ (.slice (some ⟨g, 0, none⟩) (es.length + 1) cap')).heap.size = w5.heap.size := by simp [World.setCell]
    omega
  · rw [hset b (by omega), h5 b (by omega) (hu3 b (by omega)), hgr.block b (by omega) fun e => ?_]
    · exact T.gr.block b hb hne
    · rcases T.vb with q | ⟨g', q, q'⟩
      · exact hne (e.trans q)
      · rw [q] at e; have := Option.some.inj e; omega
  · rw [hset z (by omega), low z (by omega) (by omega)]; exact T.arg
  · rw [hset (z + 1) (by omega), low (z + 1) (by omega) (by omega)]; exact T.res
  · exact (setCell_block ((low (z + 2) (by omega) (by omega)).trans T.box)).trans rfl
  · rw [hns]
    refine own_move hown fun b hb => ?_
    rw [hset b (fun e => hv1 b (by omega) (by omega) hb)]
    exact h5 b (hlt1 b hb).2 fun e => (row1.ap b e).2 hb
  · rcases hvb with h | ⟨g', h, h'⟩
    · rw [h]; exact T.vb
    · exact .inr ⟨g', h, by omega⟩
  · rw [hts]
    exact row5.on (by simp [World.setCell]) (fun b hb _ => hb) fun b hb _ => hset b (by omega)
end Go.Proofs.YthcejnpknjepfaaGreatDoor

namespace Go.Proofs.YthcejnpknjepfaaGreatDoor
open Go.RowKit

theorem flats_take {d : Nat} : ∀ (ts : List (Tn d)) (j : Nat) (h : j < ts.length), (flats d (ts.take j)).length + (flat d ts[j]).length ≤ (flats d ts).length
  | [], _, h => by simp at h
  | t :: ts, 0, _ => by rw [flats_cons, List.length_append]; simp [flats_nil]
  | t :: ts, j + 1, h => by
    have hj : j < ts.length := by simpa using h
    have := flats_take ts j hj
    rw [List.take_succ_cons, flats_cons, flats_cons, List.length_append, List.length_append]
    show _ + (flat d ts[j]).length ≤ _
    omega
/-- What is asked of named at depth d. -/
def NamedC (d : Nat) : Prop := ∀ (v x : Value) (t : Tn d) (ns : Nms) (w : World) (B lo : Nat), B ≤ lo → lo ≤ w.heap.size → TyAt w B d x t → formB d t = true → w.ownsRow lo 53 4 v ns.length (bdCells 0 ns) → ns.length + (flat d t).length ≤ 500 → Calls Tryz.prog 27 #[v, x] w (NmPost w lo v d (namedT d ns t))
theorem grown_below {w w' : World} {B : Nat} {row : Option Nat} (h : w.grownBy w' row) (hB : B ≤ w.heap.size) (hr : ∀ g, row = some g → B ≤ g) : Below B w w' := ⟨h.os, h.tape, h.output, h.size, fun k hk => h.block k (by omega) fun e => by have := hr k e.symm; omega⟩
set_option maxHeartbeats 8000000 in
set_option maxRecDepth 10000 in
theorem named_row (d : Nat) (IH : NamedC d) (v : Value) (k : Int) (n : List UInt8) (ts : List (Tn d)) (ad : Option Addr) (cap : Nat) (ns : Nms) (w : World) (B lo : Nat) (hBl : B ≤ lo) (hlo : lo ≤ w.heap.size) (hk : ¬ k = 2) (hnl : n.length < 140737488355328) (h6 : ts.length ≤ 500)
    (hrow : ts ≠ [] → ∃ g o, ad = some ⟨g, o, none⟩ ∧ ts.length ≤ cap ∧ g < B ∧ ∀ j (h : j < ts.length), ∃ k n ad' len' cap', (∀ w', Below B w w' → w'.cell? ⟨g, o + j * 3, none⟩ = some (.int .i64 k) ∧ w'.cell? ⟨g, o + j * 3 + 1, none⟩ = some (.string n) ∧ w'.cell? ⟨g, o + j * 3 + 2, none⟩ = some (.slice ad' len' cap')) ∧ TyAt w B d (.agg #[.int .i64 k, .string n, .slice ad' len' cap']) ts[j])
    (hF : ∀ a ∈ ts, formB d a = true) (h : w.ownsRow lo 53 4 v ns.length (bdCells 0 ns)) (hN : ns.length + (flats d ts).length + 1 ≤ 500) :
    Calls Tryz.prog 27 #[v, .agg #[.int .i64 k, strV n, .slice ad ts.length cap]] w (NmPost w lo v (d + 1) ((namedArgs (namedT d) ns ts).1, ((k, n), (namedArgs (namedT d) ns ts).2))) := by
  have h0 : ∀ g, v.ownBlock = some g → g < w.heap.size := fun g hg => (h.lt g hg).2
  have T0 : NmW w (((w.alloc (Obj.cells #[.int .i64 k, strV n, .slice ad ts.length cap] 24)).alloc (Obj.cells #[.int .i64 0, .string ⟨#[]⟩, .slice none 0 0] 24)).alloc (Obj.cells #[.int .i64 k, .string ⟨n.toArray⟩, .slice none 0 0] 24)) w.heap.size lo d k n v.ownBlock (.slice ad ts.length cap) ns ts 0 v (.slice none 0 0) [] := by
    refine ⟨below_grown ((((Below.refl _ _).alloc (Nat.le_refl _) _).alloc (by simp) _).alloc (by simp; omega) _) _, ?_, ?_, ?_, ((h.alloc _).alloc _).alloc _, .inl rfl, RowQ.nil _ _ _ _⟩
    · rw [Below.heap_alloc _ _ _ (by simp; omega), Below.heap_alloc _ _ _ (by simp)]
      show (w.heap.push _)[w.heap.size]? = _
      simp
    · rw [Below.heap_alloc _ _ _ (by simp)]
      show ((w.heap.push _).push _)[w.heap.size + 1]? = _
      rw [Array.getElem?_push, if_pos (by simp)]
    · show (((w.heap.push _).push _).push _)[w.heap.size + 2]? = _
      rw [Array.getElem?_push, if_pos (by simp)]
  have HR : Hid (ts ≠ [] → ∃ g o, ad = some ⟨g, o, none⟩ ∧ ts.length ≤ cap ∧ g < B ∧ ∀ j (h : j < ts.length), ∃ k n ad' len' cap', (∀ w', Below B w w' → w'.cell? ⟨g, o + j * 3, none⟩ = some (.int .i64 k) ∧ w'.cell? ⟨g, o + j * 3 + 1, none⟩ = some (.string n) ∧ w'.cell? ⟨g, o + j * 3 + 2, none⟩ = some (.slice ad' len' cap')) ∧ TyAt w B d (.agg #[.int .i64 k, .string n, .slice ad' len' cap']) ts[j]) := hrow
  have HF : Hid (∀ a ∈ ts, formB d a = true) := hF
  have HN : Hid (ns.length + (flats d ts).length + 1 ≤ 500) := hN
  have HL : Hid (B ≤ lo ∧ lo ≤ w.heap.size) := ⟨hBl, hlo⟩
  have H0 : Hid (∀ g, v.ownBlock = some g → g < w.heap.size ∧ lo ≤ g) := fun g hg => ⟨h0 g hg, (h.lt g hg).1⟩
  have HNL : Hid (n.length < 140737488355328) := hnl
  have hkb : (k == 2) = false := by simpa using hk
  have HI : Hid (NamedC d) := IH
  clear hrow hF hN hBl hlo h h0 hnl IH
  go_enter Tryz.func27, Tryz.ntmps27
  go_wp2
  generalize hz : w.heap.size = z at T0 ⊢
  have HZ : Hid (w.heap.size = z) := hz
  generalize ((w.alloc (Obj.cells #[.int .i64 k, strV n, .slice ad ts.length cap] 24)).alloc (Obj.cells #[.int .i64 0, .string ⟨#[]⟩, .slice none 0 0] 24)).alloc (Obj.cells #[.int .i64 k, .string ⟨n.toArray⟩, .slice none 0 0] 24) = W0 at T0 ⊢
  obtain ⟨i0, hi, hz0, hz1, hz2⟩ := info_parts Tryz.info24
  clear hz
  go_loopw [0, 9] (fun l i wr => ∃ (j : Nat) (u : Value) (es : List El), j ≤ ts.length ∧ i = .int .i64 j ∧ Hid (NmW w wr z lo d k n v.ownBlock (.slice ad ts.length cap) ns ts j l u es)) (fun _ i _ => ts.length - (intOf i).toNat)
  case atStart => exact ⟨0, _, _, by omega, by go_num, T0⟩
  case round =>
    obtain ⟨j, u, es, hj, rfl, HT⟩ := hrel
    have T := HT.out
    obtain ⟨x0, x1, x2⟩ := heap_cells T.arg
    obtain ⟨y0, y1, y2⟩ := heap_cells T.box
    have hbz := heap_lt T.box
    obtain ⟨va, nl, vc, HNl, hu0⟩ : ∃ va nl vc, Hid (nl = (nsA d ns ts j).length) ∧ u0 = .slice va nl vc := by
      rcases T.own.2 with ⟨h1, h2⟩ | ⟨g', cap', cur, h1, _⟩
      · exact ⟨none, 0, 0, h2.symm, h1⟩
      · exact ⟨_, _, _, rfl, h1⟩
    obtain ⟨ua, uc, hu⟩ : ∃ ua uc, u = .slice ua es.length uc := by
      rcases T.row.own.2 with ⟨h1, h2⟩ | ⟨g', cap', cur, h1, _⟩
      · exact ⟨none, 0, by rw [h1, h2]⟩
      · exact ⟨_, _, h1⟩
    subst hu0 hu
    have hej : es.length = j := by
      rw [T.row.len]
      show (namedArgs (namedT d) ns (ts.take j)).2.length = j
      rw [namedArgs_two, List.length_take]
      omega
    have hel : es.length ≤ 500 := by omega
    by_cases hlt : j < ts.length
    · obtain ⟨g, o, had, _, _, hels⟩ := HR.out (by intro e; rw [e] at hlt; simp at hlt)
      obtain ⟨k1, n1, ad1, l1, cp1, hcel, T1⟩ := hels j hlt
      have hL := HL.out
      have hbB : Below B w wr := grown_below T.gr (by omega) fun b hb => by have := (H0.out b hb).2; omega
      obtain ⟨p0, p1, p2⟩ := hcel wr hbB
      rw [had] at x2
      have hwr : lo ≤ wr.heap.size := by have := T.gr.size; omega
      have CJ' := HI.out _ _ ts[j] (nsA d ns ts j) wr B lo hL.1 hwr (T1.on hbB) (HF.out _ (List.getElem_mem hlt)) T.own (by
        have h1 := namedArgs_len (namedT d) (namedT_len d) (ts.take j) ns
        have h2 := flats_take ts j hlt
        have h3 := HN.out
        show (namedArgs (namedT d) ns (ts.take j)).1.length + _ ≤ 500
        omega)
      generalize hR : namedT d (nsA d ns ts j) ts[j] = R at CJ'
      obtain ⟨ns1, t1⟩ := R
      have HRR : Hid (namedT d (nsA d ns ts j) ts[j] = (ns1, t1)) := hR
      have CJ : Calls Tryz.prog 27 #[.slice va nl vc, .agg #[.int .i64 k1, .string n1, .slice ad1 l1 cp1]] wr fun r w1 => ∃ (a1 : Option Addr) (c1 : Nat) (kd : Int) (nm : ByteArray) (ad2 : Option Addr) (len2 cap2 : Nat), r = .returned (.tuple #[.slice a1 ns1.length c1, .agg #[.int .i64 kd, .string nm, .slice ad2 len2 cap2]]) ∧
          Hid (w1.ownsRow lo 53 4 (.slice a1 ns1.length c1) ns1.length (bdCells 0 ns1)) ∧ Hid (wr.grownBy w1 (Value.slice va nl vc).ownBlock) ∧ Hid ((Value.slice a1 ns1.length c1).ownBlock = (Value.slice va nl vc).ownBlock ∨ ∃ g, (Value.slice a1 ns1.length c1).ownBlock = some g ∧ wr.heap.size ≤ g) ∧
          Hid (TyS w1 (fun g => wr.heap.size ≤ g ∧ g < w1.heap.size ∧ (Value.slice a1 ns1.length c1).ownBlock ≠ some g) d (.agg #[.int .i64 kd, .string nm, .slice ad2 len2 cap2]) t1) := CJ'
      have i1 : (0 : Int) ≤ (j : Int) := by omega
      have i2 : (j : Int) < (ts.length : Int) := by omega
      have hjl : j + 1 ≤ ts.length := hlt
      have HLt : Hid (j < ts.length) := hlt
      have HBox : Hid (wr.heap[z + 2]? = some (.cells #[.int .i64 k, .string ⟨n.toArray⟩, .slice ua es.length uc] 24 (0, 0))) := T.box
      have HOwn : Hid (wr.ownsRow (z + 3) 24 3 (.slice ua es.length uc) es.length (es.flatMap elCells)) := T.row.own
      have HAp : Hid (∀ b, (Value.slice ua es.length uc).ownBlock = some b → z + 3 ≤ b ∧ (Value.slice va nl vc).ownBlock ≠ some b) := T.row.ap
      have HVb : Hid (∀ b, z ≤ b → b < z + 3 → (Value.slice va nl vc).ownBlock ≠ some b) := fun b h1 h2 e => by
        rcases T.vb with q | ⟨g', q, q'⟩
        · have := (H0.out b (q ▸ e)).1; have := HZ.out; omega
        · rw [q] at e; have := Option.some.inj e; omega
      have HEJ : Hid (es.length = j) := hej
      clear CJ' hR T1 T hels hcel T0 had hbB y0 y1 hej hL hwr
      go_upto_region 13 with (go_at_call 27; (with_reducible refine Calls.mono CJ ?_); intro e' w1 hpost; obtain ⟨a1, c1, kd, nm, ad2, len2, cap2, rfl, hown1, hgr1, hvb1, hT1⟩ := hpost)
      obtain ⟨U, hU, hbU, hsU, c0', c1', c2'⟩ := cells_box w1 (.int .i64 kd) (.string nm) (.slice ad2 len2 cap2) 24
      rw [← hU]
      have HUe : Hid (U = w1.alloc (Obj.cells #[.int .i64 kd, .string nm, .slice ad2 len2 cap2] 24)) := hU
      have hs1 := hgr1.out.size
      have boxU : U.heap[z + 2]? = some (.cells #[.int .i64 k, .string ⟨n.toArray⟩, .slice ua es.length uc] 24 (0, 0)) := by
        rw [hU, Below.heap_alloc _ _ _ (by omega), hgr1.out.block (z + 2) (by omega) fun e => HVb.out (z + 2) (by omega) (by omega) e.symm]
        exact HBox.out
      have ownU : U.ownsRow (z + 3) 24 3 (.slice ua es.length uc) es.length (es.flatMap elCells) := own_move HOwn.out fun b hb => by
        have := (HOwn.out.lt b hb).2
        rw [hU, Below.heap_alloc _ _ _ (by omega)]
        exact hgr1.out.block b (by omega) fun e => (HAp.out b hb).2 e.symm
      have w2 := (heap_cells boxU).2.2
      have hzU : z + 3 ≤ U.heap.size := by omega
      generalize hq1 : w1.heap.size = q1 at c0' c1' c2' ⊢
      have hq1U : q1 < U.heap.size := by omega
      clear hU hsU hbU CJ x0 x1 x2 y2 p0 p1 p2 hq1 hs1
      go_wp2_with (at_builtin; refine wpList_append_lies _ rfl _ _ 22 rfl (z + 3) 24 i0 _ 3 48 Tryz.underlying22 hi hz0 hz1 hz2 rfl (by decide) (.slice ua es.length uc) es.length (es.flatMap elCells) rfl (ownU.alloc _) ⟨U.heap.size, 0, none⟩ 1 1 [.int .i64 kd, .string nm, .slice ad2 len2 cap2] rfl rfl (World.news_of_block (cs := #[.int .i64 kd, .string nm, .slice ad2 len2 cap2]) (t := 24) (fr := (0, 0)) (heap_alloc_new U _)) (by simp [Value.oneCell']) (by omega) (by unfold maxLen; omega) (by omega) (by simp; omega) (U.heap.size + 1) (by simp) ?_; intro g' cap' w5 hown5 hgrow hat hlt5; have b5 : w5.heap[z + 2]? = some (.cells #[.int .i64 k, .string ⟨n.toArray⟩, .slice ua es.length uc] 24 (0, 0)) := (hgrow.block (z + 2) (by simp; omega) (fun e => by have := (ownU.lt _ e.symm).1; omega)).trans ((Below.heap_alloc _ _ _ (by omega)).trans boxU); have c5 := (heap_cells b5).2.2; have f5 := heap_frozen (o := 2) b5)
      have T2 := HT.out.more HZ.out (fun b hb => by have := (H0.out b hb).1; have := HZ.out; omega) HLt.out HRR.out hown1.out hgr1.out hvb1.out hT1.out HUe.out hown5 hgrow (by simpa using hat)
      go_roundw
      case rel => exact ⟨j + 1, _, _, hjl, by go_num, T2⟩
      case measure => simp [intOf]; omega
    · have hjt : j = ts.length := by omega
      obtain ⟨r0, r1, r2⟩ := heap_cells T.res
      have g0 := heap_frozen (o := 0) T.res
      have g1 := heap_frozen (o := 1) T.res
      have g2 := heap_frozen (o := 2) T.res
      have HJT : Hid (j = ts.length) := hjt
      have h1 : ¬ (j : Int) < (ts.length : Int) := by omega
      clear T hjt T0 hej hlt hj
      go_upto_region 15 with fail
      go_region
      go_wp2
      have T := HT.out
      obtain ⟨W', hW', hz', hoth, hsz, hbz'⟩ := store3 T.res (.int .i64 k) (strV n) (.slice ua es.length uc)
      rw [← hW']
      obtain ⟨s0, s1, s2⟩ := heap_cells hz'
      refine bodyPost_ret (v := .tuple #[.slice va nl vc, .agg #[.int .i64 k, strV n, .slice ua es.length uc]]) (by simp [results, Tryz.results27, go_sem, s0, s1, s2]) rfl ?_
      have hzz := HZ.out
      have hns : nsA d ns ts j = (namedArgs (namedT d) ns ts).1 := by
        show (namedArgs (namedT d) ns (ts.take j)).1 = _
        rw [List.take_of_length_le (by have := HJT.out; omega)]
      have hts : tsA d ns ts j = (namedArgs (namedT d) ns ts).2 := by
        show (namedArgs (namedT d) ns (ts.take j)).2 = _
        rw [List.take_of_length_le (by have := HJT.out; omega)]
      have hnl : nl = (namedArgs (namedT d) ns ts).1.length := by rw [← hns]; exact HNl.out
      have hown := T.own
      have hrow := T.row
      rw [hns] at hown
      rw [hts] at hrow
      have hgr : w.grownBy W' v.ownBlock := ⟨hbz'.os.trans T.gr.os, hbz'.tape.trans T.gr.tape, hbz'.output.trans T.gr.output, by have := T.gr.size; omega, fun b hb hne => (hoth b (by omega)).trans (T.gr.block b hb hne)⟩
      have hvz : ∀ b, (Value.slice va nl vc).ownBlock = some b → b ≠ z + 1 := fun b e => by
        rcases T.vb with q | ⟨g', q, q'⟩
        · have := (H0.out b (q ▸ e)).1; omega
        · rw [q] at e; have := Option.some.inj e; omega
      have hlen2 : (namedArgs (namedT d) ns ts).2.length = ts.length := namedArgs_two _ _ _
      subst hnl
      refine ⟨va, vc, k, ⟨n.toArray⟩, ua, es.length, uc, rfl, own_move hown fun b hb => hoth b (hvz b hb), grownBy_drew' hgr, ?_, ?_⟩
      · rcases T.vb with q | ⟨g', q, q'⟩
        · exact .inl q
        · exact .inr ⟨g', q, by omega⟩
      · refine TyS.on (w' := W'.drew) (S' := fun g => w.heap.size ≤ g ∧ g < W'.drew.heap.size ∧ (Value.slice va (namedArgs (namedT d) ns ts).1.length vc).ownBlock ≠ some g) (S := fun g => (z + 3 ≤ g ∧ (Value.slice va (namedArgs (namedT d) ns ts).1.length vc).ownBlock ≠ some g) ∧ g < wr.heap.size) (fun b q => ⟨by omega, by show b < W'.heap.size; omega, q.1.2⟩) (fun b q => hoth b (by omega)) _ _ _ (hrow.tree k n HNL.out (by omega))
theorem named_any : ∀ d, NamedC d
  | 0 => fun _ _ t _ _ _ _ _ _ h => h.elim
  | d + 1 => fun v x t ns w B lo hBl hlo h hF hown hN => by
    obtain ⟨v1, hx, h1, h2, hr⟩ := h
    obtain ⟨ad, cap, rfl, hrow⟩ := hr.cells
    obtain ⟨⟨k, n⟩, ts⟩ := t
    simp only at hx h1 h2 hrow
    subst hx
    rw [flat_succ] at hN
    by_cases hk : k = 2
    · subst hk
      have hts : ts = [] := by
        rcases form_cases hF with e | ⟨n', _, e⟩ | ⟨a, b, _, _, e⟩ | ⟨n', ts', _, _, _, e⟩
        · exact congrArg Prod.snd e
        · exact congrArg Prod.snd e
        · have := congrArg (fun q => q.1.1) e; simp at this
        · have := congrArg (fun q => q.1.1) e; simp at this
      subst hts
      have hl : ns.length ≤ 500 := by simp at hN; omega
      rw [namedT, if_pos rfl]
      by_cases hi : idxN ns n < ns.length
      · rw [if_pos hi]
        exact named_old d lo v ns n ad cap w hown hl hi
      · rw [if_neg hi]
        exact named_new d lo v ns n ad cap w hown hlo hl hi
    · rw [namedT, if_neg hk]
      have hN' : ns.length + (flats d ts).length + 1 ≤ 500 := by simp at hN; omega
      have hts : (∀ a ∈ ts, formB d a = true) ∧ ts.length ≤ 500 := by
        rcases form_cases hF with e | ⟨n', _, e⟩ | ⟨a, b, ha, hb, e⟩ | ⟨n', ts', _, h6, hts, e⟩
        · have e := congrArg Prod.snd e; simp only at e; subst e; simp
        · have := congrArg (fun q => q.1.1) e; exact absurd this hk
        · have e := congrArg Prod.snd e; simp only at e; subst e; simp [ha, hb]
        · have e := congrArg Prod.snd e; simp only at e; subst e; exact ⟨hts, by omega⟩
      exact named_row d (named_any d) v k n ts ad cap ns w B lo hBl hlo hk h1 hts.2 hrow hts.1 hown hN'
end Go.Proofs.YthcejnpknjepfaaGreatDoor

namespace Go.Proofs.YthcejnpknjepfaaGreatDoor
open Go.RowKit

def canonT (d : Nat) (t : Tn d) : Tn d := (namedT d [] t).2
/-- What Canon answers. -/
def CanonPost (w : World) (d : Nat) (t : Tn d) (r : Ending) (w' : World) : Prop :=
  Below w.heap.size w w' ∧ ∃ (kd : Int) (nm : ByteArray) (ad : Option Addr) (len cap : Nat), r = .returned (.tuple #[.agg #[.int .i64 kd, .string nm, .slice ad len cap], .int .i64 (wrongT d t)]) ∧
    ((wrongT d t ≠ 0 ∧ kd = 0 ∧ nm = ⟨#[]⟩ ∧ ad = none ∧ len = 0 ∧ cap = 0) ∨ (wrongT d t = 0 ∧ TyS w' (fun g => w.heap.size ≤ g ∧ g < w'.heap.size) d (.agg #[.int .i64 kd, .string nm, .slice ad len cap]) (canonT d t)))
set_option maxHeartbeats 8000000 in
set_option maxRecDepth 10000 in
theorem canon_ref (d : Nat) (x : Value) (t : Tn d) (w : World) (B : Nat) (hB : B ≤ w.heap.size) (h : TyAt w B d x t) (hN : (flat d t).length ≤ 4194304) :
    Calls Tryz.prog 8 #[x] w (CanonPost w d t) := by
  have CW := fun W (hb : Below w.heap.size w W) => wrong_any _ x t W B (Nat.le_trans hB hb.size) (h.on (hb.mono hB)) hN
  have CN := fun W (hb : Below w.heap.size w W) (h0 : wrongT _ t = 0) => named_any d (.slice none 0 0) x t [] W B W.heap.size (Nat.le_trans hB hb.size) (Nat.le_refl _) (h.on (hb.mono hB)) (wrong_zero h0).1 (World.ownsRow_nil _ _ _ _) (by have := (wrong_zero h0).2; simpa using this)
  obtain ⟨d, rfl⟩ : ∃ e, d = e + 1 := by
    cases d with
    | zero => exact h.elim
    | succ e => exact ⟨e, rfl⟩
  have hWR := wrong_range _ t
  unfold CanonPost
  generalize hw0 : wrongT (d + 1) t = e0 at CW CN hWR ⊢
  clear hw0
  obtain ⟨v, hx, h1, h2, hr⟩ := h
  subst hx
  obtain ⟨ad, cap, rfl⟩ := hr.len
  generalize t.1.1 = k at *
  generalize t.1.2 = n at *
  generalize t.2.length = len at *
  clear hr
  have hEX : ∃ W, W = (w.alloc (Obj.cells #[.int .i64 k, .string ⟨n.toArray⟩, .slice ad len cap] 24)).alloc (Obj.cells #[.int .i64 0, .string ⟨#[]⟩, .slice none 0 0] 24) := ⟨_, rfl⟩
  obtain ⟨W, hW⟩ := hEX
  have hbW : Below w.heap.size w W := by rw [hW]; exact ((Below.refl _ _).alloc (Nat.le_refl _) _).alloc (by simp) _
  have hsW : W.heap.size = w.heap.size + 2 := by rw [hW]; simp
  have arg : W.heap[w.heap.size]? = some (.cells #[.int .i64 k, .string ⟨n.toArray⟩, .slice ad len cap] 24 (0, 0)) := by
    rw [hW, Below.heap_alloc _ _ _ (by simp)]
    show (w.heap.push _)[w.heap.size]? = _
    simp
  have res : W.heap[w.heap.size + 1]? = some (.cells #[.int .i64 0, .string ⟨#[]⟩, .slice none 0 0] 24 (0, 0)) := by
    rw [hW]
    show ((w.heap.push _).push _)[w.heap.size + 1]? = _
    rw [Array.getElem?_push, if_pos (by simp)]
  have CW1 := CW W hbW
  have HX : Hid (∀ w1, Below W.heap.size W w1 → Below w.heap.size w w1) := fun w1 h1 => hbW.trans (h1.mono (by omega))
  have CN1 := fun w1 (hb : Below W.heap.size W w1) (h0 : e0 = 0) => CN w1 (HX.out w1 hb) h0
  have HS : Hid (W.heap.size = w.heap.size + 2) := hsW
  have HB : Hid (Below w.heap.size w W) := hbW
  obtain ⟨x0, x1, x2⟩ := heap_cells arg
  clear CW CN hbW hsW hB hN
  rcases hWR with rfl | hne
  · have CN2 : ∀ w1, Below W.heap.size W w1 → Calls Tryz.prog 27 #[.slice none 0 0, .agg #[.int .i64 k, .string ⟨n.toArray⟩, .slice ad len cap]] w1 fun r w2 => ∃ (a1 : Option Addr) (c1 : Nat) (kd : Int) (nm : ByteArray) (ad2 : Option Addr) (len2 cap2 : Nat), r = .returned (.tuple #[.slice a1 (namedT (d + 1) [] t).1.length c1, .agg #[.int .i64 kd, .string nm, .slice ad2 len2 cap2]]) ∧
        Hid (w1.grownBy w2 none) ∧ Hid (TyS w2 (fun g => w1.heap.size ≤ g ∧ g < w2.heap.size) (d + 1) (.agg #[.int .i64 kd, .string nm, .slice ad2 len2 cap2]) (canonT (d + 1) t)) := fun w1 hb => by
      refine Calls.mono (CN1 w1 hb rfl) ?_
      rintro e' w2 ⟨a1, c1, kd, nm, ad2, len2, cap2, rfl, _, hg, _, hT⟩
      exact ⟨a1, c1, kd, nm, ad2, len2, cap2, rfl, hg, TyS.on (fun g q => ⟨q.1, q.2.1⟩) (fun _ _ => rfl) _ _ _ hT⟩
    generalize (namedT (d + 1) [] t).1.length = nl at CN2
    clear CN1
    go_enter Tryz.func8, Tryz.ntmps8
    go_upto_region 1 with fail
    rw [← hW]
    generalize hz : w.heap.size = z at x0 x1 x2 arg res ⊢
    have HZ : Hid (w.heap.size = z) := hz
    have HR : Hid (W.heap[z + 1]? = some (.cells #[.int .i64 0, .string ⟨#[]⟩, .slice none 0 0] 24 (0, 0))) := res
    have X1 : ∀ w1, Below W.heap.size W w1 → w1.cell? ⟨z, 0, none⟩ = some (.int .i64 k) ∧ w1.cell? ⟨z, 1, none⟩ = some (.string ⟨n.toArray⟩) ∧ w1.cell? ⟨z, 2, none⟩ = some (.slice ad len cap) := fun w1 hb => by
      have hzz := HZ.out
      have hss := HS.out
      exact ⟨(hb.cell (by simp; omega)).trans x0, (hb.cell (by simp; omega)).trans x1, (hb.cell (by simp; omega)).trans x2⟩
    clear hW hz arg res
    go_upto_region 5 with (first
      | (go_at_call 26; (with_reducible refine Calls.mono CW1 ?_); rintro e' w1 ⟨rfl, hb1⟩; obtain ⟨y0, y1, y2⟩ := X1 w1 hb1)
      | (go_at_call 27; (with_reducible refine Calls.mono (CN2 _ hb1) ?_); intro e' w2 hpost; obtain ⟨a1, c1, kd, nm, ad2, len2, cap2, rfl, hg2, hT2⟩ := hpost))
    obtain ⟨U, hU, hbU, hsU, c0', c1', c2'⟩ := cells_box w2 (.int .i64 kd) (.string nm) (.slice ad2 len2 cap2) 24
    rw [← hU]
    have hzz := HZ.out
    have hss := HS.out
    have hs1 := hb1.size
    have hs2 := hg2.out.size
    have resU : U.heap[z + 1]? = some (.cells #[.int .i64 0, .string ⟨#[]⟩, .slice none 0 0] 24 (0, 0)) := by
      rw [hU, Below.heap_alloc _ _ _ (by omega), hg2.out.block (z + 1) (by omega) (by simp), hb1.block (z + 1) (by omega)]
      exact HR.out
    have HBU : Hid (Below w.heap.size w U) := by
      have h12 : Below w1.heap.size w1 w2 := grown_below hg2.out (Nat.le_refl _) (by simp)
      exact (HX.out w1 hb1).trans ((h12.trans (hbU.mono hs2)).mono (by omega))
    have HTU : Hid (TyS U (fun g => z + 2 ≤ g ∧ g < U.heap.size) (d + 1) (.agg #[.int .i64 kd, .string nm, .slice ad2 len2 cap2]) (canonT (d + 1) t)) :=
      TyS.on (S := fun g => w1.heap.size ≤ g ∧ g < w2.heap.size) (fun g q => ⟨by omega, by omega⟩) (fun g q => hbU.block g q.2) _ _ _ hT2.out
    obtain ⟨r0, r1, r2⟩ := heap_cells resU
    have g0 := heap_frozen (o := 0) resU
    have g1 := heap_frozen (o := 1) resU
    have g2 := heap_frozen (o := 2) resU
    generalize hq1 : w2.heap.size = q1 at c0' c1' c2' ⊢
    clear hU hsU hbU CN2 CW1 hq1 hs1 hs2 hzz hss X1 hb1
    go_wp2
    obtain ⟨W', hW', hz', hoth, hsz, hbz'⟩ := store3 resU (.int .i64 kd) (.string nm) (.slice ad2 len2 cap2)
    rw [← hW']
    obtain ⟨s0, s1, s2⟩ := heap_cells hz'
    refine bodyPost_ret (v := .tuple #[.agg #[.int .i64 kd, .string nm, .slice ad2 len2 cap2], .int .i64 0]) (by simp [results, Tryz.results8, go_sem, s0, s1, s2]) rfl ?_
    have hzz := HZ.out
    refine ⟨HBU.out.trans (hbz'.mono (by omega)), kd, nm, ad2, len2, cap2, rfl, .inr ⟨by trivial, ?_⟩⟩
    exact TyS.on (S := fun g => z + 2 ≤ g ∧ g < U.heap.size) (fun g q => ⟨by omega, by omega⟩) (fun g q => hoth g (by omega)) _ _ _ HTU.out
  · have hne0 : e0 ≠ 0 := by omega
    have hneb : (e0 != 0) = true := by simpa using hne0
    have HNE : Hid (e0 ≠ 0) := hne0
    clear CN1 hne hne0
    go_enter Tryz.func8, Tryz.ntmps8
    go_upto_region 1 with fail
    rw [← hW]
    generalize hz : w.heap.size = z at x0 x1 x2 arg res ⊢
    have HZ : Hid (w.heap.size = z) := hz
    clear hW hz arg
    go_upto_region 3 with (go_at_call 26; (with_reducible refine Calls.mono CW1 ?_); rintro e' w1 ⟨rfl, hb1⟩)
    have hzz := HZ.out
    have hss := HS.out
    have res1 : w1.heap[z + 1]? = some (.cells #[.int .i64 0, .string ⟨#[]⟩, .slice none 0 0] 24 (0, 0)) := (hb1.block (z + 1) (by omega)).trans res
    obtain ⟨r0, r1, r2⟩ := heap_cells res1
    have g0 := heap_frozen (o := 0) res1
    have g1 := heap_frozen (o := 1) res1
    have g2 := heap_frozen (o := 2) res1
    have HB1 : Hid (Below w.heap.size w w1) := HX.out w1 hb1
    clear hzz hss hb1 CW1
    go_wp2
    obtain ⟨W', hW', hz', hoth, hsz, hbz'⟩ := store3 res1 (.int .i64 0) (.string ⟨#[]⟩) (.slice none 0 0)
    rw [← hW']
    obtain ⟨s0, s1, s2⟩ := heap_cells hz'
    refine bodyPost_ret (v := .tuple #[.agg #[.int .i64 0, .string ⟨#[]⟩, .slice none 0 0], .int .i64 e0]) (by simp [results, Tryz.results8, go_sem, s0, s1, s2]) rfl ?_
    have hzz := HZ.out
    exact ⟨HB1.out.trans (hbz'.mono (by omega)), 0, ⟨#[]⟩, none, 0, 0, rfl, .inl ⟨HNE.out, rfl, rfl, rfl, rfl, rfl⟩⟩
end Go.Proofs.YthcejnpknjepfaaGreatDoor
