/- What holds of memory between the steps of owned. Types that are their owner's, list by list; lists: all lists within a type. -/
import Derived.Test.YtgdflaapgfpdeaaGreatDoorSo
import Derived.Test.YtgdflaapgfpdeaaGreatDoorMnx
import Derived.Test.YtgdflaapgfpdeaaGreatDoorMjx
import Derived.Test.YtgdflaapgfpdeaaGreatDoorMlx
namespace Go.Proofs.YtgdflaapgfpdeaaGreatDoor
open Go.RowKit

/-- While the rows are written full. -/
structure PhA (w W : World) (lo R N : Nat) (V : Nat → Value) (n : Nat → Nat) (i : Nat) (f : Fm) : Prop where
  bel : Below lo w W
  inv : Inv lo W f
  row : ∀ a, a < N → W.cell? ⟨R, a, none⟩ = some (V a)
  notR : ∀ j, ¬ f.D R j
  done : ∀ a, a < i → Val f a (V a) (n a)
  raw : ∀ a, i ≤ a → a < N → (∃ xs, W.ownsRow lo 24 3 (V a) (n a) xs) ∧ ∀ g, (V a).ownBlock = some g → ∀ j, ¬ f.D g j

/-- While one row is written: this block alone changes. -/
structure PhB (W0 W : World) (g i cap k : Nat) : Prop where
  os : W.os = W0.os
  tape : W.tape = W0.tape
  output : W.output = W0.output
  size : W.heap.size = W0.heap.size
  other : ∀ b, b ≠ g → W.heap[b]? = W0.heap[b]?
  this : ∃ cur, W.heap[g]? = some (.cells cur 24 (0, 0)) ∧ cur.size = cap * 3 ∧ ∀ j, j < k → cur[j * 3]? = some (mkV i)

theorem PhB.step {W0 W : World} {g i cap k : Nat} (h : PhB W0 W g i cap k) (hk : k < cap) :
    PhB W0 (((W.setCell ⟨g, k * 3, none⟩ (mkV i)).setCell ⟨g, k * 3 + 1, none⟩ (.string ⟨#[]⟩)).setCell ⟨g, k * 3 + 2, none⟩ (.slice none 0 0)) g i cap (k + 1) := by
  obtain ⟨cur, h1, h2, h3⟩ := h.this
  refine ⟨h.os, h.tape, h.output, by simpa using h.size, fun b hb => ?_, ?_⟩
  · rw [Below.heap_setCell _ _ _ _ hb, Below.heap_setCell _ _ _ _ hb, Below.heap_setCell _ _ _ _ hb]
    exact h.other b hb
  · refine ⟨_, setCell_block (setCell_block (setCell_block h1)), by simpa using h2, fun j hj => ?_⟩
    rw [Array.getElem?_setIfInBounds_ne (by omega), Array.getElem?_setIfInBounds_ne (by omega)]
    by_cases e : j = k
    · subst e
      rw [Array.getElem?_setIfInBounds_self_of_lt (by omega)]
    · rw [Array.getElem?_setIfInBounds_ne (by omega)]
      exact h3 j (by omega)

theorem PhA.next {w W0 W : World} {lo R N : Nat} {V : Nat → Value} {n : Nat → Nat} {i : Nat} {f : Fm} {g cap : Nat} (h : PhA w W0 lo R N V n i f) (hi : i < N) (hv : V i = .slice (some ⟨g, 0, none⟩) (n i) cap) (hlo : lo ≤ g) (hgR : g ≠ R) (hnc : n i ≤ cap) (hcm : cap ≤ maxLen) (hb : PhB W0 W g i cap (n i))
    (hdis : ∀ a, i < a → a < N → (V a).ownBlock ≠ some g) : PhA w W lo R N V n (i + 1) (f.add g i (n i) cap) := by
  obtain ⟨cur, h1, h2, h3⟩ := hb.this
  have nd : ∀ j, ¬ f.D g j := (h.raw i (Nat.le_refl _) hi).2 g (by rw [hv]; rfl)
  have glt : g < W.heap.size := heap_lt h1
  refine ⟨?_, ?_, ?_, ?_, ?_, ?_⟩
  · refine ⟨hb.os.trans h.bel.os, hb.tape.trans h.bel.tape, hb.output.trans h.bel.output, by rw [hb.size]; exact h.bel.size, fun k hk => ?_⟩
    rw [hb.other k (by omega)]
    exact h.bel.block k hk
  · refine Inv.add (h.inv.keep (fun k j hd => hb.other k (fun e => nd j (e ▸ hd))) (by rw [hb.size]; exact Nat.le_refl _)) nd hlo glt hnc hcm (fun x hx => ?_) (fun x => frozen_block h1) (fun j hj => ?_)
    · rw [cell_block h1, Array.getElem?_eq_getElem (by omega)]
      rfl
    · rw [cell_block h1]
      exact h3 j hj
  · intro a ha
    rw [World.cell?_of_block (a := ⟨R, a, none⟩) (hb.other R (Ne.symm hgR))]
    exact h.row a ha
  · rintro j (hd | ⟨e, _⟩)
    · exact h.notR j hd
    · exact hgR e.symm
  · intro a ha
    by_cases e : a = i
    · subst e
      exact .inr ⟨g, by rw [hv]; simp [Fm.add], .inr ⟨rfl, rfl⟩, by simp [Fm.add]⟩
    · exact (h.done a (by omega)).add nd
  · intro a ha ha4
    obtain ⟨⟨xs, hx⟩, hd⟩ := h.raw a (by omega) ha4
    have hne := hdis a (by omega) ha4
    refine ⟨⟨xs, hx.1, ?_⟩, ?_⟩
    · rcases hx.2 with h0 | ⟨g', cap', cur', e, hg', hgg, rest⟩
      · exact .inl h0
      · refine .inr ⟨g', cap', cur', e, hg', ?_, rest⟩
        rw [hb.other g' (fun e' => hne (by rw [e, e']; rfl))]
        exact hgg
    · rintro g' hg' j (hd' | ⟨e, _⟩)
      · exact hd g' hg' j hd'
      · exact hne (by rw [hg', e])

theorem PhA.skip {w W : World} {lo R N : Nat} {V : Nat → Value} {n : Nat → Nat} {i : Nat} {f : Fm} (h : PhA w W lo R N V n i f) (hv : V i = .slice none 0 0) (hn : n i = 0) : PhA w W lo R N V n (i + 1) f :=
  ⟨h.bel, h.inv, h.row, h.notR, fun a ha => by
    by_cases e : a = i
    · subst e; exact .inl ⟨hv, hn⟩
    · exact h.done a (by omega), fun a ha h4 => h.raw a (by omega) h4⟩

/-- While the rows are grown: all that was grown (gv, so many: c), whose it is (wv, so many: c2). -/
structure PhC (w W : World) (lo R N : Nat) (V : Nat → Value) (n : Nat → Nat) (c c2 : Nat) (f : Fm) (gv wv : Value) (L : List Value) : Prop where
  bel : Below lo w W
  inv : Inv lo W f
  row : ∀ a, a < N → W.cell? ⟨R, a, none⟩ = some (V a)
  notR : ∀ j, ¬ f.D R j
  vals : ∀ a, a < N → Val f a (V a) (n a)
  len : L.length = c
  each : ∀ q, q < c → ∃ m u, m ≤ 30000 ∧ L[q]? = some u ∧ Val f (q / 10) u m
  own : W.ownsRow w.heap.size 22 1 gv c L
  ownD : ∀ k, gv.ownBlock = some k → ∀ j, ¬ f.D k j
  own2 : W.ownsRow w.heap.size 3 1 wv c2 ((List.range c2).map fun q => .int .i64 ((q / 10 : Nat) : Int))
  ownD2 : ∀ k, wv.ownBlock = some k → ∀ j, ¬ f.D k j
  apart : ∀ k, gv.ownBlock = some k → wv.ownBlock ≠ some k
theorem own_stay {w w' : World} {B e size n : Nat} {v : Value} {xs : List Value} (h : w.ownsRow B e size v n xs) (hb : Below w.heap.size w w') : w'.ownsRow B e size v n xs := own_keep h fun k hk => hb.block k (h.lt k hk).2
theorem Val.one {f : Fm} {i n : Nat} {v : Value} (h : Val f i v n) : v.oneCell' = true := by
  rcases h with ⟨rfl, _⟩ | ⟨g, rfl, _⟩ <;> rfl
theorem Val.form {f : Fm} {i n : Nat} {v : Value} (h : Val f i v n) : ∃ ad cap, v = .slice ad n cap := by
  rcases h with ⟨rfl, rfl⟩ | ⟨g, rfl, _⟩
  · exact ⟨_, _, rfl⟩
  · exact ⟨_, _, rfl⟩
section
variable {w W W' : World} {lo R N : Nat} {V : Nat → Value} {n : Nat → Nat} {c c2 : Nat} {f f' : Fm} {gv wv : Value} {L : List Value}
theorem PhC.below (h : PhC w W lo R N V n c c2 f gv wv L) (hb : Below W.heap.size W W') (hR : R < w.heap.size) (hlw : lo ≤ w.heap.size) : PhC w W' lo R N V n c c2 f gv wv L :=
  ⟨h.bel.trans (hb.mono (Nat.le_trans hlw h.bel.size)), h.inv.below hb, fun a ha => (hb.cell (p := ⟨R, a, none⟩) (Nat.lt_of_lt_of_le hR h.bel.size)).trans (h.row a ha), h.notR, h.vals, h.len, h.each, own_stay h.own hb, h.ownD, own_stay h.own2 hb, h.ownD2, h.apart⟩
/-- Behind an append to one of the families. -/
theorem PhC.fam (h : PhC w W lo R N V n c c2 f gv wv L) (hR : R < w.heap.size) (hlw : lo ≤ w.heap.size) (hI : Inv lo W' f') (hext : ∀ j u k, Val f j u k → Val f' j u k) (hoff : Off f W f' W') : PhC w W' lo R N V n c c2 f' gv wv L := by
  have hRW : R < W.heap.size := Nat.lt_of_lt_of_le hR h.bel.size
  obtain ⟨r1, r2⟩ := hoff.block R hRW h.notR
  refine ⟨?_, hI, ?_, r2, fun a ha => hext _ _ _ (h.vals a ha), h.len, ?_, ?_, ?_, ?_, ?_, h.apart⟩
  · refine h.bel.trans ⟨hoff.os, hoff.tape, hoff.output, hoff.size, fun k hk => ?_⟩
    exact (hoff.block k (by have := h.bel.size; omega) fun j hd => by have := h.inv.lo k j hd; omega).1
  · intro a ha
    rw [World.cell?_of_block (a := ⟨R, a, none⟩) r1]
    exact h.row a ha
  · intro q hq
    obtain ⟨m, u, h1, h2, h3⟩ := h.each q hq
    exact ⟨m, u, h1, h2, hext _ _ _ h3⟩
  · exact own_keep h.own fun k hk => (hoff.block k (h.own.lt k hk).2 (h.ownD k hk)).1
  · exact fun k hk => (hoff.block k (h.own.lt k hk).2 (h.ownD k hk)).2
  · exact own_keep h.own2 fun k hk => (hoff.block k (h.own2.lt k hk).2 (h.ownD2 k hk)).1
  · exact fun k hk => (hoff.block k (h.own2.lt k hk).2 (h.ownD2 k hk)).2
/-- Behind an append to what was grown. -/
theorem PhC.put (h : PhC w W lo R N V n c c2 f gv wv L) (hR : R < w.heap.size) (hlw : lo ≤ w.heap.size) {o : Obj} {g' cap' m : Nat} {v' : Value} (hv : Val f (c / 10) v' m) (hm : m ≤ 30000)
    (hown : W'.ownsRow w.heap.size 22 1 (.slice (some ⟨g', 0, none⟩) (c + 1) cap') (c + 1) (L ++ [v'])) (hgr : (W.alloc o).grownBy W' gv.ownBlock) (hat : gv.ownBlock = some g' ∨ g' = W.heap.size + 1) :
    PhC w W' lo R N V n (c + 1) c2 f (.slice (some ⟨g', 0, none⟩) (c + 1) cap') wv (L ++ [v']) := by
  have hs : W.heap.size ≤ W'.heap.size := by have := hgr.size; simp at this; omega
  have keep : ∀ b, b < W.heap.size → gv.ownBlock ≠ some b → W'.heap[b]? = W.heap[b]? := fun b hb hne => by
    rw [hgr.block b (by simp; omega) (Ne.symm hne)]
    exact Below.heap_alloc _ _ _ hb
  have hRW : R < W.heap.size := Nat.lt_of_lt_of_le hR h.bel.size
  have hgR : gv.ownBlock ≠ some R := fun e => by have := (h.own.lt R e).1; omega
  refine ⟨?_, ?_, ?_, h.notR, h.vals, by simp [h.len], ?_, hown, ?_, ?_, h.ownD2, ?_⟩
  · refine h.bel.trans ⟨hgr.os, hgr.tape, hgr.output, hs, fun k hk => keep k (by have := h.bel.size; omega) fun e => by have := (h.own.lt k e).1; omega⟩
  · exact h.inv.keep (fun k j hd => keep k (h.inv.lt k j hd) fun e => h.ownD k e j hd) hs
  · intro a ha
    rw [World.cell?_of_block (a := ⟨R, a, none⟩) (keep R hRW hgR)]
    exact h.row a ha
  · intro q hq
    by_cases e : q = c
    · subst e
      refine ⟨m, v', hm, ?_, hv⟩
      rw [List.getElem?_append_right (by rw [h.len]; omega), h.len]
      simp
    · obtain ⟨m', u, h1, h2, h3⟩ := h.each q (by omega)
      refine ⟨m', u, h1, ?_, h3⟩
      rw [List.getElem?_append_left (by rw [h.len]; omega)]
      exact h2
  · intro k hk j hd
    have e' : g' = k := by simpa [Value.ownBlock] using hk
    subst e'
    rcases hat with hat | hat
    · exact h.ownD g' hat j hd
    · have := h.inv.lt g' j hd
      omega
  · refine own_keep h.own2 fun k hk => keep k (h.own2.lt k hk).2 fun e => h.apart k e hk
  · intro k hk
    have e' : g' = k := by simpa [Value.ownBlock] using hk
    subst e'
    rcases hat with hat | hat
    · exact h.apart g' hat
    · intro e
      have := (h.own2.lt g' e).2
      omega
/-- Behind an append to the list that says whose it is. -/
theorem PhC.put2 (h : PhC w W lo R N V n c c2 f gv wv L) (hR : R < w.heap.size) (hlw : lo ≤ w.heap.size) {o : Obj} {g' cap' : Nat}
    (hown : W'.ownsRow w.heap.size 3 1 (.slice (some ⟨g', 0, none⟩) (c2 + 1) cap') (c2 + 1) ((List.range c2).map (fun q => (.int .i64 ((q / 10 : Nat) : Int) : Value)) ++ [.int .i64 ((c2 / 10 : Nat) : Int)])) (hgr : (W.alloc o).grownBy W' wv.ownBlock) (hat : wv.ownBlock = some g' ∨ g' = W.heap.size + 1) :
    PhC w W' lo R N V n c (c2 + 1) f gv (.slice (some ⟨g', 0, none⟩) (c2 + 1) cap') L := by
  have hs : W.heap.size ≤ W'.heap.size := by have := hgr.size; simp at this; omega
  have keep : ∀ b, b < W.heap.size → wv.ownBlock ≠ some b → W'.heap[b]? = W.heap[b]? := fun b hb hne => by
    rw [hgr.block b (by simp; omega) (Ne.symm hne)]
    exact Below.heap_alloc _ _ _ hb
  have hRW : R < W.heap.size := Nat.lt_of_lt_of_le hR h.bel.size
  have hgR : wv.ownBlock ≠ some R := fun e => by have := (h.own2.lt R e).1; omega
  refine ⟨?_, ?_, ?_, h.notR, h.vals, h.len, h.each, ?_, h.ownD, ?_, ?_, ?_⟩
  · refine h.bel.trans ⟨hgr.os, hgr.tape, hgr.output, hs, fun k hk => keep k (by have := h.bel.size; omega) fun e => by have := (h.own2.lt k e).1; omega⟩
  · exact h.inv.keep (fun k j hd => keep k (h.inv.lt k j hd) fun e => h.ownD2 k e j hd) hs
  · intro a ha
    rw [World.cell?_of_block (a := ⟨R, a, none⟩) (keep R hRW hgR)]
    exact h.row a ha
  · refine own_keep h.own fun k hk => keep k (h.own.lt k hk).2 fun e => h.apart k hk e
  · rw [List.range_succ, List.map_append]
    exact hown
  · intro k hk j hd
    have e' : g' = k := by simpa [Value.ownBlock] using hk
    subst e'
    rcases hat with hat | hat
    · exact h.ownD2 g' hat j hd
    · have := h.inv.lt g' j hd
      omega
  · intro k hk e
    have e' : g' = k := by simpa [Value.ownBlock] using e
    subst e'
    rcases hat with hat | hat
    · exact h.apart g' hk hat
    · have := (h.own.lt g' hk).2
      omega
end
end Go.Proofs.YtgdflaapgfpdeaaGreatDoor

namespace Go.Proofs.YtgdflaapgfpdeaaGreatDoor
open Go.RowKit

/-- A list of lists that grows: from gv0 in w0 to gv in w, which owns L. -/
structure Ls (w0 w : World) (B : Nat) (gv0 gv : Value) (L : List Value) : Prop where
  own : w.ownsRow B 22 1 gv L.length L
  os : w.os = w0.os
  tape : w.tape = w0.tape
  output : w.output = w0.output
  size : w0.heap.size ≤ w.heap.size
  block : ∀ k, k < w0.heap.size → gv0.ownBlock ≠ some k → w.heap[k]? = w0.heap[k]?
  where' : gv.ownBlock = gv0.ownBlock ∨ ∃ g, gv.ownBlock = some g ∧ w0.heap.size ≤ g
theorem Ls.trans {w0 w1 w2 : World} {B : Nat} {g0 g1 g2 : Value} {L1 L2 : List Value} (h : Ls w0 w1 B g0 g1 L1) (k : Ls w1 w2 B g1 g2 L2) : Ls w0 w2 B g0 g2 L2 := by
  have hs := h.size
  refine ⟨k.own, k.os.trans h.os, k.tape.trans h.tape, k.output.trans h.output, Nat.le_trans h.size k.size, fun b hb hne => ?_, ?_⟩
  · rw [k.block b (by omega) ?_]
    · exact h.block b hb hne
    · rcases h.where' with e | ⟨g, e, hg⟩
      · rw [e]; exact hne
      · rw [e]
        intro e'
        have := Option.some.inj e'
        omega
  · rcases k.where' with e | ⟨g, e, hg⟩
    · rcases h.where' with e2 | ⟨g, e2, hg⟩
      · exact .inl (e.trans e2)
      · exact .inr ⟨g, e.trans e2, hg⟩
    · exact .inr ⟨g, e, by omega⟩
theorem Ls.below {w0 w1 w2 : World} {B : Nat} {g0 g1 : Value} {L1 : List Value} (h : Ls w0 w1 B g0 g1 L1) (hb : Below w1.heap.size w1 w2) : Ls w0 w2 B g0 g1 L1 := by
  have hs := h.size
  exact ⟨own_stay h.own hb, hb.os.trans h.os, hb.tape.trans h.tape, hb.output.trans h.output, Nat.le_trans h.size hb.size, fun b h1 h2 => (hb.block b (by omega)).trans (h.block b h1 h2), h.where'⟩
theorem Ls.from {w w' : World} {B : Nat} {gv gv' : Value} {L L' : List Value} (h : Ls w w' B gv gv' L') (hB : B ≤ w.heap.size) (hown : w.ownsRow B 22 1 gv L.length L) : Below B w w' :=
  ⟨h.os, h.tape, h.output, h.size, fun k hk => h.block k (by omega) fun e => by have := (hown.lt k e).1; omega⟩
theorem take_flat {α : Type} {l : List (List α)} {j : Nat} (h : j < l.length) : (l.take (j + 1)).flatten = (l.take j).flatten ++ l[j] := by
  rw [List.take_succ_eq_append_getElem h, List.flatten_append]
  simp
theorem take_flat_le {α : Type} {l : List (List α)} {j : Nat} (h : j < l.length) : (l.take j).flatten.length + l[j].length ≤ l.flatten.length := by
  have h1 : l.flatten = (l.take (j + 1)).flatten ++ (l.drop (j + 1)).flatten := by rw [← List.flatten_append, List.take_append_drop]
  rw [h1, take_flat h]
  simp
theorem Tryz.info22' : (Tryz.prog.info? 22).map (fun i => (i.zero, i.size, i.bytes)) = some (some (.slice none 0 0), 1, 24) := by kernel_rfl
end Go.Proofs.YtgdflaapgfpdeaaGreatDoor
