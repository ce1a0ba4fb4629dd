/- The reference's board in memory; the contract of end. What the reference's board means; the contract of end. The board: the contract of stands. The board: the contract of bind. The board: the contract of agree. The board: the contract of names. -/
import Derived.Test.YtikpipenhamdbaaGreatMakx
import Derived.Test.YtikpipenhamdbaaGreatMamx
import Derived.Sort.EncStr
namespace Go.Proofs.YtikpipenhamdbaaGreat
open Go.RowKit Go.Maps

/-- A place of the board. -/
structure Pn where
 kd : Int
 nm : List UInt8
 av : Value
 ar : List Nat
 lk : Option Nat
 mrk : Nat
 sz : Nat
/-- The same, but for where its arguments lie. -/
structure Px where
 kd : Int
 nm : List UInt8
 ar : List Nat
 lk : Option Nat
 mrk : Nat
 sz : Nat
def Pn.st (p : Pn) : Px := { kd := p.kd, nm := p.nm, ar := p.ar, lk := p.lk, mrk := p.mrk, sz := p.sz }
def lkV : Option Nat → Int
 | none => -1
 | some t => t
def intsV (l : List Nat) : List Value := l.map fun (x : Nat) => Value.int .i64 x
def pnC (p : Pn) : List Value := [.int .i64 p.kd, .string ⟨p.nm.toArray⟩, p.av, .int .i64 (lkV p.lk), .int .i64 p.mrk, .int .i64 p.sz]
/-- The board in memory: its box G; all that it lies in is from lo on. -/
structure BS (w : World) (lo G : Nat) (v nv vv : Value) (ps : List Pn) (N : List (List UInt8)) (tn : Nat) : Prop where
 box : w.heap[G]? = some (.cells #[v, nv, vv, .int .i64 tn] 110 (0, 0))
 own : w.ownsRow lo 128 6 v ps.length (ps.flatMap pnC)
 nam : w.ownsRow lo 9 1 nv N.length (N.map encStr)
 var : w.ownsRow lo 3 1 vv N.length (intsV (List.range N.length))
 arg : ∀ p ∈ ps, w.ownsRow lo 3 1 p.av p.ar.length (intsV p.ar)
 loG : lo ≤ G
 num : ps.length ≤ 200000000
/-- The block of the board's places. -/
def pb (w : World) (G : Nat) : Option Nat := (w.cell? ⟨G, 0, none⟩).bind Value.ownBlock
/-- From w to w' nothing has turned but the board's box G and its row of places, all from lo on. -/
structure Bk (lo G : Nat) (w w' : World) : Prop where
 os : w'.os = w.os
 tape : w'.tape = w.tape
 output : w'.output = w.output
 size : w.heap.size ≤ w'.heap.size
 low : ∀ k, k < lo → w'.heap[k]? = w.heap[k]?
 keep : ∀ k o, w.heap[k]? = some o → k ≠ G → pb w G ≠ some k → w'.heap[k]? = some o
 move : ∀ k, pb w' G = some k → pb w G = some k ∨ w.heap.size ≤ k
theorem Bk.refl (lo G : Nat) (w : World) : Bk lo G w w := ⟨rfl, rfl, rfl, Nat.le_refl _, fun _ _ => rfl, fun _ _ h _ _ => h, fun _ h => .inl h⟩
theorem Bk.trans {lo G : Nat} {w1 w2 w3 : World} (h : Bk lo G w1 w2) (k : Bk lo G w2 w3) : Bk lo G w1 w3 :=
 ⟨k.os.trans h.os, k.tape.trans h.tape, k.output.trans h.output, Nat.le_trans h.size k.size, fun i hi => (k.low i hi).trans (h.low i hi), fun i o h1 h2 h3 => k.keep i o (h.keep i o h1 h2 h3) h2 fun q => by
  rcases h.move i q with q | q
  ·exact h3 q
  ·have := lt_of_heap h1
   omega, fun i q => by
  rcases k.move i q with q | q
  ·exact h.move i q
  ·have := h.size
   exact .inr (by omega)⟩
theorem pb_same {w w' : World} {G : Nat} (h : w'.heap[G]? = w.heap[G]?) : pb w' G = pb w G := by
 unfold pb
 rw [World.cell?_of_block h]
theorem Bk.of_below {lo G : Nat} {w w' : World} (h : Below w.heap.size w w') (hl : lo ≤ w.heap.size) (hG : G < w.heap.size) : Bk lo G w w' :=
 ⟨h.os, h.tape, h.output, h.size, fun i hi => h.block i (by omega), fun i o h1 _ _ => (h.block i (lt_of_heap h1)).trans h1, fun k q => .inl (by rw [← q]; exact (pb_same (h.block G hG)).symm)⟩
theorem Bk.of_sm {lo G : Nat} {w w' : World} (h : Sm w w') : Bk lo G w w' :=
 ⟨h.os, h.tape, h.output, by rw [h.heap]; exact Nat.le_refl _, fun i _ => by rw [h.heap], fun i o h1 _ _ => by rw [h.heap]; exact h1, fun k q => .inl (by rw [← q]; exact (pb_same (by rw [h.heap])).symm)⟩
theorem Bk.below {lo G : Nat} {w w' : World} (h : Bk lo G w w') : Below lo w w' := ⟨h.os, h.tape, h.output, h.size, h.low⟩
theorem row_ty {w : World} {lo e s : Nat} {v : Value} {n : Nat} {xs : List Value} (h : w.ownsRow lo e s v n xs) {k : Nat} (hk : v.ownBlock = some k) : lo ≤ k ∧ k < w.heap.size ∧ ∃ cur, w.heap[k]? = some (.cells cur e (0, 0)) := by
 refine ⟨(h.lt k hk).1, (h.lt k hk).2, ?_⟩
 rcases h.2 with ⟨h0, _⟩ | ⟨g, cap, cur, hv, _, hh, _⟩
 ·rw [h0] at hk; cases hk
 ·rw [hv] at hk
  cases hk
  exact ⟨cur, hh⟩
/-- A row of another type stays. -/
theorem Bk.row {lo G : Nat} {w w' : World} (h : Bk lo G w w') {lo' e s : Nat} {v : Value} {n : Nat} {xs : List Value} (hr : w.ownsRow lo' e s v n xs) (he : e ≠ 128) (hG : ∀ c fz, w.heap[G]? ≠ some (.cells c e fz)) (hP : ∀ k, pb w G = some k → ∃ cur, w.heap[k]? = some (.cells cur 128 (0, 0))) : w'.ownsRow lo' e s v n xs :=
 own_keep hr fun k hk => by
  obtain ⟨_, _, cur, hc⟩ := row_ty hr hk
  rw [hc]
  exact h.keep k _ hc (fun q => hG _ _ (by rw [← q]; exact hc)) fun q => by
   obtain ⟨cur', hc'⟩ := hP k q
   rw [hc] at hc'
   exact he (cells_ty hc')
theorem BS.boxNe {w : World} {lo G : Nat} {v nv vv : Value} {ps : List Pn} {N : List (List UInt8)} {tn : Nat} (h : BS w lo G v nv vv ps N tn) {e : TypeId} (he : e ≠ 110) : ∀ c fz, w.heap[G]? ≠ some (.cells c e fz) := fun c fz q => by
 rw [h.box] at q
 exact he (cells_ty q).symm
theorem four_cells {w : World} {b : Nat} {x y u z : Value} {t : TypeId} {fr : Nat × Nat} (h : w.heap[b]? = some (.cells #[x, y, u, z] t fr)) : w.cell? ⟨b, 0, none⟩ = some x ∧ w.cell? ⟨b, 1, none⟩ = some y ∧ w.cell? ⟨b, 2, none⟩ = some u ∧ w.cell? ⟨b, 3, none⟩ = some z := by
 refine ⟨?_, ?_, ?_, ?_⟩ <;> (simp only [World.cell?, h]; rfl)
theorem BS.pb {w : World} {lo G : Nat} {v nv vv : Value} {ps : List Pn} {N : List (List UInt8)} {tn : Nat} (h : BS w lo G v nv vv ps N tn) : pb w G = v.ownBlock := by
 unfold Go.Proofs.YtikpipenhamdbaaGreat.pb
 rw [(four_cells h.box).1]
 rfl
theorem BS.pbt {w : World} {lo G : Nat} {v nv vv : Value} {ps : List Pn} {N : List (List UInt8)} {tn : Nat} (h : BS w lo G v nv vv ps N tn) : ∀ k, Go.Proofs.YtikpipenhamdbaaGreat.pb w G = some k → ∃ cur, w.heap[k]? = some (.cells cur 128 (0, 0)) := fun k hk => by
 rw [h.pb] at hk
 exact (row_ty h.own hk).2.2
/-- The parts of the board that Bk keeps. -/
theorem BS.move {w w' : World} {lo G : Nat} {v nv vv v' : Value} {ps ps' : List Pn} {N : List (List UInt8)} {tn tn' : Nat} (h : BS w lo G v nv vv ps N tn) (k : Bk lo G w w') (hb : w'.heap[G]? = some (.cells #[v', nv, vv, .int .i64 tn'] 110 (0, 0))) (ho : w'.ownsRow lo 128 6 v' ps'.length (ps'.flatMap pnC)) (ha : ∀ p ∈ ps', (∃ q ∈ ps, p.av = q.av ∧ p.ar = q.ar) ∨ w'.ownsRow lo 3 1 p.av p.ar.length (intsV p.ar)) (hn : ps'.length ≤ 200000000) : BS w' lo G v' nv vv ps' N tn' := by
 refine ⟨hb, ho, k.row h.nam (by decide) (h.boxNe (by decide)) h.pbt, k.row h.var (by decide) (h.boxNe (by decide)) h.pbt, fun p hp => ?_, h.loG, hn⟩
 rcases ha p hp with ⟨q, hq, e1, e2⟩ | q
 ·rw [e1, e2]
  exact k.row (h.arg q hq) (by decide) (h.boxNe (by decide)) h.pbt
 ·exact q
theorem BS.lt {w : World} {lo G : Nat} {v nv vv : Value} {ps : List Pn} {N : List (List UInt8)} {tn : Nat} (h : BS w lo G v nv vv ps N tn) : lo ≤ w.heap.size ∧ G < w.heap.size := by
 have := lt_of_heap h.box
 have := h.loG
 exact ⟨by omega, by omega⟩
theorem BS.below {w w' : World} {lo G : Nat} {v nv vv : Value} {ps : List Pn} {N : List (List UInt8)} {tn : Nat} (h : BS w lo G v nv vv ps N tn) (hb : Below w.heap.size w w') : BS w' lo G v nv vv ps N tn :=
 h.move (Bk.of_below hb h.lt.1 h.lt.2) ((hb.block G h.lt.2).trans h.box) (own_keep h.own fun k hk => hb.block k (h.own.lt k hk).2) (fun p hp => .inl ⟨p, hp, rfl, rfl⟩) h.num
theorem pnC_get (ns : List Pn) (j i : Nat) (hj : j < ns.length) (hi : i < 6) : (ns.flatMap pnC)[j * 6 + i]? = (pnC ns[j])[i]? := by
 induction ns generalizing j with
 | nil => simp at hj
 | cons t r ih =>
  cases j with
  | zero =>
   rw [List.flatMap_cons, List.getElem?_append_left (by simp [pnC]; omega)]
   simp
  | succ j =>
   have hj' : j < r.length := by simpa using hj
   rw [List.flatMap_cons, List.getElem?_append_right (by simp [pnC]; omega)]
   have e2 : (j + 1) * 6 + i - (pnC t).length = j * 6 + i := by simp [pnC]; omega
   rw [e2, ih j hj']
   rfl
/-- The cells of a place. -/
theorem BS.cells {w : World} {lo G : Nat} {v nv vv : Value} {ns : List Pn} {N : List (List UInt8)} {tn : Nat} (h : BS w lo G v nv vv ns N tn) {i : Nat} (hi : i < ns.length) : ∃ g cap, v = .slice (some ⟨g, 0, none⟩) ns.length cap ∧ lo ≤ g ∧ g < w.heap.size ∧ (∃ cur, w.heap[g]? = some (.cells cur 128 (0, 0))) ∧
  (w.cell? ⟨g, i * 6, none⟩ = some (.int .i64 ns[i].kd) ∧ w.cell? ⟨g, i * 6 + 1, none⟩ = some (.string ⟨ns[i].nm.toArray⟩) ∧ w.cell? ⟨g, i * 6 + 2, none⟩ = some ns[i].av ∧ w.cell? ⟨g, i * 6 + 3, none⟩ = some (.int .i64 (lkV ns[i].lk)) ∧ w.cell? ⟨g, i * 6 + 4, none⟩ = some (.int .i64 ns[i].mrk) ∧ w.cell? ⟨g, i * 6 + 5, none⟩ = some (.int .i64 ns[i].sz)) ∧ (∀ j, w.frozen? ⟨g, j, none⟩ = false) := by
 obtain ⟨g, cap, hv, hg, hlt⟩ := h.own.form (by omega)
 subst hv
 obtain ⟨_, _, hb⟩ := row_ty h.own (k := g) rfl
 have hc : ∀ j, j < 6 → w.cell? ⟨g, i * 6 + j, none⟩ = (pnC ns[i])[j]? := fun j hj => by
  rw [h.own.cellAt (i * 6 + j) (by omega), pnC_get ns i j hi hj]
 refine ⟨g, cap, rfl, hg, hlt, hb, ⟨?_, ?_, ?_, ?_, ?_, ?_⟩, fun j => h.own.frozenAt j⟩
 ·have := hc 0 (by omega)
  simpa [pnC] using this
 ·have := hc 1 (by omega)
  simpa [pnC] using this
 ·have := hc 2 (by omega)
  simpa [pnC] using this
 ·have := hc 3 (by omega)
  simpa [pnC] using this
 ·have := hc 4 (by omega)
  simpa [pnC] using this
 ·have := hc 5 (by omega)
  simpa [pnC] using this
/-- One cell of a place has turned. -/
theorem BS.node {w : World} {lo G : Nat} {v nv vv : Value} {ns : List Pn} {N : List (List UInt8)} {tn : Nat} (h : BS w lo G v nv vv ns N tn) {i : Nat} (hi : i < ns.length) (n' : Pn) (hn' : n'.ar = ns[i].ar ∧ n'.av = ns[i].av) {j : Nat} (hj : j < 6) {u : Value} (hu : pnC n' = (pnC ns[i]).set j u) :
  ∃ g cap, v = .slice (some ⟨g, 0, none⟩) ns.length cap ∧ BS (w.setCell ⟨g, i * 6 + j, none⟩ u) lo G v nv vv (ns.set i n') N tn ∧ Bk lo G w (w.setCell ⟨g, i * 6 + j, none⟩ u) := by
 obtain ⟨g, cap, rfl, hg, hlt, ⟨cur, hcur⟩, _⟩ := h.cells hi
 have hGg : G ≠ g := fun e => by
  have := h.box
  rw [e, hcur] at this
  exact absurd (cells_ty this) (by decide)
 have hk : Bk lo G w (w.setCell ⟨g, i * 6 + j, none⟩ u) := by
  refine ⟨rfl, rfl, rfl, by simp [World.setCell], fun k hk => Below.heap_setCell _ _ _ _ (show k ≠ g by omega), fun k o h1 _ h4 => ?_, fun k q => .inl ?_⟩
  ·rw [Below.heap_setCell _ _ _ _ (show k ≠ g from fun e => h4 (by rw [h.pb, e]; rfl))]
   exact h1
  ·rw [← q]
   exact (pb_same (Below.heap_setCell _ _ _ _ hGg)).symm
 refine ⟨g, cap, rfl, ?_, hk⟩
 have hset : (ns.set i n').flatMap pnC = (ns.flatMap pnC).set (i * 6 + j) u := by
  have key : ∀ (ns : List Pn) (i : Nat) (hi : i < ns.length), pnC n' = (pnC ns[i]).set j u → (ns.set i n').flatMap pnC = (ns.flatMap pnC).set (i * 6 + j) u := by
   intro ns
   induction ns with
   | nil => intro i hi; simp at hi
   | cons a r ih =>
    intro i hi hu
    cases i with
    | zero =>
     have hu : pnC n' = (pnC a).set j u := hu
     simp only [List.set_cons_zero, List.flatMap_cons]
     rw [hu, show 0 * 6 + j = j by omega, List.set_append_left _ _ (by simp [pnC]; omega)]
    | succ i =>
     simp only [List.set_cons_succ, List.flatMap_cons]
     rw [ih i (by simpa using hi) (by simpa using hu), List.set_append_right _ _ (by simp [pnC]; omega)]
     congr 2
     simp [pnC]
     omega
  exact key ns i hi hu
 have hst := (h.own.stored (i * 6 + j) u).1
 refine h.move hk ?_ (by rw [List.length_set, hset]; exact hst) (fun p hp => ?_) (by rw [List.length_set]; exact h.num)
 ·rw [Below.heap_setCell _ _ _ _ hGg]
  exact h.box
 ·rcases List.mem_or_eq_of_mem_set hp with q | q
  ·exact .inl ⟨p, q, rfl, rfl⟩
  ·exact .inl ⟨ns[i], List.getElem_mem hi, by rw [q]; exact hn'.2, by rw [q]; exact hn'.1⟩
/-- The board in memory, wherever its rows lie. -/
def BX (w : World) (lo G : Nat) (xs : List Px) (N : List (List UInt8)) (tn : Nat) : Prop := ∃ v nv vv ps, ps.map Pn.st = xs ∧ BS w lo G v nv vv ps N tn
theorem BX.below {w w' : World} {lo G : Nat} {xs : List Px} {N : List (List UInt8)} {tn : Nat} (h : BX w lo G xs N tn) (hb : Below w.heap.size w w') : BX w' lo G xs N tn := by
 obtain ⟨v, nv, vv, ps, e, h⟩ := h
 exact ⟨v, nv, vv, ps, e, h.below hb⟩
theorem BX.sm {w w' : World} {lo G : Nat} {xs : List Px} {N : List (List UInt8)} {tn : Nat} (h : BX w lo G xs N tn) (s : Sm w w') : BX w' lo G xs N tn := h.below (s.below _)
theorem BX.num {w : World} {lo G : Nat} {xs : List Px} {N : List (List UInt8)} {tn : Nat} (h : BX w lo G xs N tn) : xs.length ≤ 200000000 ∧ lo ≤ w.heap.size ∧ G < w.heap.size ∧ lo ≤ G := by
 obtain ⟨v, nv, vv, ps, rfl, h⟩ := h
 exact ⟨by rw [List.length_map]; exact h.num, h.lt.1, h.lt.2, h.loG⟩
def lkP (xs : List Px) (i : Nat) (t : Nat) : List Px := xs.modify i fun x => { x with lk := some t }
def mkP (xs : List Px) (i : Nat) (m : Nat) : List Px := xs.modify i fun x => { x with mrk := m }
def szP (xs : List Px) (i : Nat) (m : Nat) : List Px := xs.modify i fun x => { x with sz := m }
theorem map_set {ps : List Pn} {i : Nat} (hi : i < ps.length) (n' : Pn) (f : Px → Px) (h : n'.st = f ps[i].st) : (ps.set i n').map Pn.st = (ps.map Pn.st).modify i f := by
 apply List.ext_getElem?
 intro j
 rw [List.getElem?_map, List.getElem?_set, List.getElem?_modify, List.getElem?_map]
 by_cases hj : i = j
 ·subst hj
  simp [hi, h]
 ·simp [hj]
/-- A place, as it lies. -/
theorem BX.at {w : World} {lo G : Nat} {xs : List Px} {N : List (List UInt8)} {tn : Nat} (h : BX w lo G xs N tn) {i : Nat} (hi : i < xs.length) : ∃ g cap ad cp, w.cell? ⟨G, 0, none⟩ = some (.slice (some ⟨g, 0, none⟩) xs.length cap) ∧ (w.cell? ⟨G, 3, none⟩ = some (.int .i64 tn) ∧ w.frozen? ⟨G, 3, none⟩ = false) ∧ (g ≠ G ∧ pb w G = some g ∧ g < w.heap.size) ∧ (∀ j, w.frozen? ⟨g, j, none⟩ = false) ∧
  (w.cell? ⟨g, i * 6, none⟩ = some (.int .i64 xs[i].kd) ∧ w.cell? ⟨g, i * 6 + 1, none⟩ = some (.string ⟨xs[i].nm.toArray⟩) ∧ w.cell? ⟨g, i * 6 + 2, none⟩ = some (.slice ad xs[i].ar.length cp) ∧ w.cell? ⟨g, i * 6 + 3, none⟩ = some (.int .i64 (lkV xs[i].lk)) ∧ w.cell? ⟨g, i * 6 + 4, none⟩ = some (.int .i64 xs[i].mrk) ∧ w.cell? ⟨g, i * 6 + 5, none⟩ = some (.int .i64 xs[i].sz)) ∧
  (xs[i].ar ≠ [] → ∃ ga cur, ad = some ⟨ga, 0, none⟩ ∧ xs[i].ar.length ≤ cp ∧ (ga ≠ G ∧ ga ≠ g) ∧ w.heap[ga]? = some (.cells cur 3 (0, 0)) ∧ ∀ q (hq : q < xs[i].ar.length), cur[q]? = some (.int .i64 (xs[i].ar[q] : Nat))) ∧
  (∀ t : Nat, BX (w.setCell ⟨g, i * 6 + 3, none⟩ (.int .i64 t)) lo G (lkP xs i t) N tn ∧ Bk lo G w (w.setCell ⟨g, i * 6 + 3, none⟩ (.int .i64 t))) ∧
  (∀ t : Nat, BX (w.setCell ⟨g, i * 6 + 4, none⟩ (.int .i64 t)) lo G (mkP xs i t) N tn ∧ Bk lo G w (w.setCell ⟨g, i * 6 + 4, none⟩ (.int .i64 t))) ∧
  (∀ t : Nat, BX (w.setCell ⟨g, i * 6 + 5, none⟩ (.int .i64 t)) lo G (szP xs i t) N tn ∧ Bk lo G w (w.setCell ⟨g, i * 6 + 5, none⟩ (.int .i64 t))) := by
 obtain ⟨v, nv, vv, ps, rfl, hB⟩ := h
 rw [List.length_map] at hi
 obtain ⟨g, cap, hv, hg, hlt, ⟨cur, hcur⟩, hcells, hfr⟩ := hB.cells hi
 have ei : (ps.map Pn.st)[i]'(by rw [List.length_map]; exact hi) = ps[i].st := by simp
 have hgG : g ≠ G := fun e => by
  have := hB.box
  rw [← e, hcur] at this
  exact absurd (cells_ty this) (by decide)
 have harg := hB.arg ps[i] (List.getElem_mem hi)
 obtain ⟨b0, b1, b2, b3⟩ := four_cells hB.box
 have hav : ∃ ad cp, ps[i].av = .slice ad ps[i].ar.length cp ∧ (ps[i].ar ≠ [] → ∃ ga cur, ad = some ⟨ga, 0, none⟩ ∧ ps[i].ar.length ≤ cp ∧ (ga ≠ G ∧ ga ≠ g) ∧ w.heap[ga]? = some (.cells cur 3 (0, 0)) ∧ ∀ q (hq : q < ps[i].ar.length), cur[q]? = some (.int .i64 (ps[i].ar[q] : Nat))) := by
  rcases id harg.2 with ⟨h0, h1⟩ | ⟨ga, cp, cur', hv', hga, hh, hrest⟩
  ·exact ⟨none, 0, by rw [h0, h1], fun q => absurd (List.length_eq_zero_iff.1 h1) q⟩
  ·refine ⟨_, cp, hv', fun _ => ⟨ga, cur', rfl, ?_, ⟨fun e => ?_, fun e => ?_⟩, hh, fun q hq => ?_⟩⟩
   ·exact hrest.1
   ·rw [e, hB.box] at hh
    exact absurd (cells_ty hh) (by decide)
   ·rw [e, hcur] at hh
    exact absurd (cells_ty hh) (by decide)
   ·have hc := hrest.2.2.2
    have h1 : (cur'.toList.take (ps[i].ar.length * 1))[q]? = some (.int .i64 (ps[i].ar[q] : Nat)) := by rw [hc]; simp [intsV, hq]
    rw [List.getElem?_take_of_lt (by omega)] at h1
    simpa using h1
 obtain ⟨ad, cp, e1, e2⟩ := hav
 rw [ei]
 rw [e1] at hcells
 refine ⟨g, cap, ad, cp, by rw [List.length_map, ← hv]; exact b0, ⟨b3, heap_frozen hB.box⟩, ⟨hgG, by rw [hB.pb, hv]; rfl, hlt⟩, hfr, hcells, e2, fun t => ?_, fun t => ?_, fun t => ?_⟩
 ·obtain ⟨g2, cap2, hv', h1, h2⟩ := hB.node hi { ps[i] with lk := some t } ⟨rfl, rfl⟩ (j := 3) (by omega) (u := .int .i64 t) rfl
  rw [hv] at hv'
  cases hv'
  exact ⟨⟨v, nv, vv, _, map_set hi _ _ rfl, h1⟩, h2⟩
 ·obtain ⟨g2, cap2, hv', h1, h2⟩ := hB.node hi { ps[i] with mrk := t } ⟨rfl, rfl⟩ (j := 4) (by omega) (u := .int .i64 t) rfl
  rw [hv] at hv'
  cases hv'
  exact ⟨⟨v, nv, vv, _, map_set hi _ _ rfl, h1⟩, h2⟩
 ·obtain ⟨g2, cap2, hv', h1, h2⟩ := hB.node hi { ps[i] with sz := t } ⟨rfl, rfl⟩ (j := 5) (by omega) (u := .int .i64 t) rfl
  rw [hv] at hv'
  cases hv'
  exact ⟨⟨v, nv, vv, _, map_set hi _ _ rfl, h1⟩, h2⟩
/-- The number of turns alone has turned. -/
theorem BX.turn {w : World} {lo G : Nat} {xs : List Px} {N : List (List UInt8)} {tn : Nat} (h : BX w lo G xs N tn) (t : Nat) : BX (w.setCell ⟨G, 3, none⟩ (.int .i64 t)) lo G xs N t ∧ Bk lo G w (w.setCell ⟨G, 3, none⟩ (.int .i64 t)) := by
 obtain ⟨v, nv, vv, ps, e, h⟩ := h
 have hb : (w.setCell ⟨G, 3, none⟩ (.int .i64 t)).heap[G]? = some (.cells #[v, nv, vv, .int .i64 t] 110 (0, 0)) := (setCell_block h.box).trans rfl
 have hoth : ∀ k, k ≠ G → (w.setCell ⟨G, 3, none⟩ (.int .i64 t)).heap[k]? = w.heap[k]? := fun k hk => Below.heap_setCell _ _ _ _ hk
 have hk : Bk lo G w (w.setCell ⟨G, 3, none⟩ (.int .i64 t)) := by
  refine ⟨rfl, rfl, rfl, by simp [World.setCell], fun k hk => hoth k (by have := h.loG; omega), fun k o h1 h2 _ => (hoth k h2).trans h1, fun k q => .inl ?_⟩
  rw [h.pb]
  unfold pb at q
  rw [(four_cells hb).1] at q
  exact q
 refine ⟨⟨v, nv, vv, ps, e, h.move hk hb (own_keep h.own fun k hk => hoth k fun e => ?_) (fun p hp => .inl ⟨p, hp, rfl, rfl⟩) h.num⟩, hk⟩
 obtain ⟨_, _, cur, hc⟩ := row_ty h.own hk
 rw [e, h.box] at hc
 exact absurd (cells_ty hc) (by decide)
end Go.Proofs.YtikpipenhamdbaaGreat

namespace Go.Proofs.YtikpipenhamdbaaGreat
open Go.RowKit Go.Maps

def pz : Px := { kd := 0, nm := [], ar := [], lk := none, mrk := 0, sz := 0 }
def lbP (xs : List Px) (i : Nat) : Int × List UInt8 := ((xs.getD i pz).kd, (xs.getD i pz).nm)
def arP (xs : List Px) (i : Nat) : List Nat := (xs.getD i pz).ar
def loP (xs : List Px) (i : Nat) : Option Nat := (xs.getD i pz).lk
def tgP (xs : List Px) (i : Nat) : Nat := (loP xs i).getD i
def mrP (xs : List Px) (i : Nat) : Nat := (xs.getD i pz).mrk
def szQ (xs : List Px) (i : Nat) : Nat := (xs.getD i pz).sz
/-- What the places of a board in memory stand for. -/
structure BsX (xs : List Px) (dn : Nat → List Nd) (rt rk : Nat → Nat) (dp : Nat → List Nd) : Prop where
 bs : Bs xs.length (lbP xs) (arP xs) (tgP xs) dn rt rk dp
 slf : ∀ i, loP xs i ≠ some i
 few : ∀ i, (arP xs i).length ≤ 6
theorem getP_at {xs : List Px} {i : Nat} (hi : i < xs.length) : xs.getD i pz = xs[i] := by
 rw [List.getD_eq_getElem?_getD, List.getElem?_eq_getElem hi]
 rfl
theorem getP_mod (xs : List Px) (f : Px → Px) {i : Nat} (hi : i < xs.length) (j : Nat) : (xs.modify i f).getD j pz = if j = i then f (xs.getD j pz) else xs.getD j pz := by
 rw [List.getD_eq_getElem?_getD, List.getElem?_modify, List.getD_eq_getElem?_getD]
 by_cases q : j = i
 ·subst q
  rw [if_pos rfl, List.getElem?_eq_getElem hi]
  simp
 ·rw [if_neg q]
  simp [Ne.symm q]
theorem BsX.root {xs : List Px} {dn : Nat → List Nd} {rt rk : Nat → Nat} {dp : Nat → List Nd} (h : BsX xs dn rt rk dp) (i : Nat) : loP xs i = none ↔ tgP xs i = i := by
 unfold tgP
 cases e : loP xs i with
 | none => simp
 | some t =>
  have := h.slf i
  rw [e] at this
  constructor
  ·intro q; cases q
  ·intro q
   exact absurd (congrArg some q) this
theorem lkP_eq (xs : List Px) {i : Nat} (hi : i < xs.length) (t : Nat) : (lkP xs i t).length = xs.length ∧ lbP (lkP xs i t) = lbP xs ∧ arP (lkP xs i t) = arP xs ∧ tgP (lkP xs i t) = putN (tgP xs) i t ∧ mrP (lkP xs i t) = mrP xs ∧ szQ (lkP xs i t) = szQ xs ∧ ∀ j, loP (lkP xs i t) j = if j = i then some t else loP xs j := by
 have key := getP_mod xs (fun x => { x with lk := some t }) hi
 refine ⟨by simp [lkP], ?_, ?_, ?_, ?_, ?_, fun j => ?_⟩
 ·funext j; simp only [lkP, lbP, key]; split <;> rfl
 ·funext j; simp only [lkP, arP, key]; split <;> rfl
 ·funext j
  simp only [lkP, tgP, loP, putN, key]
  split <;> rfl
 ·funext j; simp only [lkP, mrP, key]; split <;> rfl
 ·funext j; simp only [lkP, szQ, key]; split <;> rfl
 ·simp only [lkP, loP, key]; split <;> rfl
theorem mkP_eq (xs : List Px) {i : Nat} (hi : i < xs.length) (m : Nat) : (mkP xs i m).length = xs.length ∧ lbP (mkP xs i m) = lbP xs ∧ arP (mkP xs i m) = arP xs ∧ loP (mkP xs i m) = loP xs ∧ mrP (mkP xs i m) = putN (mrP xs) i m ∧ szQ (mkP xs i m) = szQ xs := by
 have key := getP_mod xs (fun x => { x with mrk := m }) hi
 refine ⟨by simp [mkP], ?_, ?_, ?_, ?_, ?_⟩ <;> (funext j; simp only [mkP, lbP, arP, loP, mrP, szQ, putN, key]; split <;> rfl)
theorem szP_eq (xs : List Px) {i : Nat} (hi : i < xs.length) (m : Nat) : (szP xs i m).length = xs.length ∧ lbP (szP xs i m) = lbP xs ∧ arP (szP xs i m) = arP xs ∧ loP (szP xs i m) = loP xs ∧ mrP (szP xs i m) = mrP xs ∧ szQ (szP xs i m) = putN (szQ xs) i m := by
 have key := getP_mod xs (fun x => { x with sz := m }) hi
 refine ⟨by simp [szP], ?_, ?_, ?_, ?_, ?_⟩ <;> (funext j; simp only [szP, lbP, arP, loP, mrP, szQ, putN, key]; split <;> rfl)
/-- Marks or sizes alone have turned. -/
theorem BsX.like {xs ys : List Px} {dn : Nat → List Nd} {rt rk : Nat → Nat} {dp : Nat → List Nd} (h : BsX xs dn rt rk dp) (e1 : ys.length = xs.length) (e2 : lbP ys = lbP xs) (e3 : arP ys = arP xs) (e4 : loP ys = loP xs) : BsX ys dn rt rk dp := by
 refine ⟨?_, by rw [e4]; exact h.slf, by rw [e3]; exact h.few⟩
 have : tgP ys = tgP xs := by funext j; unfold tgP; rw [e4]
 rw [e1, e2, e3, this]
 exact h.bs
set_option maxHeartbeats 8000000 in
set_option maxRecDepth 10000 in
theorem bend_any {w : World} {lo G tn : Nat} {xs : List Px} {N : List (List UInt8)} {dn : Nat → List Nd} {rt rk : Nat → Nat} {dp : Nat → List Nd} (h : BX w lo G xs N tn) (d : BsX xs dn rt rk dp) (i : Nat) (hi : i < xs.length) :
  Calls Tryz.prog 79 #[.pointer (some ⟨G, 0, none⟩), .int .i64 i] w fun e w' => e = .returned (.int .i64 (rt i : Nat)) ∧ w' = w := by
 have H0 : Hid (BX w lo G xs N tn ∧ BsX xs dn rt rk dp) := ⟨h, d⟩
 have HN : Hid (xs.length ≤ 200000000) := h.num.1
 clear h d
 go_enter Tryz.func79, Tryz.ntmps79
 go_wp2
 go_loop [1] (fun iv => ∃ m : Nat, iv = .int .i64 m ∧ Hid (m < xs.length ∧ rt m = rt i)) (fun iv => rk (intOf iv).toNat)
 case atStart => exact ⟨i, rfl, hi, rfl⟩
 case round =>
  obtain ⟨m, rfl, HP⟩ := hrel
  obtain ⟨hm, hrm⟩ := HP.out
  obtain ⟨hX, hD⟩ := H0.out
  obtain ⟨g, cap, ad, cp, c0, _, ⟨hgG, _⟩, hfr, ⟨_, _, _, n3, _, _⟩, _⟩ := hX.at hm
  have et : xs[m].lk = loP xs m := by unfold loP; rw [getP_at hm]
  rw [et] at n3
  have hnn := HN.out
  have i1 : (0 : Int) ≤ (m : Int) := by omega
  have i2 : (m : Int) < (xs.length : Int) := by omega
  cases q : loP xs m with
  | none =>
   rw [q] at n3
   have hr : rt m = m := (hD.bs.den.root m hm ((hD.root m).1 q)).1
   have HF : Hid (m = rt i) := by show _ = _; rw [← hrm]; exact hr.symm
   have n3' : w.cell? ⟨g, m * 6 + 3, none⟩ = some (.int .i64 (-1)) := n3
   clear hX hD HP hrm hr H0 et n3 hfr
   go_wp2
   go_ret
   exact ⟨by rw [← HF.out]; rfl, rfl⟩
  | some t =>
   rw [q] at n3
   have htg : tgP xs m = t := by unfold tgP; rw [q]; rfl
   have hne : tgP xs m ≠ m := fun e => by
    have := (hD.root m).2 e
    rw [q] at this
    cases this
   obtain ⟨l1, _, l3⟩ := hD.bs.den.link m hm hne
   have ht := hD.bs.den.tow m hm
   rw [htg] at l1 l3 ht
   have HF : Hid (t < xs.length ∧ rt t = rt i) := ⟨ht, l1.symm.trans hrm⟩
   have HM : Hid (rk t < rk m) := l3
   have n3' : w.cell? ⟨g, m * 6 + 3, none⟩ = some (.int .i64 (t : Nat)) := n3
   have j1 : (0 : Int) ≤ (t : Int) := by omega
   clear hX hD HP hrm H0 et n3 hfr q l1 l3 hne htg ht
   go_wp2
   go_round
   case rel => exact ⟨t, by go_num, HF.out⟩
   case measure => simp [intOf]; exact HM.out
end Go.Proofs.YtikpipenhamdbaaGreat

namespace Go.Proofs.YtikpipenhamdbaaGreat
open Go.RowKit Go.Maps

/-- The same places but for marks, which are tn where they are others. -/
structure Em (tn : Nat) (xs ys : List Px) : Prop where
 len : ys.length = xs.length
 lb : lbP ys = lbP xs
 ar : arP ys = arP xs
 lo : loP ys = loP xs
 sz : szQ ys = szQ xs
 mr : ∀ k, mrP ys k = mrP xs k ∨ mrP ys k = tn
theorem Em.refl (tn : Nat) (xs : List Px) : Em tn xs xs := ⟨rfl, rfl, rfl, rfl, rfl, fun _ => .inl rfl⟩
theorem Em.trans {tn : Nat} {xs ys zs : List Px} (h : Em tn xs ys) (k : Em tn ys zs) : Em tn xs zs :=
 ⟨k.len.trans h.len, k.lb.trans h.lb, k.ar.trans h.ar, k.lo.trans h.lo, k.sz.trans h.sz, fun j => by
  rcases k.mr j with q | q
  ·rw [q]; exact h.mr j
  ·exact .inr q⟩
theorem BsX.em {tn : Nat} {xs ys : List Px} {dn : Nat → List Nd} {rt rk : Nat → Nat} {dp : Nat → List Nd} (h : BsX xs dn rt rk dp) (e : Em tn xs ys) : BsX ys dn rt rk dp := h.like e.len e.lb e.ar e.lo
/-- What stands answers. -/
def StP (lo G tn : Nat) (N : List (List UInt8)) (xs : List Px) (dn : Nat → List Nd) (x : Nd) (i : Nat) (w : World) (e : Ending) (w' : World) : Prop :=
 ∃ c : Bool, e = .returned (.bool c) ∧ Bk lo G w w' ∧ ∃ ys, Em tn xs ys ∧ BX w' lo G ys N tn ∧ ((c = true ∧ x ∈ dn i) ∨ (c = false ∧ x ∉ dn i ∧ ∀ k, k < xs.length → mrP ys k = tn → mrP xs k = tn ∨ x ∉ dn k))
/-- Between the rounds of stands. -/
structure StW (lo G tn : Nat) (N : List (List UInt8)) (xs : List Px) (dn : Nat → List Nd) (x : Nd) (r : Nat) (w wr : World) (j : Nat) : Prop where
 bk : Bk lo G w wr
 ex : ∃ ys, Em tn xs ys ∧ BX wr lo G ys N tn ∧ ∀ k, k < xs.length → mrP ys k = tn → mrP xs k = tn ∨ k = r ∨ x ∉ dn k
 no : ∀ q (h : q < (arP xs r).length), q < j → x ∉ dn (arP xs r)[q]
set_option maxHeartbeats 8000000 in
set_option maxRecDepth 10000 in
theorem stands_node {lo G tn v : Nat} {N : List (List UInt8)} {dn : Nat → List Nd} {rt rk : Nat → Nat} {dp : Nat → List Nd} (L : Nat)
  (IH : ∀ (w : World) (xs : List Px) (i : Nat), BX w lo G xs N tn → BsX xs dn rt rk dp → i < xs.length → v < xs.length → loP xs v = none → (lbP xs v).1 = 2 → (dn i).length ≤ L → (∀ k, k < xs.length → mrP xs k = tn → ((2, (lbP xs v).2, 0) : Nd) ∉ dn k ∨ (dn i).length < (dn k).length) → Calls Tryz.prog 95 #[.pointer (some ⟨G, 0, none⟩), .int .i64 v, .int .i64 i] w (StP lo G tn N xs dn (2, (lbP xs v).2, 0) i w))
  (w : World) (xs : List Px) (i : Nat) (hX : BX w lo G xs N tn) (hD : BsX xs dn rt rk dp) (hi : i < xs.length) (hv : v < xs.length) (hvv : loP xs v = none) (hv2 : (lbP xs v).1 = 2) (hL : (dn i).length ≤ L + 1) (hpre : ∀ k, k < xs.length → mrP xs k = tn → ((2, (lbP xs v).2, 0) : Nd) ∉ dn k ∨ (dn i).length < (dn k).length) :
  Calls Tryz.prog 95 #[.pointer (some ⟨G, 0, none⟩), .int .i64 v, .int .i64 i] w (StP lo G tn N xs dn (2, (lbP xs v).2, 0) i w) := by
 have CE := bend_any hX hD i hi
 have den := hD.bs.den
 have hr := den.rt_lt hi
 have hrt := den.rt_tg hi
 have hrd := den.rt_dn hi
 have hform := den.form hi
 obtain ⟨g, cap, ad, cp, c0, ⟨c3, cf3⟩, ⟨hgG, hpb, -⟩, hfr, ⟨n0, n1, n2, n3, n4, n5⟩, harg, -, hM, -⟩ := hX.at hr
 have hnum := hX.num.1
 have em : xs[rt i].mrk = mrP xs (rt i) := by unfold mrP; rw [getP_at hr]
 have ea : xs[rt i].ar = arP xs (rt i) := by unfold arP; rw [getP_at hr]
 rw [em] at n4
 have i1 : (0 : Int) ≤ (rt i : Int) := by omega
 have i2 : (rt i : Int) < (xs.length : Int) := by omega
 have hf4 := hfr (rt i * 6 + 4)
 have e1 : ¬ g = G := hgG
 have e2 : ¬ G = g := fun e => hgG e.symm
 by_cases q1 : rt i = v
 ·have HP : Hid (StP lo G tn N xs dn (2, (lbP xs v).2, 0) i w (.returned (.bool true)) w) := by
   refine ⟨true, rfl, Bk.refl _ _ _, xs, Em.refl _ _, hX, .inl ⟨rfl, ?_⟩⟩
   rw [den.free hi (by rw [q1]; exact hv2), q1]
   exact List.mem_cons_self
  clear hX hD IH hpre hM harg den hform hrd hrt
  rw [q1] at CE
  go_enter Tryz.func95, Tryz.ntmps95
  go_wp2_with (go_at_call 79; (with_reducible refine Calls.mono CE ?_); rintro e' w1 ⟨rfl, rfl⟩)
  go_ret
  exact HP.out
 ·have q1' : ((rt i : Int) == (v : Int)) = false := by simp; omega
  by_cases q2 : mrP xs (rt i) = tn
  ·have HP : Hid (∀ w2, Sm w w2 → StP lo G tn N xs dn (2, (lbP xs v).2, 0) i w (.returned (.bool false)) w2) := fun w2 s => by
    refine ⟨false, rfl, Bk.of_sm s, xs, Em.refl _ _, hX.sm s, .inr ⟨rfl, ?_, fun k _ h => .inl h⟩⟩
    rcases hpre _ hr q2 with q | q
    ·rw [hrd] at q
     exact q
    ·rw [hrd] at q
     omega
   rw [q2] at n4
   clear hX hD IH hpre hM harg den hform hrd hrt q2 em
   go_enter Tryz.func95, Tryz.ntmps95
   go_upto_region 4 with (first | (go_at_call 79; (with_reducible refine Calls.mono CE ?_); rintro e' w1 ⟨rfl, rfl⟩))
   go_quiet (fail)
   go_wp2
   go_ret
   exact HP.out _ ⟨rfl, rfl, rfl, rfl⟩
  ·have q2' : ((mrP xs (rt i) : Int) == (tn : Int)) = false := by simp; omega
   obtain ⟨hM1, hM2⟩ := hM tn
   obtain ⟨z1, z2, z3, z4, z5, z6⟩ := mkP_eq xs hr tn
   have hEm : Em tn xs (mkP xs (rt i) tn) := ⟨z1, z2, z3, z4, z6, fun k => by
    rw [z5]
    by_cases q : k = rt i
    ·rw [q, putN_self]
     exact .inr rfl
    ·rw [putN_other _ _ q]
     exact .inl rfl⟩
   have H0 : Hid (∀ w2, Sm (w.setCell ⟨g, rt i * 6 + 4, none⟩ (.int .i64 tn)) w2 → StW lo G tn N xs dn (2, (lbP xs v).2, 0) (rt i) w w2 0) := fun w2 s => by
    refine ⟨hM2.trans (Bk.of_sm s), ⟨_, hEm, hM1.sm s, fun k hk hm => ?_⟩, fun q _ h => by omega⟩
    rw [z5] at hm
    by_cases q : k = rt i
    ·exact .inr (.inl q)
    ·rw [putN_other _ _ q] at hm
     exact .inl hm
   have hln6 : (arP xs (rt i)).length ≤ 200000000 ∨ True := .inr trivial
   have HALL : Hid (BsX xs dn rt rk dp ∧ (∀ k, k < xs.length → mrP xs k = tn → ((2, (lbP xs v).2, 0) : Nd) ∉ dn k ∨ (dn i).length < (dn k).length) ∧ v < xs.length ∧ loP xs v = none ∧ (lbP xs v).1 = 2 ∧ (dn i).length ≤ L + 1 ∧ i < xs.length ∧ rt i ≠ v) := ⟨hD, hpre, hv, hvv, hv2, hL, hi, q1⟩
   have HIH : Hid (∀ (w : World) (xs : List Px) (i : Nat), BX w lo G xs N tn → BsX xs dn rt rk dp → i < xs.length → v < xs.length → loP xs v = none → (lbP xs v).1 = 2 → (dn i).length ≤ L → (∀ k, k < xs.length → mrP xs k = tn → ((2, (lbP xs v).2, 0) : Nd) ∉ dn k ∨ (dn i).length < (dn k).length) → Calls Tryz.prog 95 #[.pointer (some ⟨G, 0, none⟩), .int .i64 v, .int .i64 i] w (StP lo G tn N xs dn (2, (lbP xs v).2, 0) i w)) := IH
   have HN : Hid (xs.length ≤ 200000000) := hnum
   clear hX hD IH hpre hM harg den hform hrd hrt q2 em hEm hM1 hM2 z1 z2 z3 z4 z5 z6 q1 hv2 hvv hL hln6
   go_enter Tryz.func95, Tryz.ntmps95
   go_upto_region 4 with (first | (go_at_call 79; (with_reducible refine Calls.mono CE ?_); rintro e' w1 ⟨rfl, rfl⟩))
   go_quiet (fail)
   go_upto_region 6 with fail
   go_region
   go_wp2
   go_loopw [7] (fun iv wr => ∃ j : Nat, j ≤ (arP xs (rt i)).length ∧ iv = .int .i64 j ∧ Hid (StW lo G tn N xs dn (2, (lbP xs v).2, 0) (rt i) w1 wr j)) (fun iv _ => (arP xs (rt i)).length - (intOf iv).toNat)
   case atStart => exact ⟨0, by omega, by go_num, H0.out _ ⟨rfl, rfl, rfl, rfl⟩⟩
   case round =>
    obtain ⟨j, hj, rfl, HP⟩ := hrel
    clear H0 c0 c3 cf3 hpb hfr n0 n1 n2 n3 n4 n5 hf4 CE ea
    obtain ⟨hbk, ⟨ys, hE, hY, hmark⟩, hno⟩ := HP.out
    obtain ⟨hD, hpre, -, hvv, hv2, hL, -, hne⟩ := HALL.out
    have hry : rt i < ys.length := by rw [hE.len]; exact hr
    have hj6 := hD.few (rt i)
    obtain ⟨g', cap', ad', cp', c0, -, ⟨hgG', -⟩, -, ⟨-, -, n2, -, -, -⟩, harg, -⟩ := hY.at hry
    have ea : ys[rt i].ar = arP xs (rt i) := by
     rw [← hE.ar]
     unfold arP
     rw [getP_at hry]
    rw [ea] at n2 harg
    have i2' : (rt i : Int) < (ys.length : Int) := by omega
    by_cases hlt : j < (arP xs (rt i)).length
    ·have hlt' : (j : Int) < ((arP xs (rt i)).length : Int) := by omega
     have j1 : (0 : Int) ≤ (j : Int) := by omega
     obtain ⟨ga, cur, rfl, hcp, ⟨hgaG, -⟩, hga, hcur⟩ := harg (fun e => by rw [e] at hlt; simp at hlt)
     have a0 : wr.cell? ⟨ga, j, none⟩ = some (.int .i64 ((arP xs (rt i))[j] : Nat)) := by
      simp only [World.cell?, hga]
      simpa using hcur j hlt
     have ham : (arP xs (rt i))[j] ∈ arP xs (rt i) := List.getElem_mem hlt
     have hal : (arP xs (rt i))[j] < xs.length := hD.bs.den.argr hi ham
     have hlen := hD.bs.den.less hi ham
     have hrd := hD.bs.den.rt_dn hi
     have CS := HIH.out wr ys (arP xs (rt i))[j] hY (hD.em hE) (by rw [hE.len]; exact hal) (by rw [hE.len]; exact hv) (by rw [hE.lo]; exact hvv) (by rw [hE.lb]; exact hv2) (by omega) (fun k hk hm => by
      rw [hE.len] at hk
      rw [hE.lb]
      rcases hmark k hk hm with q | q | q
      ·rcases hpre k hk q with q | q
       ·exact .inl q
       ·exact .inr (by omega)
      ·rw [q, hrd]
       exact .inr hlen
      ·exact .inl q)
     have C1 : Calls Tryz.prog 95 #[.pointer (some ⟨G, 0, none⟩), .int .i64 v, .int .i64 ((arP xs (rt i))[j] : Nat)] wr fun e w' => ∃ c : Bool, e = .returned (.bool c) ∧ ((c = true ∧ ((2, (lbP xs v).2, 0) : Nd) ∈ dn (arP xs (rt i))[j] ∧ StP lo G tn N xs dn (2, (lbP xs v).2, 0) i w1 (.returned (.bool true)) w') ∨ (c = false ∧ ((2, (lbP xs v).2, 0) : Nd) ∉ dn (arP xs (rt i))[j] ∧ StW lo G tn N xs dn (2, (lbP xs v).2, 0) (rt i) w1 w' (j + 1))) := by
      refine Calls.mono CS ?_
      rintro e w' ⟨c, rfl, hk2, zs, hE2, hZ, hc⟩
      rw [hE.lb] at hc
      refine ⟨c, rfl, ?_⟩
      rcases hc with ⟨rfl, hin⟩ | ⟨rfl, hout, hmk⟩
      ·refine .inl ⟨rfl, hin, true, rfl, hbk.trans hk2, zs, hE.trans hE2, hZ, .inl ⟨rfl, ?_⟩⟩
       rw [hD.bs.den.form hi]
       exact List.mem_cons_of_mem _ (List.mem_flatMap.2 ⟨_, ham, hin⟩)
      ·refine .inr ⟨rfl, hout, hbk.trans hk2, ⟨zs, hE.trans hE2, hZ, fun k hk hm => ?_⟩, fun q hq hqj => ?_⟩
       ·rcases hmk k (by rw [hE.len]; exact hk) hm with q | q
        ·exact hmark k hk q
        ·exact .inr (.inr q)
       ·by_cases e : q = j
        ·subst e
         exact hout
        ·exact hno q hq (by omega)
     have HJ : Hid (j < (arP xs (rt i)).length) := hlt
     clear HP CS hY hE hmark hno harg hD hpre hvv hv2 hL hne hbk hcur hga ham hal hlen hrd ea
     by_cases hin : ((2, (lbP xs v).2, 0) : Nd) ∈ dn (arP xs (rt i))[j]
     ·have C2 : Calls Tryz.prog 95 #[.pointer (some ⟨G, 0, none⟩), .int .i64 v, .int .i64 ((arP xs (rt i))[j] : Nat)] wr fun e w' => e = .returned (.bool true) ∧ Hid (StP lo G tn N xs dn (2, (lbP xs v).2, 0) i w1 (.returned (.bool true)) w') := by
       refine Calls.mono C1 ?_
       rintro e w' ⟨c, rfl, ⟨rfl, _, q⟩ | ⟨_, q, _⟩⟩
       ·exact ⟨rfl, q⟩
       ·exact absurd hin q
      clear C1 hin
      generalize (arP xs (rt i))[j] = aj at *
      clear hlt
      go_wp2_with (go_at_call 95; (with_reducible refine Calls.mono C2 ?_); rintro e' w5 ⟨rfl, H5⟩)
      go_ret
      exact H5.out
     ·have C2 : Calls Tryz.prog 95 #[.pointer (some ⟨G, 0, none⟩), .int .i64 v, .int .i64 ((arP xs (rt i))[j] : Nat)] wr fun e w' => e = .returned (.bool false) ∧ Hid (StW lo G tn N xs dn (2, (lbP xs v).2, 0) (rt i) w1 w' (j + 1)) := by
       refine Calls.mono C1 ?_
       rintro e w' ⟨c, rfl, ⟨_, q, _⟩ | ⟨rfl, _, q⟩⟩
       ·exact absurd q hin
       ·exact ⟨rfl, q⟩
      clear C1 hin
      generalize (arP xs (rt i))[j] = aj at *
      clear hlt
      go_wp2_with (go_at_call 95; (with_reducible refine Calls.mono C2 ?_); rintro e' w5 ⟨rfl, H5⟩)
      go_roundw
      case rel => exact ⟨j + 1, HJ.out, by go_num, H5.out⟩
      case measure => have := HJ.out; simp [intOf]; omega
    ·have hlt' : ¬ (j : Int) < ((arP xs (rt i)).length : Int) := by omega
     have HF : Hid (StP lo G tn N xs dn (2, (lbP xs v).2, 0) i w1 (.returned (.bool false)) wr) := by
      refine ⟨false, rfl, hbk, ys, hE, hY, .inr ⟨rfl, ?_⟩⟩
      have key : ((2, (lbP xs v).2, 0) : Nd) ∉ dn i := by
       rw [hD.bs.den.form hi]
       intro hm
       rcases List.mem_cons.1 hm with e | e
       ·injection e with a1 a2
        injection a2 with a2 _
        exact hne (hD.bs.den.uni _ _ hr hv a1.symm hv2 a2.symm)
       ·obtain ⟨a, ha, hin⟩ := List.mem_flatMap.1 e
        obtain ⟨q, hq, rfl⟩ := List.getElem_of_mem ha
        exact hno q hq (by omega) hin
      refine ⟨key, fun k hk hm => ?_⟩
      rcases hmark k hk hm with q | q | q
      ·exact .inl q
      ·rw [q, hD.bs.den.rt_dn hi]
       exact .inr key
      ·exact .inr q
     clear HP hY hE hmark hno harg hD hpre hvv hv2 hL hne hbk ea
     go_wp2
     go_ret
     exact HF.out
theorem stands_any {lo G tn v : Nat} {N : List (List UInt8)} {dn : Nat → List Nd} {rt rk : Nat → Nat} {dp : Nat → List Nd} : ∀ (L : Nat) (w : World) (xs : List Px) (i : Nat), BX w lo G xs N tn → BsX xs dn rt rk dp → i < xs.length → v < xs.length → loP xs v = none → (lbP xs v).1 = 2 → (dn i).length ≤ L → (∀ k, k < xs.length → mrP xs k = tn → ((2, (lbP xs v).2, 0) : Nd) ∉ dn k ∨ (dn i).length < (dn k).length) → Calls Tryz.prog 95 #[.pointer (some ⟨G, 0, none⟩), .int .i64 v, .int .i64 i] w (StP lo G tn N xs dn (2, (lbP xs v).2, 0) i w)
 | 0, _, _, _, _, hD, hi, _, _, _, hL, _ => by
  rw [hD.bs.den.form hi] at hL
  simp at hL
 | L + 1, w, xs, i, h1, h2, h3, h4, h5, h6, h7, h8 => stands_node L (stands_any L) w xs i h1 h2 h3 h4 h5 h6 h7 h8
end Go.Proofs.YtikpipenhamdbaaGreat

namespace Go.Proofs.YtikpipenhamdbaaGreat
open Go.RowKit Go.Maps

/-- What the board means while pairs are made to agree. -/
structure Bm (xs : List Px) (tn : Nat) (dn : Nat → List Nd) (rt rk : Nat → Nat) (dp : Nat → List Nd) : Prop where
 bx : BsX xs dn rt rk dp
 mr : ∀ k, mrP xs k ≤ tn
 cnt : tn + cv (lbP xs) rt xs.length ≤ xs.length
/-- The same places, but for where they lead and for marks. -/
structure Sx (xs ys : List Px) : Prop where
 len : ys.length = xs.length
 lb : lbP ys = lbP xs
 ar : arP ys = arP xs
 sz : szQ ys = szQ xs
theorem Sx.refl (xs : List Px) : Sx xs xs := ⟨rfl, rfl, rfl, rfl⟩
theorem Sx.trans {xs ys zs : List Px} (h : Sx xs ys) (k : Sx ys zs) : Sx xs zs := ⟨k.len.trans h.len, k.lb.trans h.lb, k.ar.trans h.ar, k.sz.trans h.sz⟩
/-- What is so when two places agree: l is bound besides; what was led anew stands within a. -/
def AgOk (lo G : Nat) (N : List (List UInt8)) (xs : List Px) (dp : Nat → List Nd) (l : List (List UInt8 × List Nd)) (a : Nat) (w' : World) : Prop :=
 ∃ (tn : Nat) (ys : List Px) (dn : Nat → List Nd) (rt rk : Nat → Nat), BX w' lo G ys N tn ∧ Bm ys tn dn rt rk (fun k => subL l (dp k)) ∧ Sx xs ys ∧ ∀ k, k < xs.length → tgP xs k = k → tgP ys k ≠ k → PartE (subL l (dp k)) (subL l (dp a))
/-- What agree and bind answer, where the steps say x. -/
def AgP (lo G : Nat) (N : List (List UInt8)) (xs : List Px) (dp : Nat → List Nd) (x : Uans) (a : Nat) (w : World) (e : Ending) (w' : World) : Prop :=
 Bk lo G w w' ∧ ((∃ c : Int, x = .inl c ∧ e = .returned (.int .i64 c)) ∨ ∃ l, x = .inr l ∧ e = .returned (.int .i64 0) ∧ AgOk lo G N xs dp l a w')
theorem cv_lead {lb : Nat → Int × List UInt8} {rt : Nat → Nat} {i t n : Nat} (hi : i < n) (h2 : (lb i).1 = 2) (hii : rt i = i) (htt : rt t = t) (hne : i ≠ t) : cv lb (lrt rt i t) n + 1 ≤ cv lb rt n := by
 refine cv_less lb rt (lrt rt i t) i h2 hii ?_ (fun k hk q => ⟨q.1, ?_⟩) n hi
 ·unfold lrt
  rw [if_pos hii]
  exact fun e => hne e.symm
 ·have q2 := q.2
  unfold lrt at q2
  split at q2
  ·rename_i e
   rw [← q2, htt] at e
   exact absurd e.symm hne
  ·exact q2
set_option maxHeartbeats 8000000 in
set_option maxRecDepth 10000 in
theorem bind_any' {lo G tn v t f a : Nat} {N : List (List UInt8)} {xs : List Px} {dn : Nat → List Nd} {rt rk : Nat → Nat} {dp : Nat → List Nd} {x : Uans} (w : World) (hX : BX w lo G xs N tn) (hM : Bm xs tn dn rt rk dp) (hv : v < xs.length) (ht : t < xs.length) (hvv : loP xs v = none) (htt : loP xs t = none) (hne : v ≠ t) (h2 : (lbP xs v).1 = 2) (ha : a = v ∨ a = t)
  (hu : uniF f (dp v) (dp t) = some x ∨ uniF f (dp t) (dp v) = some x ∧ (lbP xs t).1 ≠ 2) :
  Calls Tryz.prog 80 #[.pointer (some ⟨G, 0, none⟩), .int .i64 v, .int .i64 t] w (AgP lo G N xs dp x a w) := by
 have hD := hM.bx
 have hnum := hX.num.1
 have htn : tn ≤ xs.length := by have := hM.cnt; omega
 obtain ⟨hT1, hT2⟩ := hX.turn (tn + 1)
 have hrun := hD.bs.bind hv ht ((hD.root v).1 hvv) ((hD.root t).1 htt) hne h2 hu
 have CS := stands_any (v := v) _ _ xs t hT1 hD ht hv hvv h2 (Nat.le_refl _) (fun k _ hm => by have := hM.mr k; omega)
 have ev : ((tn + 1 : Nat) : Int) = (tn : Int) + 1 := by omega
 rw [ev] at hT2 CS
 obtain ⟨g, cap, ad, cp, c0, ⟨c3, cf3⟩, ⟨hgG, hpb, -⟩, -, -, -⟩ := hX.at hv
 have hrt : rt v = v ∧ rt t = t := ⟨(hD.bs.den.root v hv ((hD.root v).1 hvv)).1, (hD.bs.den.root t ht ((hD.root t).1 htt)).1⟩
 have hcnt := hM.cnt
 have hmr := hM.mr
 have i1 : (0 : Int) ≤ (v : Int) := by omega
 have i2 : (v : Int) < (xs.length : Int) := by omega
 by_cases hin : ((2, (lbP xs v).2, 0) : Nd) ∈ dn t
 ·have hx : x = .inl 51 := by
   rcases hrun with ⟨_, q⟩ | ⟨q, _⟩
   ·exact q
   ·exact absurd hin q
  have C2 : Calls Tryz.prog 95 #[.pointer (some ⟨G, 0, none⟩), .int .i64 v, .int .i64 t] (w.setCell ⟨G, 3, none⟩ (.int .i64 ((tn : Int) + 1))) fun e w' => e = .returned (.bool true) ∧ Hid (AgP lo G N xs dp x a w (.returned (.int .i64 51)) w') := by
   refine Calls.mono CS ?_
   rintro e w' ⟨c, rfl, hk2, ys, hE, hY, ⟨rfl, _⟩ | ⟨_, q, _⟩⟩
   ·exact ⟨rfl, hT2.trans hk2, .inl ⟨51, hx, rfl⟩⟩
   ·exact absurd hin q
  clear CS hrun hT1 hT2 hX hM hD hin hx hu hcnt hmr h2 hvv htt hrt
  go_enter Tryz.func80, Tryz.ntmps80
  go_wp2_with (go_at_call 95; (with_reducible refine Calls.mono C2 ?_); rintro e' w5 ⟨rfl, H5⟩)
  go_ret
  exact H5.out
 ·obtain ⟨l, hx, hB, hdl⟩ : ∃ l, x = .inr l ∧ Bs xs.length (lbP xs) (arP xs) (putN (tgP xs) v t) (ldn (lbP xs) dn v t) (lrt rt v t) (lrk rt rk v t) (fun k => subL l (dp k)) ∧ subL l (dp v) = subL l (dp t) := by
   rcases hrun with ⟨q, _⟩ | ⟨_, q⟩
   ·exact absurd q hin
   ·exact q
  have C2 : Calls Tryz.prog 95 #[.pointer (some ⟨G, 0, none⟩), .int .i64 v, .int .i64 t] (w.setCell ⟨G, 3, none⟩ (.int .i64 ((tn : Int) + 1))) fun e w' => e = .returned (.bool false) ∧ ∃ g cap u, w'.cell? ⟨G, 0, none⟩ = some (.slice (some ⟨g, 0, none⟩) xs.length cap) ∧ w'.cell? ⟨g, v * 6 + 3, none⟩ = some u ∧ w'.frozen? ⟨g, v * 6 + 3, none⟩ = false ∧ Hid (AgP lo G N xs dp x a w (.returned (.int .i64 0)) (w'.setCell ⟨g, v * 6 + 3, none⟩ (.int .i64 t))) := by
   refine Calls.mono CS ?_
   rintro e w' ⟨c, rfl, hk2, ys, hE, hY, ⟨_, q⟩ | ⟨rfl, hout, hmk⟩⟩
   ·exact absurd q hin
   ·have hvy : v < ys.length := by rw [hE.len]; exact hv
    obtain ⟨g', cap', ad', cp', c0', -, -, hfr', ⟨-, -, -, n3, -, -⟩, -, hL, -⟩ := hY.at hvy
    obtain ⟨hL1, hL2⟩ := hL t
    obtain ⟨z1, z2, z3, z4, z5, z6, z7⟩ := lkP_eq ys hvy t
    have hty : tgP ys = tgP xs := by funext j; unfold tgP; rw [hE.lo]
    refine ⟨rfl, g', cap', _, by rw [← hE.len]; exact c0', n3, hfr' _, (hT2.trans hk2).trans hL2, .inr ⟨l, hx, rfl, tn + 1, lkP ys v t, ldn (lbP xs) dn v t, lrt rt v t, lrk rt rk v t, hL1, ⟨⟨?_, fun k => ?_, ?_⟩, fun k => ?_, ?_⟩, ⟨z1.trans hE.len, z2.trans hE.lb, z3.trans hE.ar, z6.trans hE.sz⟩, fun k hk h0 h1 => ?_⟩⟩
    ·rw [z1, z2, z3, z4, hE.len, hE.lb, hE.ar, hty]
     exact hB
    ·rw [z7, hE.lo]
     split
     ·rename_i q
      rw [q]
      exact fun e => hne (Option.some.inj e).symm
     ·exact hD.slf k
    ·rw [z3, hE.ar]
     exact hD.few
    ·rw [z5]
     rcases hE.mr k with q | q
     ·have := hmr k
      omega
     ·omega
    ·rw [z1, z2, hE.len, hE.lb]
     have := cv_lead (lb := lbP xs) (rt := rt) hv h2 hrt.1 hrt.2 hne
     omega
    ·rw [z4, hty] at h1
     by_cases q : k = v
     ·rw [q]
      rcases ha with e | e
      ·rw [e]
       exact .inl rfl
      ·rw [e]
       exact .inl hdl
     ·rw [putN_other _ _ q] at h1
      exact absurd h0 h1
  clear CS hrun hT1 hT2 hX hM hD hin hx hu hcnt hmr h2 hvv htt hrt hB hdl
  go_enter Tryz.func80, Tryz.ntmps80
  go_wp2_with (go_at_call 95; (with_reducible refine Calls.mono C2 ?_); rintro e' w5 ⟨rfl, g5, cap5, u5, d0, d1, d2, H5⟩)
  go_ret
  exact H5.out
end Go.Proofs.YtikpipenhamdbaaGreat

namespace Go.Proofs.YtikpipenhamdbaaGreat
open Go.RowKit Go.Maps

/-- What agree does, where so many steps are enough. -/
def AgAll (lo G : Nat) (N : List (List UInt8)) (f : Nat) : Prop :=
 ∀ (w : World) (tn : Nat) (xs : List Px) (dn : Nat → List Nd) (rt rk : Nat → Nat) (dp : Nat → List Nd) (i j : Nat) (x : Uans), BX w lo G xs N tn → Bm xs tn dn rt rk dp → i < xs.length → j < xs.length → uniF f (dp i) (dp j) = some x → Calls Tryz.prog 57 #[.pointer (some ⟨G, 0, none⟩), .int .i64 i, .int .i64 j] w (AgP lo G N xs dp x i w)
theorem AgP.of {lo G : Nat} {N : List (List UInt8)} {xs : List Px} {dp : Nat → List Nd} {x : Uans} {a b : Nat} {w w1 : World} {e : Ending} {w' : World} (h : AgP lo G N xs dp x a w1 e w') (hk : Bk lo G w w1) (hab : dp a = dp b) : AgP lo G N xs dp x b w e w' := by
 obtain ⟨h1, h2⟩ := h
 refine ⟨hk.trans h1, ?_⟩
 rcases h2 with h2 | ⟨l, e1, e2, tn, ys, dn, rt, rk, g1, g2, g3, g4⟩
 ·exact .inl h2
 ·exact .inr ⟨l, e1, e2, tn, ys, dn, rt, rk, g1, g2, g3, by rw [← hab]; exact g4⟩
/-- Between the Args. -/
structure AgW (lo G : Nat) (N : List (List UInt8)) (xs : List Px) (dp : Nat → List Nd) (A B f : Nat) (x : Uans) (w2 wr : World) (m : Nat) : Prop where
 bk : Bk lo G w2 wr
 ex : ∃ (tn : Nat) (ys : List Px) (dn : Nat → List Nd) (rt rk : Nat → Nat) (dq : Nat → List Nd), BX wr lo G ys N tn ∧ Bm ys tn dn rt rk dq ∧ Sx xs ys ∧ Ag xs.length (lbP xs) (arP xs) dp (tgP xs) A B f x m (tgP ys) dn rt rk dq
theorem Ag.rootA {n : Nat} {lb : Nat → Int × List UInt8} {ar : Nat → List Nat} {tg : Nat → Nat} {dn : Nat → List Nd} {rt rk : Nat → Nat} {dp : Nat → List Nd} {tg0 : Nat → Nat} {dp0 : Nat → List Nd} {i j f m : Nat} {x : Uans} (h : Ag n lb ar dp0 tg0 i j f x m tg dn rt rk dp) (hi : i < n) (hii : tg0 i = i) : tg i = i :=
 Decidable.byContradiction fun q => by
  have := (h.led i hi hii q).less
  omega
/-- The last step: the first place is led to the second. -/
theorem AgW.done {lo G f A B m : Nat} {N : List (List UInt8)} {xs : List Px} {dn0 : Nat → List Nd} {rt0 rk0 : Nat → Nat} {dp : Nat → List Nd} {x : Uans} {w2 wr : World} (hD0 : BsX xs dn0 rt0 rk0 dp) (h : AgW lo G N xs dp A B f x w2 wr m) (hA : A < xs.length) (hB : B < xs.length) (hAA : tgP xs A = A) (hBB : tgP xs B = B) (hne : A ≠ B) (hB2 : (lbP xs B).1 ≠ 2) (hm : (arP xs A).length ≤ m) (hm' : (arP xs B).length ≤ m) (hu : uniF f (dp A) (dp B) = some x) :
  ∃ g cap u, wr.cell? ⟨G, 0, none⟩ = some (.slice (some ⟨g, 0, none⟩) xs.length cap) ∧ wr.cell? ⟨g, A * 6 + 3, none⟩ = some u ∧ wr.frozen? ⟨g, A * 6 + 3, none⟩ = false ∧ AgP lo G N xs dp x A w2 (.returned (.int .i64 0)) (wr.setCell ⟨g, A * 6 + 3, none⟩ (.int .i64 B)) := by
 obtain ⟨hbk, tn, ys, dn, rt, rk, dq, hY, hM, hS, hAg⟩ := h
 have hAy : A < ys.length := by rw [hS.len]; exact hA
 obtain ⟨g, cap, ad, cp, c0, -, -, hfr, ⟨-, -, -, n3, -, -⟩, -, hL, -⟩ := hY.at hAy
 obtain ⟨hL1, hL2⟩ := hL B
 obtain ⟨z1, z2, z3, z4, z5, z6, z7⟩ := lkP_eq ys hAy B
 obtain ⟨ti, tj, l, hx, hdq, hij, hBs, hled⟩ := hAg.done hD0.bs hA hB hAA hBB hne hm hm' hu
 subst hdq
 refine ⟨g, cap, _, by rw [← hS.len]; exact c0, n3, hfr _, hbk.trans hL2, .inr ⟨l, hx, rfl, tn, lkP ys A B, dn, lrt rt A B, lrk rt rk A B, hL1, ⟨⟨?_, fun k => ?_, ?_⟩, fun k => ?_, ?_⟩, ⟨z1.trans hS.len, z2.trans hS.lb, z3.trans hS.ar, z6.trans hS.sz⟩, fun k hk h0 h1 => ?_⟩⟩
 ·rw [z1, z2, z3, z4, hS.len, hS.lb, hS.ar]
  exact hBs
 ·rw [z7]
  split
  ·rename_i q
   rw [q]
   exact fun e => hne (Option.some.inj e).symm
  ·exact hM.bx.slf k
 ·rw [z3]
  exact hM.bx.few
 ·rw [z5]
  exact hM.mr k
 ·rw [z1, z2]
  have := cv_mono (lbP ys) (lbP ys) rt (lrt rt A B) ys.length fun k hk q => ⟨q.1, by
   have q2 := q.2
   unfold lrt at q2
   split at q2
   ·rw [← q2, hS.lb] at q
    exact absurd q.1 hB2
   ·exact q2⟩
  have := hM.cnt
  omega
 ·rw [z4] at h1
  exact hled k hk h0 h1
set_option maxHeartbeats 16000000 in
set_option maxRecDepth 10000 in
theorem agree_node {lo G : Nat} {N : List (List UInt8)} (f : Nat) (IH : ∀ g, g < f → AgAll lo G N g) : AgAll lo G N f := by
 intro w tn xs dn rt rk dp i j x hX hM hi hj hu
 have hD := hM.bx
 have CE1 := bend_any hX hD i hi
 have CE2 := bend_any hX hD j hj
 have den := hD.bs.den
 have hA := den.rt_lt hi
 have hB := den.rt_lt hj
 have hAA := den.rt_tg hi
 have hBB := den.rt_tg hj
 have dA := hD.bs.rt_dp hi
 have dB := hD.bs.rt_dp hj
 have hnum := hX.num
 by_cases hAB : rt i = rt j
 ·obtain ⟨hx, _⟩ := hD.bs.same hi hj hAB hu
  have HF : Hid (AgP lo G N xs dp x i w (.returned (.int .i64 0)) w) := ⟨Bk.refl _ _ _, .inr ⟨[], hx, rfl, tn, xs, dn, rt, rk, hX, hM, Sx.refl _, fun k _ h0 h1 => absurd h0 h1⟩⟩
  rw [← hAB] at CE2
  clear hX hM hD den hA hB hAA hBB dA dB IH hu hx hAB
  go_enter Tryz.func57, Tryz.ntmps57
  go_wp2_with (first | (go_at_call 79; (with_reducible refine Calls.mono CE1 ?_); rintro e' w1 ⟨rfl, rfl⟩) | (go_at_call 79; (with_reducible refine Calls.mono CE2 ?_); rintro e' w1 ⟨rfl, rfl⟩))
  go_ret
  exact HF.out
 ·rw [← dA, ← dB] at hu
  generalize rt i = A at *
  generalize rt j = B at *
  obtain ⟨g, cap, adA, cpA, c0, -, ⟨hgG, hpb, hgl⟩, -, ⟨a0, a1, a2, a3, a4, a5⟩, hargA, -⟩ := hX.at hA
  obtain ⟨g', cap', adB, cpB, c0', -, -, -, ⟨b0, b1, b2, b3, b4, b5⟩, hargB, -⟩ := hX.at hB
  rw [c0] at c0'
  have eg := slice_block c0'
  subst eg
  clear c0'
  have ea1 : xs[A].kd = (lbP xs A).1 ∧ xs[A].nm = (lbP xs A).2 ∧ xs[A].ar = arP xs A := by unfold lbP arP; rw [getP_at hA]; exact ⟨rfl, rfl, rfl⟩
  have eb1 : xs[B].kd = (lbP xs B).1 ∧ xs[B].nm = (lbP xs B).2 ∧ xs[B].ar = arP xs B := by unfold lbP arP; rw [getP_at hB]; exact ⟨rfl, rfl, rfl⟩
  rw [ea1.1] at a0
  rw [ea1.2.1] at a1
  rw [ea1.2.2] at a2 hargA
  rw [eb1.1] at b0
  rw [eb1.2.1] at b1
  rw [eb1.2.2] at b2 hargB
  clear ea1 eb1
  generalize xs[A].lk = lkA at *
  generalize xs[A].mrk = mkA at *
  generalize xs[A].sz = szA at *
  generalize xs[B].lk = lkB at *
  generalize xs[B].mrk = mkB' at *
  generalize xs[B].sz = szB at *
  obtain ⟨W, hW⟩ : ∃ W, W = (w.alloc (Obj.cells #[.int .i64 (lbP xs A).1, .string ⟨(lbP xs A).2.toArray⟩, .slice adA (arP xs A).length cpA, .int .i64 (lkV lkA), .int .i64 mkA, .int .i64 szA] 128)).alloc (Obj.cells #[.int .i64 (lbP xs B).1, .string ⟨(lbP xs B).2.toArray⟩, .slice adB (arP xs B).length cpB, .int .i64 (lkV lkB), .int .i64 mkB', .int .i64 szB] 128) := ⟨_, rfl⟩
  have hbW : Below w.heap.size w W := by rw [hW]; exact ((Below.refl _ _).alloc (Nat.le_refl _) _).alloc (by simp) _
  have hkW : Bk lo G w W := Bk.of_below hbW hnum.2.1 hnum.2.2.1
  have hz1 : W.heap[w.heap.size]? = some (.cells #[.int .i64 (lbP xs A).1, .string ⟨(lbP xs A).2.toArray⟩, .slice adA (arP xs A).length cpA, .int .i64 (lkV lkA), .int .i64 mkA, .int .i64 szA] 128 (0, 0)) := by
   rw [hW]
   show ((w.heap.push _).push _)[w.heap.size]? = _
   rw [Array.getElem?_push_lt (by simp)]
   simp
  have hz2 : W.heap[w.heap.size + 1]? = some (.cells #[.int .i64 (lbP xs B).1, .string ⟨(lbP xs B).2.toArray⟩, .slice adB (arP xs B).length cpB, .int .i64 (lkV lkB), .int .i64 mkB', .int .i64 szB] 128 (0, 0)) := by
   rw [hW]
   show ((w.heap.push _).push _)[w.heap.size + 1]? = _
   rw [Array.getElem?_push, if_pos (by simp)]
  have hXW := hX.below hbW
  obtain ⟨⟨x0, x1, x2, x3, x4, x5⟩, -⟩ := six_cells hz1
  obtain ⟨⟨y0, y1, y2, y3, y4, y5⟩, -⟩ := six_cells hz2
  have i1 : (0 : Int) ≤ (A : Int) := by omega
  have i2 : (A : Int) < (xs.length : Int) := by omega
  have j1 : (0 : Int) ≤ (B : Int) := by omega
  have j2 : (B : Int) < (xs.length : Int) := by omega
  have hne : ((A : Int) == (B : Int)) = false := by simp; omega
  have HNE : Hid (A ≠ B) := hAB
  go_enter Tryz.func57, Tryz.ntmps57
  go_upto_region 7 with (first | (go_at_call 79; (with_reducible refine Calls.mono CE1 ?_); rintro e' w1 ⟨rfl, rfl⟩) | (go_at_call 79; (with_reducible refine Calls.mono CE2 ?_); rintro e' w1 ⟨rfl, rfl⟩))
  rw [← hW]
  have hlA : loP xs A = none := (hD.root A).2 hAA
  have hlB : loP xs B = none := (hD.root B).2 hBB
  have HKW : Hid (Bk lo G w1 W ∧ dp A = dp i) := ⟨hkW, dA⟩
  by_cases hA2 : (lbP xs A).1 = 2
  ·have CB : Calls Tryz.prog 80 #[.pointer (some ⟨G, 0, none⟩), .int .i64 A, .int .i64 B] W fun e w' => ∃ c : Int, e = .returned (.int .i64 c) ∧ Hid (AgP lo G N xs dp x i w1 (.returned (.int .i64 c)) w') := by
    refine Calls.mono (bind_any' W hXW hM hA hB hlA hlB hAB hA2 (a := A) (.inl rfl) (.inl hu)) ?_
    intro e w' h
    have h' := AgP.of h hkW dA
    rcases id h'.2 with ⟨c, _, rfl⟩ | ⟨l, _, rfl, _⟩
    ·exact ⟨c, rfl, h'⟩
    ·exact ⟨0, rfl, h'⟩
   rw [hA2] at x0
   clear hX hM hD den hA hB hAA hBB dA dB IH hu CE1 CE2 hargA hargB hXW hkW hbW hz1 hz2 hW a0 a1 a2 a3 a4 a5 b0 b1 b2 b3 b4 b5 c0 x1 x2 x3 x4 x5 y0 y1 y2 y3 y4 y5 hpb hgl hA2
   go_wp2_with (go_at_call 80; (with_reducible refine Calls.mono CB ?_); rintro e' w5 ⟨c5, rfl, H5⟩)
   go_ret
   exact H5.out
  ·have hA2b : ((lbP xs A).1 == 2) = false := by simpa using hA2
   by_cases hB2 : (lbP xs B).1 = 2
   ·have CB : Calls Tryz.prog 80 #[.pointer (some ⟨G, 0, none⟩), .int .i64 B, .int .i64 A] W fun e w' => ∃ c : Int, e = .returned (.int .i64 c) ∧ Hid (AgP lo G N xs dp x i w1 (.returned (.int .i64 c)) w') := by
     refine Calls.mono (bind_any' W hXW hM hB hA hlB hlA (Ne.symm hAB) hB2 (a := A) (.inr rfl) (.inr ⟨hu, hA2⟩)) ?_
     intro e w' h
     have h' := AgP.of h hkW dA
     rcases id h'.2 with ⟨c, _, rfl⟩ | ⟨l, _, rfl, _⟩
     ·exact ⟨c, rfl, h'⟩
     ·exact ⟨0, rfl, h'⟩
    rw [hB2] at y0
    clear hX hM hD den hA hB hAA hBB dA dB IH hu CE1 CE2 hargA hargB hXW hkW hbW hz1 hz2 hW a0 a1 a2 a3 a4 a5 b0 b1 b2 b3 b4 b5 c0 x1 x2 x3 x4 x5 y1 y2 y3 y4 y5 hpb hgl hB2
    go_wp2_with (go_at_call 80; (with_reducible refine Calls.mono CB ?_); rintro e' w5 ⟨c5, rfl, H5⟩)
    go_ret
    exact H5.out
   ·have hB2b : ((lbP xs B).1 == 2) = false := by simpa using hB2
    have hnb : ((⟨(lbP xs A).2.toArray⟩ : ByteArray).toList == (⟨(lbP xs B).2.toArray⟩ : ByteArray).toList) = decide ((lbP xs A).2 = (lbP xs B).2) := by
     rw [bytes_list, bytes_list]
     by_cases q : (lbP xs A).2 = (lbP xs B).2
     ·rw [q]; simp
     ·simp [q]
    have hL1 : (arP xs A).length ≤ 6 := hD.few _
    have hL2 : (arP xs B).length ≤ 6 := hD.few _
    by_cases hsm : (lbP xs A).1 = (lbP xs B).1 ∧ (lbP xs A).2 = (lbP xs B).2 ∧ (arP xs A).length = (arP xs B).length
    ·obtain ⟨e1, e2, e3⟩ := hsm
     have hA0 : AgW lo G N xs dp A B f x W W 0 := ⟨Bk.refl _ _ _, tn, xs, dn, rt, rk, dp, hXW, hM, Sx.refl _, Ag.start hD.bs hA hB hAA hBB hA2 e1 e2 e3 hu⟩
     have hpW : pb W G = some g := by rw [pb_same (hbW.block G hnum.2.2.1)]; exact hpb
     have HBX : Hid (∀ wr, Bk lo G W wr → wr.heap[w1.heap.size]? = some (.cells #[.int .i64 (lbP xs A).1, .string ⟨(lbP xs A).2.toArray⟩, .slice adA (arP xs A).length cpA, .int .i64 (lkV lkA), .int .i64 mkA, .int .i64 szA] 128 (0, 0)) ∧ wr.heap[w1.heap.size + 1]? = some (.cells #[.int .i64 (lbP xs B).1, .string ⟨(lbP xs B).2.toArray⟩, .slice adB (arP xs B).length cpB, .int .i64 (lkV lkB), .int .i64 mkB', .int .i64 szB] 128 (0, 0))) := fun wr hk => by
      refine ⟨hk.keep _ _ hz1 (by omega) (fun q => ?_), hk.keep _ _ hz2 (by omega) (fun q => ?_)⟩
      ·rw [hpW] at q
       have := Option.some.inj q
       omega
      ·rw [hpW] at q
       have := Option.some.inj q
       omega
     have HAR : Hid (∀ m (hm : m < (arP xs A).length), ∃ ga, adA = some ⟨ga, 0, none⟩ ∧ (arP xs A).length ≤ cpA ∧ ∀ wr, Bk lo G W wr → wr.cell? ⟨ga, m, none⟩ = some (.int .i64 ((arP xs A)[m] : Nat))) := fun m hm => by
      obtain ⟨ga, cur, q1, q2, ⟨q3, q4⟩, q5, q6⟩ := hargA (fun e => by rw [e] at hm; simp at hm)
      refine ⟨ga, q1, q2, fun wr hk => ?_⟩
      have := hk.keep ga _ ((hbW.block ga (lt_of_heap q5)).trans q5) q3 (fun q => by rw [hpW] at q; exact q4 (Option.some.inj q).symm)
      simp only [World.cell?, this]
      simpa using q6 m hm
     have HBR : Hid (∀ m (hm : m < (arP xs B).length), ∃ ga, adB = some ⟨ga, 0, none⟩ ∧ (arP xs B).length ≤ cpB ∧ ∀ wr, Bk lo G W wr → wr.cell? ⟨ga, m, none⟩ = some (.int .i64 ((arP xs B)[m] : Nat))) := fun m hm => by
      obtain ⟨ga, cur, q1, q2, ⟨q3, q4⟩, q5, q6⟩ := hargB (fun e => by rw [e] at hm; simp at hm)
      refine ⟨ga, q1, q2, fun wr hk => ?_⟩
      have := hk.keep ga _ ((hbW.block ga (lt_of_heap q5)).trans q5) q3 (fun q => by rw [hpW] at q; exact q4 (Option.some.inj q).symm)
      simp only [World.cell?, this]
      simpa using q6 m hm
     have HIH : Hid (∀ g, g < f → AgAll lo G N g) := IH
     have HD : Hid (BsX xs dn rt rk dp ∧ A < xs.length ∧ B < xs.length ∧ tgP xs A = A ∧ tgP xs B = B ∧ (lbP xs A).1 ≠ 2 ∧ (lbP xs B).1 ≠ 2 ∧ uniF f (dp A) (dp B) = some x ∧ (arP xs A).length = (arP xs B).length) := ⟨hD, hA, hB, hAA, hBB, hA2, hB2, hu, e3⟩
     have H0 : Hid (AgW lo G N xs dp A B f x W W 0) := hA0
     have HE3 : Hid ((arP xs A).length = (arP xs B).length) := e3
     rw [← e1] at y0
     rw [← e2] at y1
     rw [← e3] at y2
     have hnb2 : ((⟨(lbP xs A).2.toArray⟩ : ByteArray).toList == (⟨(lbP xs A).2.toArray⟩ : ByteArray).toList) = true := by simp
     clear hX hM hD den hA hB hAA hBB dA dB IH hu CE1 CE2 hargA hargB hXW hkW hbW hz1 hz2 hW a0 a1 a2 a3 a4 a5 b0 b1 b2 b3 b4 b5 c0 x3 x4 x5 y3 y4 y5 hpb hgl hlA hlB e1 e2 e3 hA0 hnb hB2 hB2b hpW hL2
     go_upto_region 13 with fail
     go_wp2
     go_loopw [9] (fun iv wr => ∃ m : Nat, m ≤ (arP xs A).length ∧ iv = .int .i64 m ∧ Hid (AgW lo G N xs dp A B f x W wr m)) (fun iv _ => (arP xs A).length - (intOf iv).toNat)
     case atStart => exact ⟨0, by omega, by go_num, H0.out⟩
     case round =>
      obtain ⟨m, hm, rfl, HP⟩ := hrel
      clear H0 x0 x1 x2 y0 y1 y2
      obtain ⟨hd, hA, hB, hAA, hBB, hA2, hB2, hu, e3⟩ := HD.out
      have hbk := HP.out.bk
      obtain ⟨q1, q2⟩ := HBX.out wr hbk
      obtain ⟨⟨-, -, x2, -, -, -⟩, -⟩ := six_cells q1
      obtain ⟨⟨-, -, y2, -, -, -⟩, -⟩ := six_cells q2
      by_cases hlt : m < (arP xs A).length
      ·have hlt' : (m : Int) < ((arP xs A).length : Int) := by omega
       have hltB : m < (arP xs B).length := by omega
       have m1 : (0 : Int) ≤ (m : Int) := by omega
       have m2 : (m : Int) < ((arP xs B).length : Int) := by omega
       obtain ⟨ga, rfl, hca, hra⟩ := HAR.out m hlt
       obtain ⟨gb, rfl, hcb, hrb⟩ := HBR.out m hltB
       have ra := hra wr hbk
       have rb := hrb wr hbk
       obtain ⟨-, tn', ys, dn', rt', rk', dq, hY, hM', hS, hAg⟩ := HP.out
       have hla := hd.bs.den.arg A hA _ (List.getElem_mem hlt)
       have hlb := hd.bs.den.arg B hB _ (List.getElem_mem hltB)
       obtain ⟨f', y, hf', hy, hyl, hyr⟩ := hAg.next hA hB hlt hltB
       have hpart : Part (dq (arP xs A)[m]) (dq A) := by
        rw [hAg.bs.node hA (hAg.rootA hA hAA) hA2]
        exact part_arg dq _ hA2 _ _ (List.getElem_mem hlt)
       have CALL := fun (W' : World) (s : Sm wr W') => HIH.out f' hf' W' tn' ys dn' rt' rk' dq (arP xs A)[m] (arP xs B)[m] y (hY.sm s) hM' (by rw [hS.len]; exact hla) (by rw [hS.len]; exact hlb) hy
       have HLT : Hid (m < (arP xs A).length) := hlt
       have hkeep : ∀ (W' w' : World), Sm wr W' → Bk lo G W' w' → Bk lo G W w' ∧ (w'.cell? ⟨w1.heap.size, 2, none⟩ = some (.slice (some ⟨ga, 0, none⟩) (arP xs A).length cpA) ∧ w'.cell? ⟨w1.heap.size + 1, 2, none⟩ = some (.slice (some ⟨gb, 0, none⟩) (arP xs B).length cpB) ∧ w'.cell? ⟨ga, m, none⟩ = some (.int .i64 ((arP xs A)[m] : Nat)) ∧ w'.cell? ⟨gb, m, none⟩ = some (.int .i64 ((arP xs B)[m] : Nat))) := fun W' w' s hk => by
        have hk' : Bk lo G W w' := (hbk.trans (Bk.of_sm s)).trans hk
        obtain ⟨p1, p2⟩ := HBX.out w' hk'
        exact ⟨hk', (six_cells p1).1.2.2.1, (six_cells p2).1.2.2.1, hra w' hk', hrb w' hk'⟩
       cases y with
       | inl c =>
        have hx := hyl c rfl
        have hc0 : c ≠ 0 := by
         obtain ⟨ta, va, _⟩ := hd.bs.tree hA
         obtain ⟨tb, vb, _⟩ := hd.bs.tree hB
         have hg := Uni.good ⟨f, hu⟩ ta tb va vb
         rw [hx] at hg
         have := hg.1
         omega
        have C1 : ∀ W', Sm wr W' → Calls Tryz.prog 57 #[.pointer (some ⟨G, 0, none⟩), .int .i64 ((arP xs A)[m] : Nat), .int .i64 ((arP xs B)[m] : Nat)] W' fun e w' => e = .returned (.int .i64 c) ∧ (w'.cell? ⟨w1.heap.size, 2, none⟩ = some (.slice (some ⟨ga, 0, none⟩) (arP xs A).length cpA) ∧ w'.cell? ⟨w1.heap.size + 1, 2, none⟩ = some (.slice (some ⟨gb, 0, none⟩) (arP xs B).length cpB) ∧ w'.cell? ⟨ga, m, none⟩ = some (.int .i64 ((arP xs A)[m] : Nat)) ∧ w'.cell? ⟨gb, m, none⟩ = some (.int .i64 ((arP xs B)[m] : Nat))) ∧ Hid (∀ w2, Sm w' w2 → AgP lo G N xs dp x i w1 (.returned (.int .i64 c)) w2) := fun W' s => by
         refine Calls.mono (CALL W' s) ?_
         rintro e w' ⟨hk, ⟨c', e1, rfl⟩ | ⟨l, e1, _⟩⟩
         ·injection e1 with e1
          subst e1
          obtain ⟨k1, k2⟩ := hkeep W' w' s hk
          exact ⟨rfl, k2, fun w2 s2 => ⟨(HKW.out.1.trans k1).trans (Bk.of_sm s2), .inl ⟨c, hx, rfl⟩⟩⟩
         ·cases e1
        have hcb : (c == 0) = false := by simpa using hc0
        have hcn : (c != 0) = true := by simpa using hc0
        have S0 : wr.cell? ⟨w1.heap.size, 2, none⟩ = some (.slice (some ⟨ga, 0, none⟩) (arP xs A).length cpA) ∧ wr.cell? ⟨w1.heap.size + 1, 2, none⟩ = some (.slice (some ⟨gb, 0, none⟩) (arP xs B).length cpB) ∧ wr.cell? ⟨ga, m, none⟩ = some (.int .i64 ((arP xs A)[m] : Nat)) ∧ wr.cell? ⟨gb, m, none⟩ = some (.int .i64 ((arP xs B)[m] : Nat)) := ⟨x2, y2, ra, rb⟩
        clear CALL hkeep HP hd hA hB hAA hBB hA2 hB2 hu e3 hbk q1 q2 hra hrb hY hM' hS hAg hla hlb hy hyl hyr hpart hc0 hx
        generalize (arP xs A)[m] = am at *
        generalize (arP xs B)[m] = bm at *
        clear hlt hltB
        go_upto_region 16 with fail
        go_region_held3 (fun w' => w'.cell? ⟨w1.heap.size, 2, none⟩ = some (.slice (some ⟨ga, 0, none⟩) (arP xs A).length cpA) ∧ w'.cell? ⟨w1.heap.size + 1, 2, none⟩ = some (.slice (some ⟨gb, 0, none⟩) (arP xs B).length cpB) ∧ w'.cell? ⟨ga, m, none⟩ = some (.int .i64 (am : Nat)) ∧ w'.cell? ⟨gb, m, none⟩ = some (.int .i64 (bm : Nat))) (first | (with_reducible exact S0) | (with_reducible exact S5) | (with_reducible assumption) | go_keep) (first | (go_at_call 57; (with_reducible refine Calls.mono (C1 _ ?_) ?_); exact ⟨rfl, rfl, rfl, rfl⟩; rintro e' w5 ⟨rfl, S5, H5⟩))
        all_goals
         go_wp2
         go_ret
         exact H5.out _ ⟨rfl, rfl, rfl, rfl⟩
       | inr l =>
        have C1 : ∀ W', Sm wr W' → Calls Tryz.prog 57 #[.pointer (some ⟨G, 0, none⟩), .int .i64 ((arP xs A)[m] : Nat), .int .i64 ((arP xs B)[m] : Nat)] W' fun e w' => e = .returned (.int .i64 0) ∧ (w'.cell? ⟨w1.heap.size, 2, none⟩ = some (.slice (some ⟨ga, 0, none⟩) (arP xs A).length cpA) ∧ w'.cell? ⟨w1.heap.size + 1, 2, none⟩ = some (.slice (some ⟨gb, 0, none⟩) (arP xs B).length cpB) ∧ w'.cell? ⟨ga, m, none⟩ = some (.int .i64 ((arP xs A)[m] : Nat)) ∧ w'.cell? ⟨gb, m, none⟩ = some (.int .i64 ((arP xs B)[m] : Nat))) ∧ Hid (∀ w2, Sm w' w2 → AgW lo G N xs dp A B f x W w2 (m + 1)) := fun W' s => by
         refine Calls.mono (CALL W' s) ?_
         rintro e w' ⟨hk, ⟨c', e1, _⟩ | ⟨l', e1, rfl, tn2, zs, dn2, rt2, rk2, hZ, hMz, hSz, hled⟩⟩
         ·cases e1
         ·injection e1 with e1
          subst e1
          obtain ⟨k1, k2⟩ := hkeep W' w' s hk
          refine ⟨rfl, k2, fun w2 s2 => ⟨k1.trans (Bk.of_sm s2), tn2, zs, dn2, rt2, rk2, _, hZ.sm s2, hMz, hS.trans hSz, ?_⟩⟩
          have hbs := hMz.bx.bs
          rw [hSz.len, hSz.lb, hSz.ar, hS.len, hS.lb, hS.ar] at hbs
          exact hyr l (tgP zs) dn2 rt2 rk2 rfl hbs (fun k hk h0 h1 => hled k (by rw [hS.len]; exact hk) h0 h1) hpart
        have S0 : wr.cell? ⟨w1.heap.size, 2, none⟩ = some (.slice (some ⟨ga, 0, none⟩) (arP xs A).length cpA) ∧ wr.cell? ⟨w1.heap.size + 1, 2, none⟩ = some (.slice (some ⟨gb, 0, none⟩) (arP xs B).length cpB) ∧ wr.cell? ⟨ga, m, none⟩ = some (.int .i64 ((arP xs A)[m] : Nat)) ∧ wr.cell? ⟨gb, m, none⟩ = some (.int .i64 ((arP xs B)[m] : Nat)) := ⟨x2, y2, ra, rb⟩
        clear CALL hkeep HP hd hA hB hAA hBB hA2 hB2 hu e3 hbk q1 q2 hra hrb hY hM' hS hAg hla hlb hy hyl hyr hpart
        generalize (arP xs A)[m] = am at *
        generalize (arP xs B)[m] = bm at *
        clear hlt hltB
        go_upto_region 16 with fail
        go_region_held3 (fun w' => w'.cell? ⟨w1.heap.size, 2, none⟩ = some (.slice (some ⟨ga, 0, none⟩) (arP xs A).length cpA) ∧ w'.cell? ⟨w1.heap.size + 1, 2, none⟩ = some (.slice (some ⟨gb, 0, none⟩) (arP xs B).length cpB) ∧ w'.cell? ⟨ga, m, none⟩ = some (.int .i64 (am : Nat)) ∧ w'.cell? ⟨gb, m, none⟩ = some (.int .i64 (bm : Nat))) (first | (with_reducible exact S0) | (with_reducible exact S5) | (with_reducible assumption) | go_keep) (first | (go_at_call 57; (with_reducible refine Calls.mono (C1 _ ?_) ?_); exact ⟨rfl, rfl, rfl, rfl⟩; rintro e' w5 ⟨rfl, S5, H5⟩))
        all_goals
         go_wp2
         go_roundw
         case rel => exact ⟨m + 1, HLT.out, by go_num, H5.out _ ⟨rfl, rfl, rfl, rfl⟩⟩
         case measure => have := HLT.out; simp [intOf]; omega
      ·have hlt' : ¬ (m : Int) < ((arP xs A).length : Int) := by omega
       obtain ⟨g3, cap3, u3, d0, d1, d2, hAgP⟩ := HP.out.done hd hA hB hAA hBB HNE.out hB2 (by omega) (by omega) hu
       have HF : Hid (AgP lo G N xs dp x i w1 (.returned (.int .i64 0)) (wr.setCell ⟨g3, A * 6 + 3, none⟩ (.int .i64 B))) := AgP.of hAgP HKW.out.1 HKW.out.2
       clear HP hd hA hB hAA hBB hA2 hB2 hu e3 hbk q1 q2 hAgP
       go_wp2
       go_ret
       exact HF.out
    ·have hx : x = .inl 50 := hD.bs.clash hA hB hAA hBB hA2 hB2 hsm hu
     have HF : Hid (AgP lo G N xs dp x i w1 (.returned (.int .i64 50)) W) := ⟨hkW, .inl ⟨50, hx, rfl⟩⟩
     clear hX hM hD den hA hB hAA hBB dA dB IH hu CE1 CE2 hargA hargB hXW hkW hbW hz1 hz2 hW a0 a1 a2 a3 a4 a5 b0 b1 b2 b3 b4 b5 c0 x3 x4 x5 y3 y4 y5 hpb hgl hx hlA hlB
     generalize (⟨(lbP xs A).2.toArray⟩ : ByteArray) = na at *
     generalize (⟨(lbP xs B).2.toArray⟩ : ByteArray) = nb at *
     generalize (lbP xs A).2 = na2 at *
     generalize (lbP xs B).2 = nb2 at *
     generalize (lbP xs A).1 = ka at *
     generalize (lbP xs B).1 = kb at *
     generalize (arP xs A).length = la at *
     generalize (arP xs B).length = lb at *
     by_cases hk : ka = kb
     ·subst hk
      by_cases hn : na2 = nb2
      ·have hnb2 : (na.toList == nb.toList) = true := by rw [hnb]; simpa using hn
       have hll : la ≠ lb := fun e => hsm ⟨rfl, hn, e⟩
       have hl1 : ¬ (la : Int) = (lb : Int) := by omega
       have hl2 : ((la : Int) == (lb : Int)) = false := by simpa using hl1
       have hl3 : ((la : Int) != (lb : Int)) = true := by simp; omega
       clear hnb hsm hn hll
       go_wp2
       go_ret
       exact HF.out
      ·have hnb2 : (na.toList == nb.toList) = false := by rw [hnb]; simpa using hn
       clear hnb hsm hn
       go_wp2
       go_ret
       exact HF.out
     ·have hk2 : (ka == kb) = false := by simpa using hk
      have hk3 : (ka != kb) = true := by simpa using hk
      clear hnb hsm
      go_wp2
      go_ret
      exact HF.out
theorem agree_all {lo G : Nat} {N : List (List UInt8)} : ∀ (F f : Nat), f < F → AgAll lo G N f
 | 0, _, h => by omega
 | F + 1, f, _ => agree_node f fun g hg => agree_all F g (by omega)
end Go.Proofs.YtikpipenhamdbaaGreat

namespace Go.Proofs.YtikpipenhamdbaaGreat
open Go.RowKit Go.Maps

/-- A row of names that grows: from v0 in w0 to v in w, which owns L. -/
structure Nl (w0 w : World) (B : Nat) (v0 v : Value) (L : List (List UInt8)) : Prop where
 own : w.ownsRow B 9 1 v L.length (L.map encStr)
 os : w.os = w0.os
 tape : w.tape = w0.tape
 output : w.output = w0.output
 size : w0.heap.size ≤ w.heap.size
 block : ∀ k, k < w0.heap.size → v0.ownBlock ≠ some k → w.heap[k]? = w0.heap[k]?
 whr : v.ownBlock = v0.ownBlock ∨ ∃ g, v.ownBlock = some g ∧ w0.heap.size ≤ g
theorem Nl.trans {w0 w1 w2 : World} {B : Nat} {g0 g1 g2 : Value} {L1 L2 : List (List UInt8)} (h : Nl w0 w1 B g0 g1 L1) (k : Nl w1 w2 B g1 g2 L2) : Nl w0 w2 B g0 g2 L2 := by
 have hs := h.size
 refine ⟨k.own, k.os.trans h.os, k.tape.trans h.tape, k.output.trans h.output, Nat.le_trans h.size k.size, fun b hb hne => ?_, ?_⟩
 ·rw [k.block b (by omega) ?_]
  ·exact h.block b hb hne
  ·rcases h.whr with e | ⟨g, e, hg⟩
   ·rw [e]; exact hne
   ·rw [e]
    intro e'
    have := Option.some.inj e'
    omega
 ·rcases k.whr with e | ⟨g, e, hg⟩
  ·rcases h.whr with e2 | ⟨g, e2, hg⟩
   ·exact .inl (e.trans e2)
   ·exact .inr ⟨g, e.trans e2, hg⟩
  ·exact .inr ⟨g, e, by omega⟩
theorem Nl.below {w0 w1 w2 : World} {B : Nat} {g0 g1 : Value} {L1 : List (List UInt8)} (h : Nl w0 w1 B g0 g1 L1) (hb : Below w1.heap.size w1 w2) : Nl w0 w2 B g0 g1 L1 := by
 have hs := h.size
 exact ⟨own_keep h.own fun k hk => hb.block k (h.own.lt k hk).2, hb.os.trans h.os, hb.tape.trans h.tape, hb.output.trans h.output, Nat.le_trans h.size hb.size, fun b h1 h2 => (hb.block b (by omega)).trans (h.block b h1 h2), h.whr⟩
theorem Nl.refl {w : World} {B : Nat} {v : Value} {L : List (List UInt8)} (h : w.ownsRow B 9 1 v L.length (L.map encStr)) : Nl w w B v v L := ⟨h, rfl, rfl, rfl, Nat.le_refl _, fun _ _ _ => rfl, .inl rfl⟩
theorem Nl.from {w w' : World} {B : Nat} {v v' : Value} {L L' : List (List UInt8)} (h : Nl w w' B v v' L') (hB : B ≤ w.heap.size) (hown : w.ownsRow B 9 1 v L.length (L.map encStr)) : Below B w w' :=
 ⟨h.os, h.tape, h.output, h.size, fun k hk => h.block k (by omega) fun e => by have := (hown.lt k e).1; omega⟩
theorem Nl.form {w w' : World} {B : Nat} {v v' : Value} {L' : List (List UInt8)} (h : Nl w w' B v v' L') : ∃ ad cp, v' = .slice ad L'.length cp := by
 rcases h.own.2 with ⟨e1, e2⟩ | ⟨g, cap, _, e1, _⟩
 ·exact ⟨none, 0, by rw [e1, e2]⟩
 ·exact ⟨_, _, e1⟩
theorem Tryz.info9n : (Tryz.prog.info? 9).map (fun i => (i.zero, i.size, i.bytes)) = some (some (.string ⟨#[]⟩), 1, 16) := by kernel_rfl
/-- What names does. -/
def NamesAll (d : Nat) : Prop := ∀ (x : Value) (t : Tn d) (w : World) (B : Nat) (v : Value) (L : List (List UInt8)), B ≤ w.heap.size → TyAt w B d x t → formB d t = true → w.ownsRow B 9 1 v L.length (L.map encStr) → L.length + (flat d t).length ≤ 200000000 → Calls Tryz.prog 76 #[v, x] w fun r w' => ∃ v', r = .returned v' ∧ Nl w w' B v v' (L ++ vnm (flat d t))
theorem vnm_take {d : Nat} {ts : List (Tn d)} {j : Nat} (h : j < ts.length) : vnm (flats d (ts.take (j + 1))) = vnm (flats d (ts.take j)) ++ vnm (flat d ts[j]) := by
 rw [List.take_succ_eq_append_getElem h, flats_app, vnm_app, flats_cons, flats_nil, List.append_nil]
set_option maxHeartbeats 8000000 in
set_option maxRecDepth 10000 in
theorem names_step (d : Nat) (IH : NamesAll d) : NamesAll (d + 1) := by
 intro x t w B v L hB hT hf hown hL
 obtain ⟨⟨k, n⟩, ts⟩ := t
 obtain ⟨av, hx, hnl, htl, hr⟩ := hT
 simp only at hx hnl htl hr
 subst hx
 obtain ⟨i0, hi, hz0, hz1, hz2⟩ := info_parts Tryz.info9n
 obtain ⟨va, vc, hv⟩ := (Nl.refl hown).form
 by_cases hk : k = 2
 ·subst hk
  have h0 := sf_var hf
  subst h0
  obtain ⟨ad, cap, rfl⟩ := hr.len
  subst hv
  obtain ⟨W, hW, hbW, hsW, b0, b1, b2⟩ := cells_box w (.int .i64 2) (.string ⟨n.toArray⟩) (.slice ad 0 cap) 29
  have ownW := own_keep (W' := W) hown fun k hk => hbW.block k (hown.lt k hk).2
  have hLl : L.length + 1 ≤ 200000000 := by
   rw [flat_succ] at hL
   simp at hL
   omega
  have hBW : B ≤ W.heap.size := by omega
  have hvl : ∀ k, (Value.slice va L.length vc).ownBlock = some k → k < w.heap.size := fun k e => (hown.lt k e).2
  have HB : Hid (Below w.heap.size w W ∧ W.heap.size = w.heap.size + 1) := ⟨hbW, hsW⟩
  clear IH hL hr hbW hsW hown hf
  go_enter Tryz.func76, Tryz.ntmps76
  go_upto_region 1 with fail
  rw [← hW]
  clear hW
  go_wp2_with (at_builtin; refine wpList_append_lies _ rfl _ _ 102 rfl B 9 i0 _ 1 16 Tryz.underlying102 hi hz0 hz1 hz2 rfl (by decide) _ _ _ rfl (ownW.alloc _) ⟨W.heap.size, 0, none⟩ 1 1 [.string ⟨n.toArray⟩] rfl rfl (World.news_of_block (heap_alloc_new W _)) (by intro u hu; simp at hu; subst hu; rfl) (by omega) (by unfold maxLen; omega) (by omega) (by simp; omega) (W.heap.size + 1) (by simp) ?_; intro g' cap' W3 hown3 hgr3 hat3 hlt3)
  have hzo : (Value.slice va L.length vc).ownBlock ≠ some w.heap.size := fun e => by
   have hk := hvl _ e
   omega
  have hz3 : W3.heap[w.heap.size]? = W.heap[w.heap.size]? := by
   have hs := HB.out.2
   rw [hgr3.block _ (by simp; omega) (Ne.symm hzo), Below.heap_alloc _ _ _ (by omega)]
  have x2 : W3.cell? ⟨w.heap.size, 2, none⟩ = some (.slice ad 0 cap) := (World.cell?_of_block (a := ⟨w.heap.size, 2, none⟩) hz3).trans b2
  have HF : Hid (Nl w W3 B (.slice va L.length vc) (.slice (some ⟨g', 0, none⟩) (L.length + 1) cap') (L ++ vnm (flat (d + 1) ((2, n), [])))) := by
   obtain ⟨hb, hs⟩ := HB.out
   have e : vnm (flat (d + 1) (((2 : Int), n), ([] : List (Tn d)))) = [n] := rfl
   rw [e]
   refine ⟨by simpa using hown3, hgr3.os.trans hb.os, hgr3.tape.trans hb.tape, hgr3.output.trans hb.output, by have := hgr3.size; simp at this; omega, fun b h1 h2 => ?_, ?_⟩
   ·rw [hgr3.block b (by simp; omega) (Ne.symm h2), Below.heap_alloc _ _ _ (by omega)]
    exact hb.block b h1
   ·rcases hat3 with h | h
    ·exact .inl h.symm
    ·exact .inr ⟨g', rfl, by omega⟩
  clear ownW hown3 hgr3 hat3 hlt3 hz3
  refine wp_loop_rounds 1 ?_
  rw [rounds_succ]
  go_wp2
  go_ret
  exact ⟨_, rfl, HF.out⟩
 ·have hk2 : (k == 2) = false := by simpa using hk
  obtain ⟨ad, cap, rfl, hcl⟩ := hr.cells
  subst hv
  obtain ⟨W, hW, hbW, hsW, b0, b1, b2⟩ := cells_box w (.int .i64 k) (.string ⟨n.toArray⟩) (.slice ad ts.length cap) 29
  have ownW := own_keep (W' := W) hown fun k hk => hbW.block k (hown.lt k hk).2
  have hall := sf_args hf
  have hL' : L.length + (flats d ts).length ≤ 200000000 := by
   rw [flat_succ, List.length_cons] at hL
   omega
  have HCL : Hid (ts ≠ [] → ∃ g o, ad = some ⟨g, o, none⟩ ∧ ts.length ≤ cap ∧ g < B ∧ ∀ j (h : j < ts.length), ∃ k n ad' len' cap', (∀ w', Below B w w' → w'.cell? ⟨g, o + j * 3, none⟩ = some (.int .i64 k) ∧ w'.cell? ⟨g, o + j * 3 + 1, none⟩ = some (.string n) ∧ w'.cell? ⟨g, o + j * 3 + 2, none⟩ = some (.slice ad' len' cap')) ∧ TyAt w B d (.agg #[.int .i64 k, .string n, .slice ad' len' cap']) ts[j]) := hcl
  have HO : Hid (w.ownsRow B 9 1 (.slice va L.length vc) L.length (L.map encStr)) := hown
  have HIH : Hid (NamesAll d) := IH
  have HAL : Hid (∀ t ∈ ts, formB d t = true) := hall
  have HLL : Hid (L.length + (flats d ts).length ≤ 200000000) := hL'
  have HFI : Hid (∀ w' v', Nl w w' B (.slice va L.length vc) v' (L ++ vnm (flats d ts)) → ∃ v'', Ending.returned v' = .returned v'' ∧ Nl w w' B (.slice va L.length vc) v'' (L ++ vnm (flat (d + 1) ((k, n), ts)))) := fun w' v' h => by
   refine ⟨v', rfl, ?_⟩
   have e : vnm (flat (d + 1) ((k, n), ts)) = vnm (flats d ts) := by
    rw [flat_succ]
    show List.filterMap _ (_ :: _) = _
    rw [List.filterMap_cons]
    simp [hk]
    rfl
   rw [e]
   exact h
  have H0 : Hid (Nl w W B (.slice va L.length vc) (.slice va L.length vc) (L ++ vnm (flats d (ts.take 0))) ∧ W.heap[w.heap.size]? = W.heap[w.heap.size]? ∧ (Value.slice va L.length vc).ownBlock ≠ some w.heap.size) := by
   refine ⟨?_, rfl, fun e => by have := (hown.lt _ e).2; omega⟩
   have e : L ++ vnm (flats d (ts.take 0)) = L := by simp [flats_nil, vnm]
   rw [e]
   exact (Nl.refl hown).below hbW
  have HSW : Hid (W.heap.size = w.heap.size + 1 ∧ B ≤ w.heap.size) := ⟨hsW, hB⟩
  clear IH hL hr hbW hsW hown hf hcl ownW hall hL'
  go_enter Tryz.func76, Tryz.ntmps76
  go_upto_region 1 with fail
  rw [← hW]
  generalize hz : w.heap.size = z at *
  have HZ : Hid (w.heap.size = z) := hz
  clear hW hz
  go_wp2
  go_loopw [0, 5] (fun gv iv wr => ∃ (j : Nat) (ga : Option Addr) (gn gc : Nat), j ≤ ts.length ∧ iv = .int .i64 j ∧ gv = .slice ga gn gc ∧ Hid (Nl w wr B (.slice va L.length vc) gv (L ++ vnm (flats d (ts.take j))) ∧ wr.heap[z]? = W.heap[z]? ∧ gv.ownBlock ≠ some z)) (fun _ iv _ => ts.length - (intOf iv).toNat)
  case atStart => exact ⟨0, va, L.length, vc, by omega, by go_num, rfl, H0.out.1, rfl, H0.out.2.2⟩
  case round =>
   obtain ⟨j, ga, gn, gc, hj, rfl, rfl, HP⟩ := hrel
   clear H0
   obtain ⟨hN, hzj, hzo⟩ := HP.out
   have x2 : wr.cell? ⟨z, 2, none⟩ = some (.slice ad ts.length cap) := (World.cell?_of_block (a := ⟨z, 2, none⟩) hzj).trans b2
   have hbel : Below B w wr := hN.from (by have := HSW.out.2; have := HZ.out; omega) HO.out
   by_cases hlt : j < ts.length
   ·have hlt' : (j : Int) < (ts.length : Int) := by omega
    obtain ⟨g0, o0, hadr, hcapt, hgB, hel⟩ := HCL.out (by intro e; rw [e] at hlt; simp at hlt)
    subst hadr
    obtain ⟨k1, n1, ad1, l1, cp1, hcel, T1⟩ := hel j hlt
    obtain ⟨p0, p1, p2⟩ := hcel wr hbel
    have hBr : B ≤ wr.heap.size := by have := HSW.out.2; have := hN.size; have := HZ.out; omega
    have hfl : (flats d (ts.take j)).length + (flat d ts[j]).length ≤ (flats d ts).length := by
     have h1 : flats d ts = flats d (ts.take (j + 1)) ++ flats d (ts.drop (j + 1)) := by rw [← flats_app, List.take_append_drop]
     have h2 : flats d (ts.take (j + 1)) = flats d (ts.take j) ++ flat d ts[j] := by rw [List.take_succ_eq_append_getElem hlt, flats_app, flats_cons, flats_nil, List.append_nil]
     rw [h1, h2, List.length_append, List.length_append]
     omega
    have hvl : (vnm (flats d (ts.take j))).length ≤ (flats d (ts.take j)).length := vnm_len _
    have CJ := HIH.out _ ts[j] wr B (.slice ga gn gc) _ hBr (TyAt.on T1 hbel) (HAL.out _ (List.getElem_mem hlt)) hN.own (by have := HLL.out; rw [List.length_append]; omega)
    have hzw : z < wr.heap.size := by
     have := HSW.out.1
     have := HZ.out
     rcases Nat.lt_or_ge z wr.heap.size with h | h
     ·exact h
     ·rw [Array.getElem?_eq_none h, Array.getElem?_eq_getElem (show z < W.heap.size by omega)] at hzj; cases hzj
    have C1 : Calls Tryz.prog 76 #[.slice ga gn gc, .agg #[.int .i64 k1, .string n1, .slice ad1 l1 cp1]] wr fun r w' => ∃ (ga' : Option Addr) (gn' gc' : Nat), r = .returned (.slice ga' gn' gc') ∧ Hid (Nl w w' B (.slice va L.length vc) (.slice ga' gn' gc') (L ++ vnm (flats d (ts.take (j + 1)))) ∧ w'.heap[z]? = W.heap[z]? ∧ (Value.slice ga' gn' gc').ownBlock ≠ some z) := by
     refine Calls.mono CJ ?_
     rintro r w' ⟨v', rfl, hN'⟩
     obtain ⟨ga', gc', rfl⟩ := hN'.form
     refine ⟨ga', _, gc', rfl, ?_, (hN'.block z hzw hzo).trans hzj, ?_⟩
     ·rw [vnm_take hlt, ← List.append_assoc]
      exact hN.trans hN'
     ·rcases hN'.whr with e | ⟨g2, e, hg2⟩
      ·rw [e]; exact hzo
      ·rw [e]
       intro e'
       have := Option.some.inj e'
       omega
    have HJ : Hid (j < ts.length) := hlt
    clear CJ HP hN hzj hzo hbel hel hcel T1 hfl hvl
    go_wp2_with (go_at_call 76; (with_reducible refine Calls.mono C1 ?_); rintro e' w5 ⟨ga5, gn5, gc5, rfl, H5⟩)
    go_roundw
    case rel => exact ⟨j + 1, ga5, gn5, gc5, HJ.out, by go_num, rfl, H5.out⟩
    case measure => have := HJ.out; simp [intOf]; omega
   ·have hlt' : ¬ (j : Int) < (ts.length : Int) := by omega
    have HE : Hid (Nl w wr B (.slice va L.length vc) (.slice ga gn gc) (L ++ vnm (flats d ts))) := by
     have e : j = ts.length := by omega
     rw [e, List.take_length] at hN
     exact hN
    clear HP hN hzj hzo hbel
    go_wp2
    go_ret
    exact HFI.out _ _ HE.out
theorem names_any : ∀ d : Nat, NamesAll d
 | 0 => fun _ t => t.elim
 | d + 1 => names_step d (names_any d)
end Go.Proofs.YtikpipenhamdbaaGreat
