/- A range over a function that turns the graph: a law for it. -/
import Derived.Test.YtikpipenhamdbaaGreatHe
import Derived.Test.YtikpipenhamdbaaGreatEv
import Derived.RangeFuncWrites
namespace Go.Proofs.YtikpipenhamdbaaGreat
open Go.RowKit Go.Maps Go.Shelf
attribute [local go_sem] Oper.semAt_some

/-- Nothing has turned but blocks from B on that are neither cells nor maps. -/
structure Kq (B : Nat) (w w' : World) : Prop where
 os : w'.os = w.os
 tape : w'.tape = w.tape
 output : w'.output = w.output
 size : w.heap.size ≤ w'.heap.size
 same : ∀ (k : Nat) (o : Obj), w.heap[k]? = some o → k < B ∨ (∃ c t fz, o = Obj.cells c t fz) ∨ (∃ es c, o = Obj.map es c) → w'.heap[k]? = some o
theorem Kq.trans {B : Nat} {a b c : World} (h : Kq B a b) (k : Kq B b c) : Kq B a c := ⟨k.os.trans h.os, k.tape.trans h.tape, k.output.trans h.output, Nat.le_trans h.size k.size, fun i o h1 h2 => k.same i o (h.same i o h1 h2) h2⟩
theorem Kq.sm {B : Nat} {a b : World} (s : Sm a b) : Kq B a b := ⟨s.os, s.tape, s.output, by rw [s.heap]; exact Nat.le_refl _, fun i o h1 _ => by rw [s.heap]; exact h1⟩
theorem Kq.loop {B : Nat} {w : World} {l : Nat} {r : Loop} (h : w.heap[l]? = some (.loop r)) (hB : B ≤ l) (r' : Loop) : Kq B w (w.putObj l (.loop r')) :=
 ⟨rfl, rfl, rfl, by simp [World.putObj], fun k o h1 h2 => by
  rw [World.putObj_heap_other (fun e => by
   rcases h2 with h2 | h2
   ·omega
   ·rw [e, h] at h1
    injection h1 with h1
    subst h1
    rcases h2 with ⟨_, _, _, e⟩ | ⟨_, _, e⟩ <;> cases e)]
  exact h1⟩
theorem Kq.gk {lo G b B : Nat} {w0 w w' : World} (h : Gk lo G b w0 w) (hB : w0.heap.size ≤ B) (hl : lo ≤ w0.heap.size) (k : Kq B w w') : Gk lo G b w0 w' := by
 have hz : ∀ j, j < w0.heap.size → w'.heap[j]? = w.heap[j]? := fun j hj => by
  have hj' : j < w.heap.size := Nat.lt_of_lt_of_le hj h.size
  rw [k.same j _ (Array.getElem?_eq_getElem hj') (.inl (by omega)), Array.getElem?_eq_getElem hj']
 exact ⟨k.os.trans h.os, k.tape.trans h.tape, k.output.trans h.output, Nat.le_trans h.size k.size, fun j hj => (hz j (by omega)).trans (h.low j hj), fun j o h1 h2 h3 h4 => (hz j (lt_of_heap h1)).trans (h.keep j o h1 h2 h3 h4)⟩
theorem GX.kq {B : Nat} {w w' : World} {lo G b wk : Nat} {R : Nat → Prop} {xs : List Gx} {D : DataW Unit} (h : GX w lo G b R xs D wk) (k : Kq B w w') : GX w' lo G b R xs D wk := by
 obtain ⟨v, ns, e, h, hr⟩ := h
 have hc : ∀ (j : Nat) (c : Array Value) (t : TypeId) (fz : Nat × Nat), w.heap[j]? = some (Obj.cells c t fz) → w'.heap[j]? = some (Obj.cells c t fz) := fun j c t fz hj => k.same j _ hj (.inr (.inl ⟨c, t, fz, rfl⟩))
 refine ⟨v, ns, e, ⟨hc _ _ _ _ h.box, own_keep h.own fun j hj => ?_, ?_, h.msz, fun n hn => ?_, h.loG, h.lob, h.num⟩, hr⟩
 ·rcases h.own.2 with ⟨h0, _⟩ | ⟨g', cap', cur, hv, _, hh, _⟩
  ·rw [h0] at hj; cases hj
  ·rw [hv] at hj
   cases hj
   exact (hc _ _ _ _ hh).trans hh.symm
 ·obtain ⟨es, clock, hb, rest⟩ := h.map
  exact ⟨es, clock, k.same _ _ hb (.inr (.inr ⟨es, clock, rfl⟩)), rest⟩
 ·rcases h.arg n hn with q1 | ⟨g, q1, q2, q3⟩
  ·exact .inl q1
  ·exact .inr ⟨g, q1, q2, hc _ _ _ _ q3⟩
/-- From w to w' nothing below base has turned but the graph's box, its map and its rows of nodes. -/
structure Gj (base lo G b : Nat) (w w' : World) : Prop where
 os : w'.os = w.os
 tape : w'.tape = w.tape
 output : w'.output = w.output
 size : w.heap.size ≤ w'.heap.size
 low : ∀ k : Nat, k < lo → w'.heap[k]? = w.heap[k]?
 keep : ∀ (k : Nat) (o : Obj), k < base → w.heap[k]? = some o → k ≠ G → k ≠ b → (∀ c fz, o ≠ .cells c 97 fz) → w'.heap[k]? = some o
theorem Gk.gj {lo G b : Nat} {w w' : World} (h : Gk lo G b w w') (base : Nat) : Gj base lo G b w w' := ⟨h.os, h.tape, h.output, h.size, h.low, fun k o _ h1 h2 h3 h4 => h.keep k o h1 h2 h3 h4⟩
theorem Gj.mono {base base' lo G b : Nat} {w w' : World} (h : Gj base lo G b w w') (hb : base' ≤ base) : Gj base' lo G b w w' := ⟨h.os, h.tape, h.output, h.size, h.low, fun k o h0 h1 h2 h3 h4 => h.keep k o (by omega) h1 h2 h3 h4⟩
theorem Gj.trans {base lo G b : Nat} {w1 w2 w3 : World} (h : Gj base lo G b w1 w2) (k : Gj base lo G b w2 w3) : Gj base lo G b w1 w3 :=
 ⟨k.os.trans h.os, k.tape.trans h.tape, k.output.trans h.output, Nat.le_trans h.size k.size, fun i hi => (k.low i hi).trans (h.low i hi), fun i o h0 h1 h2 h3 h4 => k.keep i o h0 (h.keep i o h0 h1 h2 h3 h4) h2 h3 h4⟩
/-- What was there at the beginning. -/
theorem Gj.gk {lo G b : Nat} {w0 w w' : World} (h : Gk lo G b w0 w) (k : Gj w0.heap.size lo G b w w') : Gk lo G b w0 w' :=
 ⟨k.os.trans h.os, k.tape.trans h.tape, k.output.trans h.output, Nat.le_trans h.size k.size, fun i hi => (k.low i hi).trans (h.low i hi), fun i o h1 h2 h3 h4 => k.keep i o (lt_of_heap h1) (h.keep i o h1 h2 h3 h4) h2 h3 h4⟩
/-- The body of a round: it goes on, and nothing has turned; or it returns. -/
def roundP (B : Nat) (C : Prop) (Ix : World → Prop) (W : World) : Exit → Act → World → Prop
 | .normal, _, W' => C ∧ Sm W W'
 | .ret, _, W' => ¬ C ∧ KeepsFrom B W W' ∧ Ix W'
 | _, _, _ => False
theorem wpIn_rangeFunc_graph {lo G b : Nat} {F : Fence} {n : Nat} {P : Program} {g : Operand} {ps : Array Tmp} {assign body : Code} {Q : Exit → Act → World → Prop} {a : Act} {w : World}
  (hro : F.round = none) (h1 : 1 ≤ n) {gf : Nat} {lb : Array Value} (hg : a.eval g = .func (.func gf) #[] lb) (hFg : F.fn gf) (eg : ∀ args w, (callFunc gf args).run P w = .ok (.enter gf args) w)
  (hlo : G < w.heap.size ∧ b < w.heap.size) (encs : Nat → Array Value) (hps : ∀ x, (encs x).size = ps.size) (C : Nat → Prop) (I Ix Sd : World → Prop) (Sp : Prop)
  (hI1 : ∀ A B, I A → Gj w.heap.size lo G b A B → I B) (hI2 : ∀ A B, I A → Kq w.heap.size A B → I B) (hIx : ∀ A B, Ix A → Kq w.heap.size A B → Ix B) (hSd : ∀ A B, Sd A → Kq w.heap.size A B → Sd B)
  (hseq : ∀ (l : Nat) (J Jx : World → Prop) (W : World), Kq w.heap.size w W → Below w.heap.size w W → (∀ A B, J A → Gj W.heap.size lo G b A B → J B) →
   (∀ x W1, J W1 → YieldAt F (n - 1 - 1) P l (encs x) W1 fun e W' => (e = .returned (.bool true) ∧ J W' ∧ Kq w.heap.size W1 W' ∧ C x) ∨ (e = .returned (.bool false) ∧ ¬ C x ∧ Jx W')) →
   J W → CallsIn F (n - 1) P gf (#[.func (.yield l) #[] #[]] ++ lb) W fun e W' => (∃ v, e = .returned v) ∧ ((Sd W' ∧ J W') ∨ (Sp ∧ Jx W')))
  (h0 : I w) (a₁ : Nat → Act)
  (hassign : ∀ (l x : Nat) (W : World) (K : Act → World → Prop), K (a₁ x) W → assign.wpIn (F.inRound l) (n - 1 - 1) P (Exit.then K (fun _ _ _ => False)) { tmps := (ps.zip (encs x)).foldl (fun t (p, v) => t.setIfInBounds p v) a.tmps, defers := [] } W)
  (hbody : ∀ (l x : Nat) (W : World), I W → body.wpIn (F.inRound l) (n - 1 - 1) P (roundP w.heap.size (C x) Ix W) (a₁ x) W)
  (hdone : ∀ (D : Nat) (W : World), w.heap.size ≤ D → Sd W → I W → W.heap[D]? = some (.deferred (some [])) → Q .normal { a with defers := { target := .collected D, args := #[] } :: a.defers } W)
  (hstop : ∀ (D : Nat) (W : World), w.heap.size ≤ D → Sp → Ix W → W.heap[D]? = some (.deferred (some [])) → Code.ret.wpIn F n P Q { a with defers := { target := .collected D, args := #[] } :: a.defers } W) :
  (Code.rangeFunc g ps assign body).wpIn F n P Q a w := by
 refine wpIn_rangeFunc ?_
 intro fn hfn
 rw [hro]
 obtain ⟨rec, hrec⟩ : ∃ rec : LoopState → Option Code → Loop, rec = fun st pe => { state := st, pending := pe, fn, tmps := a.tmps, params := ps, assign, body, defers := w.heap.size } := ⟨_, rfl⟩
 obtain ⟨W1, hW1⟩ : ∃ W1, (w.alloc (.deferred (some []))).alloc (.loop (rec .ready none)) = W1 := ⟨_, rfl⟩
 have hL1 : W1.heap[w.heap.size + 1]? = some (.loop (rec .ready none)) := by
  rw [← hW1]; have := World.alloc_heap_new (w.alloc (.deferred (some []))) (.loop (rec .ready none)); rwa [World.size_alloc] at this
 have hK1 : W1.heap[w.heap.size]? = some (.deferred (some [])) := by
  rw [← hW1]; exact (Below.heap_alloc _ _ _ (by simp)).trans (World.alloc_heap_new w _)
 have hb1 : Below w.heap.size w W1 := by
  rw [← hW1]; exact (((Below.refl _ w).alloc (Nat.le_refl _) _).alloc (by simp) _)
 have hq1 : Kq w.heap.size w W1 := ⟨hb1.os, hb1.tape, hb1.output, hb1.size, fun k o h1 _ => (hb1.block k (lt_of_heap h1)).trans h1⟩
 refine ⟨w.heap.size + 1, [{ target := .collected w.heap.size, args := #[] }], W1, { target := .fn (.func gf) lb, args := #[.func (.yield (w.heap.size + 1)) #[] #[]] }, W1, gf,
  #[.func (.yield (w.heap.size + 1)) #[] #[]] ++ lb, W1, ?_, ?_, ?_, ?_, fun _ => h1, ?_⟩
 ·rw [← hW1, hrec]; exact run_enterLoop_outer _ _ _ _ _
 ·simp only [resolve, hg]
  simp [go_sem]
 ·intro f' hf'; simp [Target.leads] at hf'; subst hf'; exact hFg
 ·simp [invoke, go_sem, eg]
 ·refine (hseq (w.heap.size + 1)
   (fun W => I W ∧ W.heap[w.heap.size + 1]? = some (.loop (rec .ready none)) ∧ W.heap[w.heap.size]? = some (.deferred (some [])))
   (fun W => Ix W ∧ W.heap[w.heap.size + 1]? = some (.loop (rec .done (some .ret))) ∧ W.heap[w.heap.size]? = some (.deferred (some [])))
   W1 hq1 hb1
   (fun A B hs hk => ⟨hI1 A B hs.1 (hk.mono hb1.size), hk.keep _ _ (lt_of_heap hL1) hs.2.1 (by omega) (by omega) (by intro c fz e; cases e), hk.keep _ _ (lt_of_heap hK1) hs.2.2 (by omega) (by omega) (by intro c fz e; cases e)⟩)
   ?_ ⟨hI2 _ _ h0 hq1, hL1, hK1⟩).mono ?_
  ·rintro x W ⟨hi, hl, hk⟩
   have hlt : w.heap.size + 1 < W.heap.size := (Array.getElem?_eq_some_iff.1 hl).1
   have hy := run_yield (P := P) (args := encs x) hl (by rw [hrec]; exact hps x)
   rw [hrec] at hy
   refine ⟨fn, _, assign, body, hy, roundIn_of_wpIn hfn (hassign _ x W _ ⟨_, run_beginRound hl (by rw [hrec]), ?_⟩)⟩
   have hl2 : (W.putObj (w.heap.size + 1) (.loop { rec .ready none with state := .busy })).heap[w.heap.size + 1]? = some (.loop { rec .ready none with state := .busy }) := World.putObj_heap_same hlt
   have hk2 : (W.putObj (w.heap.size + 1) (.loop { rec .ready none with state := .busy })).heap[w.heap.size]? = some (.deferred (some [])) := (World.putObj_heap_other (by omega)).trans hk
   have hw2 : Kq w.heap.size W (W.putObj (w.heap.size + 1) (.loop { rec .ready none with state := .busy })) := Kq.loop hl (by omega) _
   refine wpIn_mono (hbody _ x _ (hI2 _ _ hi hw2)) ?_
   have fin : ∀ (jump : Option Code) (W3 : World), KeepsFrom w.heap.size (W.putObj (w.heap.size + 1) (.loop { rec .ready none with state := .busy })) W3 →
     (Instr.endRound (w.heap.size + 1) jump).run P W3 = .ok (.bool jump.isNone) (W3.putObj (w.heap.size + 1) (.loop (rec (if jump.isNone then .ready else .done) jump))) ∧
     W3.heap[w.heap.size + 1]? = some (.loop { rec .ready none with state := .busy }) ∧
     (W3.putObj (w.heap.size + 1) (.loop (rec (if jump.isNone then .ready else .done) jump))).heap[w.heap.size + 1]? = some (.loop (rec (if jump.isNone then .ready else .done) jump)) ∧
     (W3.putObj (w.heap.size + 1) (.loop (rec (if jump.isNone then .ready else .done) jump))).heap[w.heap.size]? = some (.deferred (some [])) := fun jump W3 hk3 => by
    have hl3 := hk3.same _ _ (by omega) hl2 rfl
    have := run_endRound (P := P) jump hl3
    rw [hrec] at this ⊢
    exact ⟨this, by rw [hrec] at hl3; exact hl3, World.putObj_heap_same (Array.getElem?_eq_some_iff.1 hl3).1, (World.putObj_heap_other (by omega)).trans (hk3.same _ _ (Nat.le_refl _) hk2 rfl)⟩
   rintro e a3 W3 hp
   cases e with
   | normal =>
    obtain ⟨hc, hs3⟩ := hp
    obtain ⟨hr, hl3, hl4, hk4⟩ := fin none W3 ⟨by rw [hs3.heap]; exact Nat.le_refl _, fun k o _ h1 _ => by rw [hs3.heap]; exact h1⟩
    have hq := (hw2.trans (Kq.sm hs3)).trans (Kq.loop hl3 (by omega) (rec .ready none))
    exact ⟨_, _, hr, .inl ⟨rfl, ⟨hI2 _ _ hi hq, hl4, hk4⟩, hq, hc⟩⟩
   | ret =>
    obtain ⟨hc, hk3, hi3⟩ := hp
    obtain ⟨hr, hl3, hl4, hk4⟩ := fin (some .ret) W3 hk3
    exact ⟨_, _, hr, .inr ⟨rfl, hc, hIx _ _ hi3 (Kq.loop hl3 (by omega) _), hl4, hk4⟩⟩
   | exit id => exact hp.elim
   | goto t => exact hp.elim
   | panic ch => exact hp.elim
   | outgrown => exact hp.elim
  ·rintro e W2 ⟨⟨v, rfl⟩, (⟨hS, hi, hl, hk⟩ | ⟨hSp, hi, hl, hk⟩)⟩
   ·exact ⟨none, _, by have := run_endLoop (P := P) hl (by rw [hrec]; simp); rw [hrec] at this; exact this, hdone _ _ (Nat.le_refl _) (hSd _ _ hS (Kq.loop hl (by omega) _)) (hI2 _ _ hi (Kq.loop hl (by omega) _)) ((World.putObj_heap_other (by omega)).trans hk)⟩
   ·exact ⟨some .ret, _, by have := run_endLoop (P := P) hl (by rw [hrec]; simp); rw [hrec] at this; exact this, hstop _ _ (Nat.le_refl _) hSp (hIx _ _ hi (Kq.loop hl (by omega) _)) ((World.putObj_heap_other (by omega)).trans hk)⟩
end Go.Proofs.YtikpipenhamdbaaGreat
