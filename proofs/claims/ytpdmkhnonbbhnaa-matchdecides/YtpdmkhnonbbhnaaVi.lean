/- slices.Backward over steps: what it yields. -/
import Derived.Test.YtpdmkhnonbbhnaaMnx
import Derived.RangeFuncNested
import Derived.RangeFuncBound
import Derived.RangeFuncCalls
import Derived.RangeFuncLeaves
import Derived.Shelf.Abstract
import Derived.OwnWalkIn
import Derived.TacticsInMore
import Derived.LoopNIn
import Derived.LoopIn
namespace Go.Proofs.Ytpdmkhnonbbhnaa
open Go.RowKit Go.Maps Go.Shelf
attribute [local go_sem] Oper.semAt_some

abbrev El := Nat × Rs
def elE (x : El) : Array Value := #[.int .i64 x.1, .agg #[.slice x.2.2.1.1 x.2.1.1.length x.2.2.1.2, .int .i64 x.2.1.2.1.1, .string ⟨x.2.1.2.1.2.1.toArray⟩, .int .i64 x.2.1.2.1.2.2, .slice x.2.2.2.1 x.2.1.2.2 x.2.2.2.2]]
/-- What comes in the round k, from the end on. -/
def elK (l : List Rs) (k : Nat) : El := (l.length - 1 - k, (l[l.length - 1 - k]?).getD (([], (0, [], 0), 0), (none, 0), (none, 0)))
theorem elK_at (l : List Rs) (i : Nat) (h : i < l.length) : elK l (l.length - 1 - i) = (i, l[i]) := by
  unfold elK
  have e : l.length - 1 - (l.length - 1 - i) = i := by omega
  rw [e, List.getElem?_eq_getElem h]
  rfl
def KpB (Bt gw : Nat) (A B : World) : Prop := B.heap[Bt]? = A.heap[Bt]? ∧ B.heap[gw]? = A.heap[gw]?
theorem KpB.trans {Bt gw : Nat} {A B C : World} (h : KpB Bt gw A B) (k : KpB Bt gw B C) : KpB Bt gw A C := ⟨k.1.trans h.1, k.2.trans h.2⟩
theorem rs_cells (l : List Rs) (i : Nat) (h : i < l.length) (c : Nat) (hc : c < 5) : (l.flatMap rsC)[i * 5 + c]? = (rsC l[i])[c]? := flat_get (k := 5) l (fun _ _ => rfl) i h c hc
theorem back_any (ad : Option Addr) (n cap : Nat) (w : World) : Calls Try.prog 58 #[.slice ad n cap] w fun e w' => e = .returned (.func (.func 72) #[] #[.pointer (some ⟨w.heap.size, 0, none⟩)]) ∧ w' = w.alloc (.cells #[.slice ad n cap] 98) := by
  go_enter Try.func58, Try.ntmps58
  go_wp2
  go_ret
  exact ⟨rfl, rfl⟩
set_option maxRecDepth 100000 in
set_option maxHeartbeats 4000000 in
theorem back_in (F : Fence) (n : Nat) (h72 : F.fn 72) (hro : F.round = none) (hn : 1 ≤ n) (lp Bt gw cap : Nat) (l : List Rs) (hl : l.length ≤ 100000) (J : Nat → World → Prop)
    (hY : ∀ k W, k < l.length → J k W → YieldAt F (n - 1) Try.prog lp (elE (elK l k)) W fun e W' => e = .returned (.bool true) ∧ J (k + 1) W' ∧ KpB Bt gw W W')
    (W : World) (hB : W.cell? ⟨Bt, 0, none⟩ = some (.slice (some ⟨gw, 0, none⟩) l.length cap)) (hc : ∀ i c, i < l.length → c < 5 → W.cell? ⟨gw, i * 5 + c, none⟩ = (l.flatMap rsC)[i * 5 + c]?) (h0 : J 0 W) :
    CallsIn F n Try.prog 72 #[.func (.yield lp) #[] #[], .pointer (some ⟨Bt, 0, none⟩)] W fun e W' => (∃ v, e = .returned v) ∧ J l.length W' := by
  have HC : Hid (∀ wr, KpB Bt gw W wr → wr.cell? ⟨Bt, 0, none⟩ = some (.slice (some ⟨gw, 0, none⟩) l.length cap) ∧ ∀ i (h : i < l.length), wr.cell? ⟨gw, i * 5, none⟩ = some (.slice l[i].2.1.1 l[i].1.1.length l[i].2.1.2) ∧ wr.cell? ⟨gw, i * 5 + 1, none⟩ = some (.int .i64 l[i].1.2.1.1) ∧ wr.cell? ⟨gw, i * 5 + 2, none⟩ = some (.string ⟨l[i].1.2.1.2.1.toArray⟩) ∧ wr.cell? ⟨gw, i * 5 + 3, none⟩ = some (.int .i64 l[i].1.2.1.2.2) ∧ wr.cell? ⟨gw, i * 5 + 4, none⟩ = some (.slice l[i].2.2.1 l[i].1.2.2 l[i].2.2.2)) := fun wr hk => by
    have e : ∀ (p : Addr), p.block = Bt ∨ p.block = gw → wr.cell? p = W.cell? p := fun p hp => by
      unfold World.cell?
      rcases hp with hp | hp
      · rw [hp, hk.1]
      · rw [hp, hk.2]
    refine ⟨(e ⟨Bt, 0, none⟩ (.inl rfl)).trans hB, fun i h => ?_⟩
    have f : ∀ c, c < 5 → wr.cell? ⟨gw, i * 5 + c, none⟩ = (rsC l[i])[c]? := fun c h5 => by
      rw [e ⟨gw, i * 5 + c, none⟩ (.inr rfl), hc i c h h5, rs_cells l i h c h5]
    exact ⟨f 0 (by omega), f 1 (by omega), f 2 (by omega), f 3 (by omega), f 4 (by omega)⟩
  clear hc
  have hlw : IntKind.i64.wrap ((l.length : Int) - 1) = (l.length : Int) - 1 := by rw [IntKind.wrap_i64]; omega
  refine callsIn_of_wp Try.func72 rfl h72 ?_ hro
  simp only [Try.ntmps72, List.size_toArray, List.length_cons, List.length_nil, Nat.reduceAdd, Nat.reduceSub, Array.replicate_succ, Array.replicate_zero, List.push_toArray, List.append_toArray, List.nil_append, List.cons_append]
  gi_wp2
  clear hB
  gi_loopw [3] (fun iv wr => ((∃ i : Nat, i < l.length ∧ iv = .int .i64 i ∧ J (l.length - 1 - i) wr) ∨ (iv = .int .i64 (-1) ∧ J l.length wr)) ∧ KpB Bt gw W wr) (fun iv _ => (intOf iv + 1).toNat)
  case atStart =>
    refine ⟨?_, rfl, rfl⟩
    by_cases h : l.length = 0
    · right
      refine ⟨by rw [h]; rfl, ?_⟩
      rw [h]
      exact h0
    · left
      refine ⟨l.length - 1, by omega, by congr 1; omega, ?_⟩
      rw [Nat.sub_self]
      exact h0
  case round =>
    obtain ⟨⟨i, hlt, rfl, hJs⟩ | ⟨rfl, hJs⟩, hkp⟩ := hrel
    · have hYi := hY (l.length - 1 - i) wr (by omega) hJs
      rw [elK_at l i hlt] at hYi
      obtain ⟨fn, tmps, assign, body, hy, hR⟩ := hYi
      unfold elE at hy
      obtain ⟨c0, hcs⟩ := HC.out wr hkp
      obtain ⟨q0, q1, q2, q3, q4⟩ := hcs i hlt
      have i1 : (0 : Int) ≤ (i : Int) := by omega
      have i2 : (i : Int) < (l.length : Int) := by omega
      have hge : decide ((0 : Int) ≤ (i : Int)) = true := by simp
      have hwi : IntKind.i64.wrap ((i : Int) - 1) = (i : Int) - 1 := by rw [IntKind.wrap_i64]; omega
      have HBK : Hid (KpB Bt gw W wr) := hkp
      have HL : Hid (i < l.length ∧ l.length ≤ 100000) := ⟨hlt, hl⟩
      clear hcs hY hkp hlw hJs h0
      generalize l[i] = x at *
      gi_wp2
      refine hR.mono ?_
      rintro e W3 ⟨rfl, hJ3, hk3⟩
      gi_wp2
      go_roundw
      case rel =>
        refine ⟨?_, HBK.out.trans hk3⟩
        have hL := HL.out
        by_cases h : i = 0
        · right
          refine ⟨by rw [h]; rfl, ?_⟩
          have e : l.length - 1 - i + 1 = l.length := by omega
          rw [e] at hJ3
          exact hJ3
        · left
          refine ⟨i - 1, by omega, by congr 1; omega, ?_⟩
          have e : l.length - 1 - (i - 1) = l.length - 1 - i + 1 := by omega
          rw [e]
          exact hJ3
      case measure => simp [intOf] <;> omega
    · gi_wp2
      go_end0
      exact ⟨⟨_, rfl⟩, hJs⟩
set_option maxRecDepth 100000 in
set_option maxHeartbeats 4000000 in
theorem back_nil (F : Fence) (n : Nat) (h72 : F.fn 72) (hro : F.round = none) (lp Bt : Nat) (ad : Option Addr) (cap : Nat) (J : Nat → World → Prop) (W : World) (hB : W.cell? ⟨Bt, 0, none⟩ = some (.slice ad 0 cap)) (h0 : J 0 W) :
    CallsIn F n Try.prog 72 #[.func (.yield lp) #[] #[], .pointer (some ⟨Bt, 0, none⟩)] W fun e W' => (∃ v, e = .returned v) ∧ J 0 W' := by
  have hlw : IntKind.i64.wrap ((0 : Int) - 1) = -1 := by rw [IntKind.wrap_i64]; omega
  refine callsIn_of_wp Try.func72 rfl h72 ?_ hro
  simp only [Try.ntmps72, List.size_toArray, List.length_cons, List.length_nil, Nat.reduceAdd, Nat.reduceSub, Array.replicate_succ, Array.replicate_zero, List.push_toArray, List.append_toArray, List.nil_append, List.cons_append]
  gi_wp2
  gi_loopw [3] (fun i wr => i = .int .i64 (-1) ∧ J 0 wr) (fun _ _ => 0)
  case atStart => exact ⟨rfl, h0⟩
  case round =>
    obtain ⟨rfl, hJs⟩ := hrel
    gi_wp2
    go_end0
    exact ⟨⟨_, rfl⟩, hJs⟩
/-- A range over a function that yields so many times, the round k with its own values; the assignment lays them in a block. -/
theorem range_kth {F : Fence} {n : Nat} {P : Program} {g : Operand} {ps : Array Tmp} {assign body : Code} {Q : Exit → Act → World → Prop} {a : Act} {w : World}
    (hro : F.round = none) (h1 : 1 ≤ n) {gf : Nat} {lb : Array Value} (hg : a.eval g = .func (.func gf) #[] lb) (hFg : F.fn gf) (eg : ∀ args w, (callFunc gf args).run P w = .ok (.enter gf args) w)
    (N : Nat) (encs : Nat → Array Value) (hps : ∀ x, (encs x).size = ps.size) (Kp : World → World → Prop) (hKt : ∀ {A B C : World}, Kp A B → Kp B C → Kp A C) (hK : ∀ (A B : World) (row : Option Nat), w.heap.size ≤ A.heap.size → A.grownBy B row → (∀ r, row = some r → w.heap.size ≤ r) → Kp A B) (I : Nat → World → Prop)
    (hI : ∀ (k : Nat) (A B : World) (row : Option Nat), I k A → A.grownBy B row → (∀ r, row = some r → w.heap.size ≤ r ∧ ∃ o, A.heap[r]? = some o ∧ o.isCells = false) → I k B)
    (hseq : ∀ (l : Nat) (J : Nat → World → Prop) (W : World), Below w.heap.size w W → (∀ k W1, k < N → J k W1 → YieldAt F (n - 1 - 1) P l (encs k) W1 fun e W' => e = .returned (.bool true) ∧ J (k + 1) W' ∧ Kp W1 W') → J 0 W → CallsIn F (n - 1) P gf (#[.func (.yield l) #[] #[]] ++ lb) W fun e W' => (∃ v, e = .returned v) ∧ J N W')
    (h0 : I 0 w) (ob : Nat → Obj) (a₁ : Nat → Nat → Act)
    (hassign : ∀ (l k : Nat) (W : World) (K : Act → World → Prop), K (a₁ k W.heap.size) (W.alloc (ob k)) → assign.wpIn (F.inRound l) (n - 1 - 1) P (Exit.then K (fun _ _ _ => False)) { tmps := (ps.zip (encs k)).foldl (fun t (p, v) => t.setIfInBounds p v) a.tmps, defers := [] } W)
    (hbody : ∀ (l k b : Nat) (W : World), k < N → I k W → w.heap.size ≤ b → W.heap[b]? = some (ob k) → body.wpIn (F.inRound l) (n - 1 - 1) P (fun e _ W' => e = .normal ∧ KeepsFrom w.heap.size W W' ∧ Kp W W' ∧ I (k + 1) W') (a₁ k b) W)
    (hdone : ∀ (D : Nat) (W : World), w.heap.size ≤ D → I N W → W.heap[D]? = some (.deferred (some [])) → Q .normal { a with defers := { target := .collected D, args := #[] } :: a.defers } W) :
    (Code.rangeFunc g ps assign body).wpIn F n P Q a w := by
  refine wpIn_rangeFunc ?_
  intro fn hfn
  rw [hro]
  obtain ⟨rc, hrc⟩ : ∃ rc : LoopState → Option Code → Loop, rc = fun st pe => { state := st, pending := pe, fn, tmps := a.tmps, params := ps, assign, body, defers := w.heap.size } := ⟨_, rfl⟩
  obtain ⟨V, hV⟩ : ∃ V, V = (w.alloc (.deferred (some []))).alloc (.loop (rc .ready none)) := ⟨_, rfl⟩
  have hVl : V.heap[w.heap.size + 1]? = some (.loop (rc .ready none)) := by
    have := World.alloc_heap_new (w.alloc (.deferred (some []))) (.loop (rc .ready none))
    rw [World.size_alloc] at this
    rw [hV]
    exact this
  have hVd : V.heap[w.heap.size]? = some (.deferred (some [])) := by
    rw [hV]
    exact (Below.heap_alloc _ _ _ (by simp)).trans (World.alloc_heap_new w _)
  have hbV : Below w.heap.size w V := by
    rw [hV]
    exact ((Below.refl _ w).alloc (Nat.le_refl _) _).alloc (by simp) _
  have hgV : w.grownBy V none := ⟨hbV.os, hbV.tape, hbV.output, hbV.size, fun k hk _ => hbV.block k hk⟩
  refine ⟨w.heap.size + 1, [{ target := .collected w.heap.size, args := #[] }], V, { target := .fn (.func gf) lb, args := #[.func (.yield (w.heap.size + 1)) #[] #[]] }, V, gf, #[.func (.yield (w.heap.size + 1)) #[] #[]] ++ lb, V, ?_, ?_, ?_, ?_, fun _ => h1, ?_⟩
  · rw [hV, hrc]
    exact run_enterLoop_outer _ _ _ _ _
  · simp only [resolve, hg]
    simp [go_sem]
  · intro f' hf'
    simp [Target.leads] at hf'
    subst hf'
    exact hFg
  · simp [invoke, go_sem, eg]
  · have putG : ∀ (W : World) (o : Obj), W.grownBy (W.putObj (w.heap.size + 1) o) (some (w.heap.size + 1)) := fun W o => grownBy_putObj' W (w.heap.size + 1) o
    have rowOk : ∀ (W : World) (r : Loop), W.heap[w.heap.size + 1]? = some (.loop r) → ∀ x, some (w.heap.size + 1) = some x → w.heap.size ≤ x ∧ ∃ o, W.heap[x]? = some o ∧ o.isCells = false := fun W r h x e => by
      injection e with e
      subst e
      exact ⟨by omega, _, h, rfl⟩
    refine (hseq (w.heap.size + 1) (fun k W => I k W ∧ W.heap[w.heap.size + 1]? = some (.loop (rc .ready none)) ∧ W.heap[w.heap.size]? = some (.deferred (some []))) V hbV ?_ ⟨hI 0 _ _ none h0 hgV (fun r e => by cases e), hVl, hVd⟩).mono ?_
    · rintro k W hk ⟨hi, hl, hd⟩
      have hsz : w.heap.size + 1 < W.heap.size := (Array.getElem?_eq_some_iff.1 hl).1
      have hy := run_yield (P := P) (args := encs k) hl (by rw [hrc]; exact hps k)
      rw [hrc] at hy
      have hgA : W.grownBy (W.alloc (ob k)) none := World.grownBy_alloc W _ none
      have hlA : (W.alloc (ob k)).heap[w.heap.size + 1]? = some (.loop (rc .ready none)) := (Below.heap_alloc _ _ _ hsz).trans hl
      have hdA : (W.alloc (ob k)).heap[w.heap.size]? = some (.deferred (some [])) := (Below.heap_alloc _ _ _ (by omega)).trans hd
      have hiA := hI k _ _ none hi hgA (fun r e => by cases e)
      refine ⟨fn, _, assign, body, hy, roundIn_of_wpIn hfn (hassign _ k W _ ⟨_, run_beginRound hlA (by rw [hrc]), ?_⟩)⟩
      obtain ⟨X, hX⟩ : ∃ X, X = (W.alloc (ob k)).putObj (w.heap.size + 1) (.loop { rc .ready none with state := .busy }) := ⟨_, rfl⟩
      have hlX : X.heap[w.heap.size + 1]? = some (.loop { rc .ready none with state := .busy }) := by
        rw [hX]
        exact World.putObj_heap_same (by simp; omega)
      have hdX : X.heap[w.heap.size]? = some (.deferred (some [])) := by
        rw [hX]
        exact (World.putObj_heap_other (by omega)).trans hdA
      have hbX : X.heap[W.heap.size]? = some (ob k) := by
        rw [hX]
        exact (World.putObj_heap_other (by omega)).trans (World.alloc_heap_new W _)
      have hgX : (W.alloc (ob k)).grownBy X (some (w.heap.size + 1)) := by rw [hX]; exact putG _ _
      have hiX := hI k _ _ _ hiA hgX (rowOk _ _ hlA)
      have hKX : Kp W X := hKt (hK _ _ none (by omega) hgA (fun r e => by cases e)) (hK _ _ _ (by simp; omega) hgX (fun r e => by cases e; omega))
      rw [← hX]
      refine wpIn_mono (hbody _ k W.heap.size X hk hiX (by omega) hbX) ?_
      rintro e a3 W3 ⟨rfl, hk3, hp3, hi3⟩
      have hl3 := hk3.same _ _ (by omega) hlX rfl
      have hd3 := hk3.same _ _ (Nat.le_refl _) hdX rfl
      have hs3 : w.heap.size + 1 < W3.heap.size := (Array.getElem?_eq_some_iff.1 hl3).1
      have hr := run_endRound (P := P) none hl3
      refine ⟨_, _, hr, rfl, ⟨hI _ _ _ _ hi3 (putG _ _) (rowOk _ _ hl3), ?_, ?_⟩, hKt hKX (hKt hp3 (hK _ _ _ (by omega) (putG _ _) (fun r e => by cases e; omega)))⟩
      · rw [World.putObj_heap_same hs3, hrc]
        rfl
      · exact (World.putObj_heap_other (by omega)).trans hd3
    · rintro e W2 ⟨⟨v, rfl⟩, hi, hl, hd⟩
      refine ⟨none, _, by have := run_endLoop (P := P) hl (by rw [hrc]; simp); rw [hrc] at this; exact this, hdone _ _ (Nat.le_refl _) (hI _ _ _ _ hi (putG _ _) (rowOk _ _ hl)) ((World.putObj_heap_other (by omega)).trans hd)⟩
end Go.Proofs.Ytpdmkhnonbbhnaa
