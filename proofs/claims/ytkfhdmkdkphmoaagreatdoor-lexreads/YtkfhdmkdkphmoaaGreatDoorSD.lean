/- What Lex and the reference's Lex answer of one text; faulted of either answer. LexReads answers true, whatever texts it is handed. -/
import Derived.Test.YtkfhdmkdkphmoaaGreatDoorSj
import Derived.Test.YtkfhdmkdkphmoaaGreatDoorSi
import Derived.Test.YtkfhdmkdkphmoaaGreatDoorJm
import Derived.Test.YtkfhdmkdkphmoaaGreatDoorSC
import Derived.Test.YtkfhdmkdkphmoaaGreatDoorAw
namespace Go.Proofs.YtkfhdmkdkphmoaaGreatDoor
open Go.RowKit

/-- An error that tells a fault, or nothing. -/
def FaultV (W : World) (ev : Value) (c p : Int) : Prop := (c = 0 ∧ p = 0 ∧ ev = .nilIface) ∨ (¬ c = 0 ∧ ∃ b, ev = .iface 45 (.pointer (some ⟨b, 0, none⟩)) ∧ W.heap[b]? = some (.cells #[.int .i64 c, .int .i64 0, .int .i64 p, .string ⟨#[]⟩] 26 (0, 0)))
theorem FaultV.below {W W' : World} {ev : Value} {c p : Int} (h : FaultV W ev c p) (hb : Below W.heap.size W W') : FaultV W' ev c p := by
  rcases h with h | ⟨hc, b, rfl, hh⟩
  · exact .inl h
  · exact .inr ⟨hc, b, rfl, (hb.block b (lt_of_heap hh)).trans hh⟩

theorem own_slice {W : World} {B e size n : Nat} {v : Value} {xs : List Value} (h : W.ownsRow B e size v n xs) : ∃ ad cap, v = .slice ad n cap := by
  rcases h.2 with ⟨rfl, rfl⟩ | ⟨g, cap, cur, rfl, _⟩
  · exact ⟨_, _, rfl⟩
  · exact ⟨_, _, rfl⟩

theorem answers (s : ByteArray) (hm : s.size ≤ maxLen) : ∃ (ts : List Tk) (c p : Int), ts.length ≤ 20000 ∧
    (∀ W : World, Calls Tryz.prog 5 #[.string s] W fun e w' => ∃ ad cap, e = .returned (.tuple #[.slice ad ts.length cap, .agg #[.int .i64 c, .int .i64 0, .int .i64 p, .string ⟨#[]⟩]]) ∧ w'.ownsRow W.heap.size 39 4 (.slice ad ts.length cap) ts.length (rowCells ts) ∧ Below W.heap.size W w') ∧
    (∀ W : World, Cl W → 1 < W.heap.size → Calls Tryz.prog 6 #[.string s] W fun e w' => ∃ ad cap ev, e = .returned (.tuple #[.slice ad ts.length cap, ev]) ∧ w'.ownsRow W.heap.size 39 4 (.slice ad ts.length cap) ts.length (rowCells ts) ∧ FaultV w' ev c p ∧ Below W.heap.size W w') := by
  by_cases hbig : 65536 < s.size
  · refine ⟨[], 2, -1, by simp, fun W => ?_, fun W _ _ => ?_⟩
    · refine Calls.mono (ref_lex_long s W hbig hm) ?_
      rintro e w' ⟨rfl, hb⟩
      exact ⟨none, 0, rfl, World.ownsRow_nil _ _ _ _, hb⟩
    · refine Calls.mono (lex_long s W hbig hm) ?_
      rintro e w' ⟨⟨b, _, rfl, hh⟩, hb⟩
      exact ⟨none, 0, _, rfl, World.ownsRow_nil _ _ _ _, .inr ⟨by decide, b, rfl, hh⟩, hb⟩
  · have hs : s.size ≤ 65536 := by omega
    have RL := fun W => ref_lex_by s W hs (fun k W hk => ref_at s k W hs hk)
    have PL := fun W hC h1 => lex_any s W hs hC h1
    cases hl : lexL 0 (rest s 0) 0 with
    | error x =>
      obtain ⟨c, p⟩ := x
      have hc := lexL_err_ne hl
      rw [hl] at RL PL
      refine ⟨[], c, p, by simp, fun W => ?_, fun W hC h1 => ?_⟩
      · refine Calls.mono (RL W) ?_
        rintro e w' ⟨rfl, hb⟩
        exact ⟨none, 0, rfl, World.ownsRow_nil _ _ _ _, hb⟩
      · refine Calls.mono (PL W hC h1) ?_
        rintro e w' ⟨⟨b, _, rfl, hh⟩, hb⟩
        exact ⟨none, 0, _, rfl, World.ownsRow_nil _ _ _ _, .inr ⟨by omega, b, rfl, hh⟩, hb⟩
    | ok ts =>
      have hmax := lexL_max _ _ _ _ _ (Nat.le_refl _) hl (by omega)
      rw [hl] at RL PL
      refine ⟨ts, 0, 0, by omega, fun W => ?_, fun W hC h1 => ?_⟩
      · refine Calls.mono (RL W) ?_
        rintro e w' ⟨⟨tk, rfl, ho⟩, hb⟩
        obtain ⟨ad, cap, rfl⟩ := own_slice ho
        exact ⟨ad, cap, rfl, ho, hb⟩
      · refine Calls.mono (PL W hC h1) ?_
        rintro e w' ⟨⟨tk, rfl, ho⟩, hb⟩
        obtain ⟨ad, cap, rfl⟩ := own_slice ho
        exact ⟨ad, cap, _, rfl, ho, .inl ⟨rfl, rfl, rfl⟩, hb⟩

set_option maxHeartbeats 1000000 in
theorem faulted_nil (w : World) : Calls Tryz.prog 7 #[.nilIface, .agg #[.int .i64 0, .int .i64 0, .int .i64 0, .string ⟨#[]⟩]] w fun e w' => e = .returned (.bool true) ∧ Below w.heap.size w w' := by
  have hA := (Below.refl w.heap.size w).alloc (Nat.le_refl _) (.cells #[.int .i64 0, .int .i64 0, .int .i64 0, .string ⟨#[]⟩] 26)
  have hr : (w.alloc (.cells #[.int .i64 0, .int .i64 0, .int .i64 0, .string ⟨#[]⟩] 26)).heap[w.heap.size]? = some (.cells #[.int .i64 0, .int .i64 0, .int .i64 0, .string ⟨#[]⟩] 26 (0, 0)) := by
    show (w.heap.push _)[w.heap.size]? = _
    simp
  have SN : Calls Tryz.prog 13 #[.nilIface] (w.alloc (.cells #[.int .i64 0, .int .i64 0, .int .i64 0, .string ⟨#[]⟩] 26)) fun e w' => e = .returned (.tuple #[.agg #[.int .i64 0, .int .i64 0, .int .i64 0, .string ⟨#[]⟩], .bool true]) ∧ Below w.heap.size w w' ∧
      (w'.cell? ⟨w.heap.size, 0, none⟩ = some (.int .i64 0) ∧ w'.cell? ⟨w.heap.size, 1, none⟩ = some (.int .i64 0) ∧ w'.cell? ⟨w.heap.size, 2, none⟩ = some (.int .i64 0) ∧ w'.cell? ⟨w.heap.size, 3, none⟩ = some (.string ⟨#[]⟩)) ∧ w.heap.size < w'.heap.size := by
    refine Calls.mono (seen_nil _) ?_
    rintro e w' ⟨rfl, hbel⟩
    have hr' := (hbel.block w.heap.size (by simp)).trans hr
    exact ⟨rfl, hA.trans (hbel.mono (by simp)), ⟨(cell_block hr').trans rfl, (cell_block hr').trans rfl, (cell_block hr').trans rfl, (cell_block hr').trans rfl⟩, lt_of_heap hr'⟩
  have EQ := eq_fault 0 0
  clear hA hr
  go_enter Tryz.func7, Tryz.ntmps7
  go_wp2_with (go_at_call 13; with_reducible refine Calls.mono SN ?_; rintro e w1 ⟨rfl, hb1, ⟨q0, q1, q2, q3⟩, hlt⟩)
  have d0 := (World.cell?_alloc_lt w1 (.cells #[.int .i64 0, .int .i64 0, .int .i64 0, .string ⟨#[]⟩] 26) ⟨w.heap.size, 0, none⟩ hlt).trans q0
  have d1 := (World.cell?_alloc_lt w1 (.cells #[.int .i64 0, .int .i64 0, .int .i64 0, .string ⟨#[]⟩] 26) ⟨w.heap.size, 1, none⟩ hlt).trans q1
  have d2 := (World.cell?_alloc_lt w1 (.cells #[.int .i64 0, .int .i64 0, .int .i64 0, .string ⟨#[]⟩] 26) ⟨w.heap.size, 2, none⟩ hlt).trans q2
  have d3 := (World.cell?_alloc_lt w1 (.cells #[.int .i64 0, .int .i64 0, .int .i64 0, .string ⟨#[]⟩] 26) ⟨w.heap.size, 3, none⟩ hlt).trans q3
  have hr2 : (w1.alloc (.cells #[.int .i64 0, .int .i64 0, .int .i64 0, .string ⟨#[]⟩] 26)).heap[w1.heap.size]? = some (.cells #[.int .i64 0, .int .i64 0, .int .i64 0, .string ⟨#[]⟩] 26 (0, 0)) := by
    show (w1.heap.push _)[w1.heap.size]? = _
    simp
  have f0 : _ = some _ := (cell_block (i := 0) hr2).trans rfl
  have f1 : _ = some _ := (cell_block (i := 1) hr2).trans rfl
  have f2 : _ = some _ := (cell_block (i := 2) hr2).trans rfl
  have f3 : _ = some _ := (cell_block (i := 3) hr2).trans rfl
  have hbW := hb1.alloc hb1.size (.cells #[.int .i64 0, .int .i64 0, .int .i64 0, .string ⟨#[]⟩] 26)
  clear hr2 q0 q1 q2 q3 hb1 SN
  generalize w1.alloc (.cells #[.int .i64 0, .int .i64 0, .int .i64 0, .string ⟨#[]⟩] 26) = W2 at *
  have hE := Tryz.eg26
  go_quiet (fail)
  go_wp2
  go_ret
  exact ⟨ret_bool (by simp), below_drewN hbW _⟩

theorem faulted_all (W : World) (ev : Value) (c p : Int) (hE : Et W) (h1 : 1 < W.heap.size) (h : FaultV W ev c p) : Calls Tryz.prog 7 #[ev, .agg #[.int .i64 c, .int .i64 0, .int .i64 p, .string ⟨#[]⟩]] W fun e w' => e = .returned (.bool true) ∧ Below W.heap.size W w' := by
  rcases h with ⟨rfl, rfl, rfl⟩ | ⟨hc, b, rfl, hh⟩
  · exact faulted_nil W
  · exact faulted_hit b c p W hc hE h1 hh
end Go.Proofs.YtkfhdmkdkphmoaaGreatDoor

namespace Go.Proofs.YtkfhdmkdkphmoaaGreatDoor
open Go.RowKit

theorem same_self (v1 v2 : Value) (ts : List Tk) (w : World) (h1 : RowAt w v1 ts) (h2 : RowAt w v2 ts) (hb : ts.length ≤ 20000) : Calls Tryz.prog 8 #[v1, v2] w fun e w' => e = .returned (.bool true) ∧ Below w.heap.size w w' := by
  have := same_any v1 v2 ts ts w h1 h2 hb hb
  rw [decide_eq_true rfl] at this
  refine Calls.mono this ?_
  rintro e w' ⟨rfl, k, rfl⟩
  exact ⟨rfl, below_drewN (Below.refl _ _) k⟩

/-- What holds of memory behind the six calls. -/
structure RdW (w : World) (b1 b2 : Nat) (c p c' p' : Int) (ts ts' : List Tk) (t1 t2 va vb vc vd ea eb ec ed : Value) (W : World) : Prop where
  bel : Below w.heap.size w W
  f1 : W.heap[b1]? = some (.cells #[.int .i64 c, .int .i64 0, .int .i64 p, .string ⟨#[]⟩] 26 (0, 0))
  f2 : W.heap[b2]? = some (.cells #[.int .i64 c', .int .i64 0, .int .i64 p', .string ⟨#[]⟩] 26 (0, 0))
  o1 : W.ownsRow w.heap.size 39 4 t1 ts.length (rowCells ts)
  o2 : W.ownsRow w.heap.size 39 4 t2 ts'.length (rowCells ts')
  oa : W.ownsRow w.heap.size 39 4 va ts.length (rowCells ts)
  ob : W.ownsRow w.heap.size 39 4 vb ts.length (rowCells ts)
  oc : W.ownsRow w.heap.size 39 4 vc ts'.length (rowCells ts')
  od : W.ownsRow w.heap.size 39 4 vd ts.length (rowCells ts)
  ha : FaultV W ea c p
  hb : FaultV W eb c p
  hc : FaultV W ec c' p'
  hd : FaultV W ed c p
theorem RdW.below {w : World} {b1 b2 : Nat} {c p c' p' : Int} {ts ts' : List Tk} {t1 t2 va vb vc vd ea eb ec ed : Value} {W W' : World} (h : RdW w b1 b2 c p c' p' ts ts' t1 t2 va vb vc vd ea eb ec ed W) (hb : Below W.heap.size W W') : RdW w b1 b2 c p c' p' ts ts' t1 t2 va vb vc vd ea eb ec ed W' :=
  ⟨h.bel.trans (hb.mono h.bel.size), (hb.block b1 (lt_of_heap h.f1)).trans h.f1, (hb.block b2 (lt_of_heap h.f2)).trans h.f2, own_stay h.o1 hb, own_stay h.o2 hb, own_stay h.oa hb, own_stay h.ob hb, own_stay h.oc hb, own_stay h.od hb, h.ha.below hb, h.hb.below hb, h.hc.below hb, h.hd.below hb⟩

theorem flt_cells {W : World} {b : Nat} {c p : Int} (h : W.heap[b]? = some (.cells #[.int .i64 c, .int .i64 0, .int .i64 p, .string ⟨#[]⟩] 26 (0, 0))) : W.cell? ⟨b, 0, none⟩ = some (.int .i64 c) ∧ W.cell? ⟨b, 1, none⟩ = some (.int .i64 0) ∧ W.cell? ⟨b, 2, none⟩ = some (.int .i64 p) ∧ W.cell? ⟨b, 3, none⟩ = some (.string ⟨#[]⟩) := ⟨cell_block h, cell_block h, cell_block h, cell_block h⟩
/-- One of four. -/
def pick4 {α : Type} (a b c d : α) : Nat → α
  | 0 => a
  | 1 => b
  | 2 => c
  | _ => d

set_option maxHeartbeats 8000000 in
set_option maxRecDepth 10000 in
theorem reads_any (s o : ByteArray) (w : World) (hCl : Cl w) (hEt : Et w) (h1 : 1 < w.heap.size) (hs : s.size ≤ maxLen) (ho : o.size ≤ maxLen) :
    Calls Tryz.prog 3 #[.string s, .string o] w fun e w' => e = .returned (.bool true) ∧ Below w.heap.size w w' := by
  have AW := awake_any w hCl h1
  obtain ⟨ts, c, p, hts, RA, LA0⟩ := answers s hs
  obtain ⟨ts', c', p', hts', RB, LB0⟩ := answers o ho
  have LA := fun W (h : Below w.heap.size w W) => LA0 W (hCl.below h h1) (Nat.lt_of_lt_of_le h1 h.size)
  have LB := fun W (h : Below w.heap.size w W) => LB0 W (hCl.below h h1) (Nat.lt_of_lt_of_le h1 h.size)
  have FA : ∀ W ev c p, Below w.heap.size w W → FaultV W ev c p → Calls Tryz.prog 7 #[ev, .agg #[.int .i64 c, .int .i64 0, .int .i64 p, .string ⟨#[]⟩]] W fun e w' => e = .returned (.bool true) ∧ Below W.heap.size W w' := fun W ev c p h hf => faulted_all W ev c p (hEt.below h h1) (Nat.lt_of_lt_of_le h1 h.size) hf
  clear LA0 LB0 hCl hEt hs ho
  go_enter Tryz.func3, Tryz.ntmps3
  go_upto_region 8 with (first | (go_at_call 4; (with_reducible refine Calls.mono AW ?_); rintro e w1 ⟨rfl, hb1⟩) | (go_at_call 5; (with_reducible refine Calls.mono (RA w1) ?_); rintro e w2 ⟨x1, y1, rfl, own1, hb2⟩; have B2 := hb1.trans (hb2.mono hb1.size)) | (go_at_call 5; (with_reducible refine Calls.mono (RB _) ?_); rintro e w3 ⟨x2, y2, rfl, own2, hb3⟩; have B3 := (B2.alloc B2.size _).trans (hb3.mono (by have := B2.size; simp; omega))) | (go_at_call 6; (with_reducible refine Calls.mono (LA _ (B3.alloc B3.size _)) ?_); rintro e w4 ⟨xa, ya, ea, rfl, owna, fva, hb4⟩; have B4 := (B3.alloc B3.size _).trans (hb4.mono (by have := B3.size; simp; omega))) | (go_at_call 6; (with_reducible refine Calls.mono (LA w4 B4) ?_); rintro e w5 ⟨xb, yb, eb, rfl, ownb, fvb, hb5⟩; have B5 := B4.trans (hb5.mono B4.size)) | (go_at_call 6; (with_reducible refine Calls.mono (LB w5 B5) ?_); rintro e w6 ⟨xc, yc, ec, rfl, ownc, fvc, hb6⟩; have B6 := B5.trans (hb6.mono B5.size)) | (go_at_call 6; (with_reducible refine Calls.mono (LA w6 B6) ?_); rintro e w7 ⟨xd, yd, ed, rfl, ownd, fvd, hb7⟩; have B7 := B6.trans (hb7.mono B6.size)))
  have c23 : Below w2.heap.size w2 w3 := ((Below.refl _ _).alloc (Nat.le_refl _) _).trans (hb3.mono (by simp))
  have c34 : Below w3.heap.size w3 w4 := ((Below.refl _ _).alloc (Nat.le_refl _) _).trans (hb4.mono (by simp))
  have c57 := hb6.trans (hb7.mono hb6.size)
  have c47 := hb5.trans (c57.mono hb5.size)
  have c37 := c34.trans (c47.mono c34.size)
  have c27 := c23.trans (c37.mono c23.size)
  obtain ⟨b1, HB1⟩ : ∃ b1, Hid (b1 = w2.heap.size) := ⟨w2.heap.size, by show _ = _; rfl⟩
  obtain ⟨b2, HB2⟩ : ∃ b2, Hid (b2 = w3.heap.size) := ⟨w3.heap.size, by show _ = _; rfl⟩
  have F1 : w7.heap[b1]? = some (.cells #[.int .i64 c, .int .i64 0, .int .i64 p, .string ⟨#[]⟩] 26 (0, 0)) := by
    rw [HB1.out]
    exact ((hb3.trans (c37.mono hb3.size)).block w2.heap.size (by simp)).trans (heap_alloc_new w2 _)
  have F2 : w7.heap[b2]? = some (.cells #[.int .i64 c', .int .i64 0, .int .i64 p', .string ⟨#[]⟩] 26 (0, 0)) := by
    rw [HB2.out]
    exact ((hb4.trans (c47.mono hb4.size)).block w3.heap.size (by simp)).trans (heap_alloc_new w3 _)
  have z1 := hb1.size
  have z2 := B2.size
  have z3 := B3.size
  have z4 := B4.size
  have z5 := B5.size
  have z6 := B6.size
  have Q7 : RdW w b1 b2 c p c' p' ts ts' (.slice x1 ts.length y1) (.slice x2 ts'.length y2) (.slice xa ts.length ya) (.slice xb ts.length yb) (.slice xc ts'.length yc) (.slice xd ts.length yd) ea eb ec ed w7 :=
    ⟨B7, F1, F2, own_stay (ownsRow_mono own1 z1) c27, own_stay (ownsRow_mono own2 (by simp; omega)) c37, own_stay (ownsRow_mono owna (by simp; omega)) c47, own_stay (ownsRow_mono ownb z4) c57, own_stay (ownsRow_mono ownc z5) hb7, ownsRow_mono ownd z6, fva.below c47, fvb.below c57, fvc.below hb7, fvd⟩
  have hdis : ∀ i j g, i < 4 → j < 4 → (pick4 (Value.slice xa ts.length ya) (.slice xb ts.length yb) (.slice xc ts'.length yc) (.slice xd ts.length yd) i).ownBlock = some g → (pick4 (Value.slice xa ts.length ya) (.slice xb ts.length yb) (.slice xc ts'.length yc) (.slice xd ts.length yd) j).ownBlock = some g → i = j := by
    have la := owna.lt
    have lb := ownb.lt
    have lc := ownc.lt
    have ld := ownd.lt
    have y5 := hb5.size
    have y6 := hb6.size
    intro i j g hi hj e1 e2
    rcases (by omega : i = 0 ∨ i = 1 ∨ i = 2 ∨ i = 3) with rfl | rfl | rfl | rfl <;> rcases (by omega : j = 0 ∨ j = 1 ∨ j = 2 ∨ j = 3) with rfl | rfl | rfl | rfl
    all_goals first | rfl | (exfalso; simp only [pick4] at e1 e2; have k1 := la g; have k2 := lb g; have k3 := lc g; have k4 := ld g; simp_all; omega)
  have HD : Hid (∀ i j g, i < 4 → j < 4 → (pick4 (Value.slice xa ts.length ya) (.slice xb ts.length yb) (.slice xc ts'.length yc) (.slice xd ts.length yd) i).ownBlock = some g → (pick4 (Value.slice xa ts.length ya) (.slice xb ts.length yb) (.slice xc ts'.length yc) (.slice xd ts.length yd) j).ownBlock = some g → i = j) := hdis
  rw [← HB1.out, ← HB2.out]
  have S1 : ∀ W, RdW w b1 b2 c p c' p' ts ts' (.slice x1 ts.length y1) (.slice x2 ts'.length y2) (.slice xa ts.length ya) (.slice xb ts.length yb) (.slice xc ts'.length yc) (.slice xd ts.length yd) ea eb ec ed W → Calls Tryz.prog 8 #[.slice xa ts.length ya, .slice x1 ts.length y1] W fun e w' => e = .returned (.bool true) ∧ Below W.heap.size W w' := fun W h => same_self _ _ ts W (RowAt.of_own h.oa) (RowAt.of_own h.o1) hts
  have S2 : ∀ W, RdW w b1 b2 c p c' p' ts ts' (.slice x1 ts.length y1) (.slice x2 ts'.length y2) (.slice xa ts.length ya) (.slice xb ts.length yb) (.slice xc ts'.length yc) (.slice xd ts.length yd) ea eb ec ed W → Calls Tryz.prog 8 #[.slice xb ts.length yb, .slice x1 ts.length y1] W fun e w' => e = .returned (.bool true) ∧ Below W.heap.size W w' := fun W h => same_self _ _ ts W (RowAt.of_own h.ob) (RowAt.of_own h.o1) hts
  have S3 : ∀ W, RdW w b1 b2 c p c' p' ts ts' (.slice x1 ts.length y1) (.slice x2 ts'.length y2) (.slice xa ts.length ya) (.slice xb ts.length yb) (.slice xc ts'.length yc) (.slice xd ts.length yd) ea eb ec ed W → Calls Tryz.prog 8 #[.slice xc ts'.length yc, .slice x2 ts'.length y2] W fun e w' => e = .returned (.bool true) ∧ Below W.heap.size W w' := fun W h => same_self _ _ ts' W (RowAt.of_own h.oc) (RowAt.of_own h.o2) hts'
  have S4 : ∀ W, RdW w b1 b2 c p c' p' ts ts' (.slice x1 ts.length y1) (.slice x2 ts'.length y2) (.slice xa ts.length ya) (.slice xb ts.length yb) (.slice xc ts'.length yc) (.slice xd ts.length yd) ea eb ec ed W → Calls Tryz.prog 8 #[.slice xd ts.length yd, .slice x1 ts.length y1] W fun e w' => e = .returned (.bool true) ∧ Below W.heap.size W w' := fun W h => same_self _ _ ts W (RowAt.of_own h.od) (RowAt.of_own h.o1) hts
  obtain ⟨q0, q1, q2, q3⟩ := flt_cells Q7.f1
  clear hdis F1 F2 c23 c34 c57 c47 c37 c27 own1 own2 owna ownb ownc ownd fva fvb fvc fvd hb1 hb2 hb3 hb4 hb5 hb6 hb7 B2 B3 B4 B5 B6 B7 z1 z2 z3 z4 z5 z6 RA RB LA LB AW HB1 HB2
  go_upto_region 18 with (first | (go_at_call 7; (with_reducible refine Calls.mono (FA w7 ea c p Q7.bel Q7.ha) ?_); rintro e w8 ⟨rfl, hb8⟩; have Q8 := Q7.below hb8; obtain ⟨r0, r1, r2, r3⟩ := flt_cells Q8.f1) | (go_at_call 7; (with_reducible refine Calls.mono (FA w8 eb c p Q8.bel Q8.hb) ?_); rintro e w9 ⟨rfl, hb9⟩; have Q9 := Q8.below hb9; obtain ⟨u0, u1, u2, u3⟩ := flt_cells Q9.f2) | (go_at_call 7; (with_reducible refine Calls.mono (FA w9 ec c' p' Q9.bel Q9.hc) ?_); rintro e w10 ⟨rfl, hb10⟩; have Q10 := Q9.below hb10; obtain ⟨v0, v1, v2, v3⟩ := flt_cells Q10.f1) | (go_at_call 7; (with_reducible refine Calls.mono (FA w10 ed c p Q10.bel Q10.hd) ?_); rintro e w11 ⟨rfl, hb11⟩; have Q11 := Q10.below hb11) | (go_at_call 8; (with_reducible refine Calls.mono (S1 w11 Q11) ?_); rintro e w12 ⟨rfl, hb12⟩; have Q12 := Q11.below hb12) | (go_at_call 8; (with_reducible refine Calls.mono (S2 w12 Q12) ?_); rintro e w13 ⟨rfl, hb13⟩; have Q13 := Q12.below hb13) | (go_at_call 8; (with_reducible refine Calls.mono (S3 w13 Q13) ?_); rintro e w14 ⟨rfl, hb14⟩; have Q14 := Q13.below hb14) | (go_at_call 8; (with_reducible refine Calls.mono (S4 w14 Q14) ?_); rintro e w15 ⟨rfl, hb15⟩; have Q15 := Q14.below hb15))
  have OW : Calls Tryz.prog 9 #[.slice (some ⟨w15.heap.size, 0, none⟩) 4 4] (w15.alloc (.cells #[.slice xa ts.length ya, .slice xb ts.length yb, .slice xc ts'.length yc, .slice xd ts.length yd] 23)) fun e w' => e = .returned (.bool true) ∧ Below w.heap.size (w15.alloc (.cells #[.slice xa ts.length ya, .slice xb ts.length yb, .slice xc ts'.length yc, .slice xd ts.length yd] 23)) w' := by
    have hz := Q15.bel.size
    have hal : Below w15.heap.size w15 (w15.alloc (.cells #[.slice xa ts.length ya, .slice xb ts.length yb, .slice xc ts'.length yc, .slice xd ts.length yd] 23)) := (Below.refl _ _).alloc (Nat.le_refl _) _
    refine owned_any _ w15.heap.size w.heap.size (pick4 (.slice xa ts.length ya) (.slice xb ts.length yb) (.slice xc ts'.length yc) (.slice xd ts.length yd)) (pick4 ts.length ts.length ts'.length ts.length) (by simp; omega) (by simp) (fun i hi => ?_) (fun i hi => ?_) (fun i hi => ?_) HD.out (fun i hi e => ?_)
    · rw [World.cell?_alloc_mark]
      rcases (by omega : i = 0 ∨ i = 1 ∨ i = 2 ∨ i = 3) with rfl | rfl | rfl | rfl <;> rfl
    · rcases (by omega : i = 0 ∨ i = 1 ∨ i = 2 ∨ i = 3) with rfl | rfl | rfl | rfl
      · exact ⟨_, own_stay Q15.oa hal⟩
      · exact ⟨_, own_stay Q15.ob hal⟩
      · exact ⟨_, own_stay Q15.oc hal⟩
      · exact ⟨_, own_stay Q15.od hal⟩
    · rcases (by omega : i = 0 ∨ i = 1 ∨ i = 2 ∨ i = 3) with rfl | rfl | rfl | rfl
      · exact hts
      · exact hts
      · exact hts'
      · exact hts
    · rcases (by omega : i = 0 ∨ i = 1 ∨ i = 2 ∨ i = 3) with rfl | rfl | rfl | rfl
      · exact Nat.lt_irrefl _ (Q15.oa.lt _ e).2
      · exact Nat.lt_irrefl _ (Q15.ob.lt _ e).2
      · exact Nat.lt_irrefl _ (Q15.oc.lt _ e).2
      · exact Nat.lt_irrefl _ (Q15.od.lt _ e).2
  have BB := Q15.bel.alloc Q15.bel.size (.cells #[.slice xa ts.length ya, .slice xb ts.length yb, .slice xc ts'.length yc, .slice xd ts.length yd] 23)
  clear Q7 Q8 Q9 Q10 Q11 Q12 Q13 Q14 Q15 HD S1 S2 S3 S4 FA q0 q1 q2 q3 r0 r1 r2 r3 u0 u1 u2 u3 v0 v1 v2 v3 hb8 hb9 hb10 hb11 hb12 hb13 hb14 hb15
  go_wp2_with (first | (go_at_call 9; (with_reducible refine Calls.mono OW ?_); rintro e w16 ⟨rfl, hb16⟩))
  go_ret
  exact ⟨rfl, BB.trans hb16⟩
end Go.Proofs.YtkfhdmkdkphmoaaGreatDoor
