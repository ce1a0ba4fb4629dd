/- The program's reader: the contract of part. Read answers as the document says, and what it answers is its owner's. -/
import Derived.Test.YtikpipenhamdbaaMix
namespace Go.Proofs.Ytikpipenhamdbaa
open Go.RowKit

theorem word_form (n : List UInt8) (hn : n.length < 140737488355328) : (wordT n).2.length < 140737488355328 := by
  unfold wordT
  split
  · simp
  · split <;> exact hn
/-- The answer is the word. -/
theorem part_leaf {w w' : World} {q : Nat} {l : List UInt8} {m : Nat} (hb : begB [40] l = false) (h6 : l.length ≤ 65536) (h : RdS w w' q (l.drop (wordL l).length)) : PartPost w q l (m + 1) (.returned (.agg #[.int .i64 (wordT (wordL l)).1, strV (wordT (wordL l)).2, .slice none 0 0])) w' := by
  refine ⟨_, _, none, 0, 0, (wordT (wordL l), []), [], l.drop (wordL l).length, rfl, h, PartOk.leaf hb, ?_, by simp, ?_, ⟨fun p hp => by simp at hp, by simp⟩⟩
  · rw [show (flat (m + 1) (wordT (wordL l), [])).length = 1 from rfl, List.length_drop]
    omega
  · refine ⟨.slice none 0 0, rfl, word_form _ ?_, by simp, .inl ⟨rfl, ⟨none, 0, rfl⟩, rfl⟩⟩
    obtain ⟨r, h1, _⟩ := word_split l
    have := congrArg List.length h1
    rw [List.length_append] at this
    omega
/-- The answer is nothing. -/
theorem part_zero {w w' : World} {q : Nat} {l l' : List UInt8} {m : Nat} (h : RdS w w' q l') (hl : l'.length ≤ l.length) (hp : PartOk l (m + 1) ((0, []), []) l') : PartPost w q l (m + 1) (.returned (.agg #[.int .i64 0, .string ⟨#[]⟩, .slice none 0 0])) w' := by
  refine ⟨0, ⟨#[]⟩, none, 0, 0, ((0, []), []), [], l', rfl, h, hp, ?_, hl, ⟨.slice none 0 0, rfl, by simp, by simp, .inl ⟨rfl, ⟨none, 0, rfl⟩, rfl⟩⟩, ⟨fun p hp => by simp at hp, by simp⟩⟩
  rw [show (flat (m + 1) ((0, []), [])).length = 1 from rfl]
  omega
/-- The reader and the boxes: from w the reader's world U, in which z is the answer's box. -/
structure PtW (w U : World) (q z : Nat) (c : List UInt8) : Prop where
  rd : RdS w U q c
  qlt : q < w.heap.size
  zle : w.heap.size ≤ z
  box : U.heap[z]? = some (.cells #[.int .i64 0, .string ⟨#[]⟩, .slice none 0 0] 31 (0, 0))
theorem PtW.step {w U U' : World} {q z : Nat} {c c' : List UInt8} (h : PtW w U q z c) (h1 : RdS U U' q c') : PtW w U' q z c' :=
  ⟨h.rd.trans h1, h.qlt, h.zle, (h1.grow.block z (lt_of_heap h.box) (by intro e; have := Option.some.inj e; have := h.qlt; have := h.zle; omega)).trans h.box⟩
theorem RdS.undrew {w w' : World} {q : Nat} {l : List UInt8} (h : RdS w.drew w' q l) : RdS w w' q l := ⟨⟨h.grow.os, h.grow.tape, h.grow.output, h.grow.size, h.grow.block⟩, h.at'⟩
theorem rd_alloc {w : World} {q : Nat} {c : List UInt8} (h : RdAt w q c) (o : Obj) : RdS w (w.alloc o) q c := by
  have hb := (Below.refl w.heap.size w).alloc (Nat.le_refl _) o
  exact ⟨⟨hb.os, hb.tape, hb.output, hb.size, fun k hk _ => hb.block k hk⟩, (hb.block q (lt_of_heap h)).trans h⟩
/-- The answer, put into its box. -/
theorem PtW.put {w U : World} {q z : Nat} {c : List UInt8} (h : PtW w U q z c) (a b d : Value) : ∃ W, W = ((U.setCell ⟨z, 0, none⟩ a).setCell ⟨z, 1, none⟩ b).setCell ⟨z, 2, none⟩ d ∧ W.heap[z]? = some (.cells #[a, b, d] 31 (0, 0)) ∧ RdS w W q c ∧ (∀ g, g ≠ z → W.heap[g]? = U.heap[g]?) ∧ W.heap.size = U.heap.size := by
  obtain ⟨W, hW, k1, k2, k3, k4⟩ := store3 h.box a b d
  have h1 := h.qlt
  have h2 := h.zle
  refine ⟨W, hW, k1, ⟨⟨k4.os.trans h.rd.grow.os, k4.tape.trans h.rd.grow.tape, k4.output.trans h.rd.grow.output, by rw [k3]; exact h.rd.grow.size, fun g hg hne => ?_⟩, ?_⟩, k2, k3⟩
  · rw [k2 g (by omega)]
    exact h.rd.grow.block g hg hne
  · show W.heap[q]? = _
    rw [k2 q (by omega)]
    exact h.rd.at'
/-- A box beside the answer's is written. -/
theorem PtW.beside {w U V : World} {q z y : Nat} {c : List UInt8} (h : PtW w U q z c) (hzy : z < y) (hs : U.heap.size ≤ V.heap.size) (ho : V.os = U.os ∧ V.tape = U.tape ∧ V.output = U.output) (hb : ∀ g, g ≠ y → g < U.heap.size → V.heap[g]? = U.heap[g]?) : PtW w V q z c := by
  have hq := h.qlt
  have hz := h.zle
  refine ⟨⟨⟨ho.1.trans h.rd.grow.os, ho.2.1.trans h.rd.grow.tape, ho.2.2.trans h.rd.grow.output, Nat.le_trans h.rd.grow.size hs, fun g hg hne => ?_⟩, ?_⟩, hq, hz, ?_⟩
  · rw [hb g (by omega) (Nat.lt_of_lt_of_le hg h.rd.grow.size)]
    exact h.rd.grow.block g hg hne
  · show V.heap[q]? = _
    rw [hb q (by omega) (lt_of_heap h.rd.at')]
    exact h.rd.at'
  · rw [hb z (by omega) (lt_of_heap h.box)]
    exact h.box
/-- A function's row, and the box that leads to it. -/
theorem fun_row {w w4 : World} {q z y lo1 lo2 m : Nat} {r2 : List UInt8} {a b c : Value} (P4 : PtW w w4 q z r2) (hzy : z < y) (hy4 : w4.heap[y]? = some (.cells #[a, b, c] 31 (0, 0))) (e1 e2 : El) {t1 t2 : Tn m} {rws1 rws2 : List (Value × Nat)} (h1 : TyO w4 lo1 m (elV e1) t1 rws1) (s1 : SepB lo1 y rws1) (h2 : TyO w4 lo2 m (elV e2) t2 rws2) (s2 : SepB lo2 w4.heap.size rws2) (hl1 : z + 1 ≤ lo1) (hl1y : lo1 ≤ y) (hl2 : y < lo2) :
    ∃ V, V = (((w4.setCell ⟨y, 0, none⟩ (.int .i64 3)).setCell ⟨y, 1, none⟩ (.string ⟨#[]⟩)).setCell ⟨y, 2, none⟩ (.slice (some ⟨w4.heap.size, 0, none⟩) 2 2)).alloc (Obj.cells #[.int .i64 e1.1, .string e1.2.1, e1.2.2, .int .i64 e2.1, .string e2.2.1, e2.2.2] 31) ∧ PtW w V q z r2 ∧ V.heap[y]? = some (.cells #[.int .i64 3, .string ⟨#[]⟩, .slice (some ⟨w4.heap.size, 0, none⟩) 2 2] 31 (0, 0)) ∧ RowO V (z + 1) m (.slice (some ⟨w4.heap.size, 0, none⟩) 2 2) [e1, e2] [t1, t2] [rws1, rws2] := by
  obtain ⟨V0, hV0, k1, k2, k3, k4⟩ := store3 hy4 (.int .i64 3) (.string ⟨#[]⟩) (.slice (some ⟨w4.heap.size, 0, none⟩) 2 2)
  have hyl := lt_of_heap hy4
  generalize hO : Obj.cells #[.int .i64 e1.1, .string e1.2.1, e1.2.2, .int .i64 e2.1, .string e2.2.1, e2.2.2] 31 = O
  rw [← hV0]
  have hb := (Below.refl V0.heap.size V0).alloc (Nat.le_refl _) O
  have kb : ∀ g, g ≠ y → g < w4.heap.size → (V0.alloc O).heap[g]? = w4.heap[g]? := fun g hg hlt => by
    rw [hb.block g (by omega), k2 g hg]
  have hsV : (V0.alloc O).heap.size = w4.heap.size + 1 := by simp [k3]
  refine ⟨_, rfl, P4.beside hzy (by omega) ⟨hb.os.trans k4.os, hb.tape.trans k4.tape, hb.output.trans k4.output⟩ kb, ?_, ?_⟩
  · rw [hb.block y (by omega)]
    exact k1
  · have kp1 : ∀ p ∈ rws1, ∀ g, p.1.ownBlock = some g → (V0.alloc O).heap[g]? = w4.heap[g]? := fun p hp g hg => by
      obtain ⟨g', e, q1, q2⟩ := s1.1 p hp
      rw [hg] at e
      have := Option.some.inj e
      exact kb g (by omega) (by omega)
    have kp2 : ∀ p ∈ rws2, ∀ g, p.1.ownBlock = some g → (V0.alloc O).heap[g]? = w4.heap[g]? := fun p hp g hg => by
      obtain ⟨g', e, q1, q2⟩ := s2.1 p hp
      rw [hg] at e
      have := Option.some.inj e
      exact kb g (by omega) (by omega)
    have sep : SepB lo1 w4.heap.size (rws1 ++ rws2) := s1.append s2 (by omega) (by omega) (by omega)
    have hfl : [rws1, rws2].flatten = rws1 ++ rws2 := by simp
    refine ⟨?_, rfl, rfl, fun j a b c => ?_, ?_, ?_⟩
    · have := World.ownsRow_lit (base := z + 1) (e := 31) (size := 3) V0 #[.int .i64 e1.1, .string e1.2.1, e1.2.2, .int .i64 e2.1, .string e2.2.1, e2.2.2] 2 (by omega) (by decide) rfl
      rw [hO, k3] at this
      exact this
    · match j with
      | 0 => exact TyO.mono hl1 _ _ _ _ (TyO.on _ _ _ _ kp1 h1)
      | 1 => exact TyO.mono (by omega) _ _ _ _ (TyO.on _ _ _ _ kp2 h2)
    · rw [hfl]
      exact ⟨fun p hp => by
        obtain ⟨g, e, q1, q2⟩ := sep.1 p hp
        exact ⟨g, e, by omega, by omega⟩, sep.2⟩
    · rw [hfl]
      intro p hp e0
      obtain ⟨g, e, q1, q2⟩ := sep.1 p hp
      rw [e] at e0
      have := Option.some.inj e0
      simp at this
      omega
theorem RowO.mono {w : World} {lo lo' d : Nat} {v : Value} {es : List El} {ts : List (Tn d)} {rss : List (List (Value × Nat))} (h : RowO w lo' d v es ts rss) (hl : lo ≤ lo') : RowO w lo d v es ts rss :=
  ⟨h.own.mono hl, h.len, h.rlen, fun j a b c => TyO.mono hl _ _ _ _ (h.each j a b c), ⟨fun p hp => by
    obtain ⟨g, e, q1, q2⟩ := h.sep.1 p hp
    exact ⟨g, e, by omega, q2⟩, h.sep.2⟩, h.away⟩
/-- The third cell of a box. -/
theorem store_last {U : World} {z : Nat} {x y u : Value} {t : TypeId} (h : U.heap[z]? = some (.cells #[x, y, u] t (0, 0))) (c : Value) : ∃ W, W = U.setCell ⟨z, 2, none⟩ c ∧ W.heap[z]? = some (.cells #[x, y, c] t (0, 0)) ∧ (∀ g, g ≠ z → W.heap[g]? = U.heap[g]?) ∧ W.heap.size = U.heap.size ∧ Below z U W := by
  refine ⟨_, rfl, (setCell_block h).trans rfl, fun g hg => Below.heap_setCell _ _ _ _ hg, by simp [World.setCell], (Below.refl z U).setCell (Nat.le_refl _) c⟩
/-- Ahead of the closing bracket: the box y leads to a row, and what it would be. -/
def TailW (w wc : World) (q z y : Nat) (l1 : List UInt8) (m : Nat) : Prop :=
  ∃ (k : Int) (n : List UInt8) (ad : Option Addr) (cap : Nat) (es : List El) (ts : List (Tn m)) (rss : List (List (Value × Nat))) (c : List UInt8), PtW w wc q z c ∧ wc.heap[y]? = some (.cells #[.int .i64 k, .string ⟨n.toArray⟩, .slice ad ts.length cap] 31 (0, 0)) ∧ RowO wc (z + 1) m (.slice ad ts.length cap) es ts rss ∧ n.length < 140737488355328 ∧ c.length + (flats m ts).length ≤ l1.length + 2 ∧ c.length ≤ l1.length + 1 ∧
    (ts ≠ [] → ∀ r, c = 41 :: r → PartOk (40 :: l1) (m + 1) ((k, n), ts) r) ∧ ((ts = [] ∨ begB [41] c = false) → PartOk (40 :: l1) (m + 1) ((0, []), []) c)
/-- The answer is a tree whose arguments are such a row. -/
theorem part_tree {w W : World} {q : Nat} {l l' : List UInt8} {m : Nat} {k : Int} {n : List UInt8} {ad : Option Addr} {cap : Nat} {es : List El} {ts : List (Tn m)} {rss : List (List (Value × Nat))} (hr : RdS w W q l') (hR : RowO W (w.heap.size + 1) m (.slice ad ts.length cap) es ts rss) (h0 : ts ≠ []) (hn : n.length < 140737488355328) (hp : PartOk l (m + 1) ((k, n), ts) l') (hnum : l'.length + (flats m ts).length ≤ l.length) (hl6 : l.length ≤ 65536) :
    PartPost w q l (m + 1) (.returned (.agg #[.int .i64 k, .string ⟨n.toArray⟩, .slice ad ts.length cap])) W := by
  have hfp := flats_pos m ts
  obtain ⟨h1, h2⟩ := hR.tree h0 k n hn (by omega)
  refine ⟨k, ⟨n.toArray⟩, ad, ts.length, cap, ((k, n), ts), _, l', rfl, hr, hp, ?_, by omega, TyO.mono (by omega) _ _ _ _ h1, ⟨fun p hp => ?_, h2.2⟩⟩
  · rw [flat_succ, List.length_cons]
    omega
  · obtain ⟨g, e, q1, q2⟩ := h2.1 p hp
    exact ⟨g, e, by omega, q2⟩
set_option maxHeartbeats 16000000 in
set_option maxRecDepth 10000 in
theorem part_step (hF : Finds) (m : Nat) (IH : m = 0 ∨ Parts m) : Parts (m + 1) := by
  intro l q w h hlm h6
  obtain ⟨W0, hW0, hbW0, hsW0, _, _, _⟩ := cells_box w (.int .i64 0) (.string ⟨#[]⟩) (.slice none 0 0) 31
  have hq := lt_of_heap h
  have P0 : PtW w W0 q w.heap.size l := ⟨by rw [hW0]; exact rd_alloc h _, hq, Nat.le_refl _, by rw [hW0]; exact heap_alloc_new w _⟩
  have HP0 : Hid (PtW w W0 q w.heap.size l) := P0
  have C1 := skip_any l [40] q W0 P0.rd.at'
  clear hbW0 hsW0 h hq P0
  cases hb : begB [40] l with
  | false =>
    rw [hb] at C1
    have C1 : Calls Try.prog 43 #[.pointer (some ⟨q, 0, none⟩), .string ⟨#[40]⟩] W0 fun e w' => e = .returned (.bool false) ∧ w'.heap.size = W0.heap.size ∧ RdS W0 w' q l := C1
    have C2 := fun W (hr : RdAt W q l) => leaf_any hF l q W hr h6
    have HL : Hid (∀ w', RdS w w' q (l.drop (wordL l).length) → PartPost w q l (m + 1) (.returned (.agg #[.int .i64 (wordT (wordL l)).1, strV (wordT (wordL l)).2, .slice none 0 0])) w') := fun w' h => part_leaf hb h6 h
    generalize wordT (wordL l) = wt at C2 HL
    generalize l.drop (wordL l).length = l' at C2 HL
    clear IH hlm hF
    go_enter Try.func27, Try.ntmps27
    go_upto_region 1 with fail
    rw [← hW0]
    clear hW0
    go_upto_region 2 with (first
      | (go_at_call 43; (with_reducible refine Calls.mono C1 ?_); rintro e' w1 ⟨rfl, hs1, hr1⟩))
    have P1 := HP0.out.step hr1
    have C3 := C2 w1 P1.rd.at'
    clear C1 C2
    go_wp2_with (first
      | (go_at_call 44; (with_reducible refine Calls.mono C3 ?_); rintro e' w2 ⟨rfl, hr2⟩; have P2 := P1.step hr2; obtain ⟨x0, x1, x2⟩ := heap_cells P2.box; have g0 := heap_frozen (o := 0) P2.box; have g1 := heap_frozen (o := 1) P2.box; have g2 := heap_frozen (o := 2) P2.box))
    obtain ⟨W, hWe, k1, k2, _, _⟩ := P2.put (.int .i64 wt.1) (strV wt.2) (.slice none 0 0)
    rw [← hWe]
    obtain ⟨s0, s1, s2⟩ := heap_cells k1
    refine bodyPost_ret (v := .agg #[.int .i64 wt.1, strV wt.2, .slice none 0 0]) (by simp [results, Try.results27, go_sem, s0, s1, s2]) rfl ?_
    exact HL.out W k2
  | true =>
    obtain ⟨l1, rfl⟩ := beg_one hb
    rw [List.length_cons] at hlm h6
    obtain ⟨m, rfl⟩ : ∃ k, m = k + 1 := ⟨m - 1, by omega⟩
    have IH : Parts (m + 1) := IH.resolve_left (by omega)
    rw [hb] at C1
    have C1 : Calls Try.prog 43 #[.pointer (some ⟨q, 0, none⟩), .string ⟨#[40]⟩] W0 fun e w' => e = .returned (.bool true) ∧ w'.heap.size = W0.heap.size ∧ RdS W0 w' q l1 := C1
    have C2 := fun W (hr : RdAt W q l1) => IH l1 q W hr (by omega) (by omega)
    have HIH : Hid (Parts (m + 1)) := IH
    clear IH hF
    go_enter Try.func27, Try.ntmps27
    go_upto_region 1 with fail
    rw [← hW0]
    clear hW0
    go_upto_region 3 with (first
      | (go_at_call 43; (with_reducible refine Calls.mono C1 ?_); rintro e' w1 ⟨rfl, hs1, hr1⟩))
    have P1 := HP0.out.step hr1
    have C3 := C2 w1 P1.rd.at'
    clear C1 C2 HP0
    go_upto_block 0 with (first
      | (go_at_call 27; (with_reducible refine Calls.mono C3 ?_); intro e' w2 hp; obtain ⟨k1, n1, ad1, len1, cap1, t1, rws1, r1, rfl, hr2, hok1, hnum1, hle1, hT1, hS1⟩ := hp))
    have P2 := P1.step hr2
    obtain ⟨U, hU, hbU, hsU, u0, u1, u2⟩ := cells_box w2 (.int .i64 k1) (.string n1) (.slice ad1 len1 cap1) 31
    have PU : PtW w U q w.heap.size r1 := P2.step (by rw [hU]; exact rd_alloc P2.rd.at' _)
    have hby : U.heap[w2.heap.size]? = some (.cells #[.int .i64 k1, .string n1, .slice ad1 len1 cap1] 31 (0, 0)) := by rw [hU]; exact heap_alloc_new w2 _
    have HT1 : Hid (TyO U w1.heap.size (m + 1) (.agg #[.int .i64 k1, .string n1, .slice ad1 len1 cap1]) t1 rws1 ∧ SepB w1.heap.size w2.heap.size rws1 ∧ w.heap.size < w1.heap.size ∧ w1.heap.size ≤ w2.heap.size ∧ U.heap.size = w2.heap.size + 1) := ⟨TyO.on _ _ _ _ (fun p hp g hg => hbU.block g (hS1.lt (Nat.le_refl _) p hp g hg)) hT1, hS1, lt_of_heap P1.box, hr2.grow.size, hsU⟩
    have HPU : Hid (PtW w U q w.heap.size r1) := PU
    have HY : Hid (∀ V c, RdS U V q c → V.heap[w2.heap.size]? = some (.cells #[.int .i64 k1, .string n1, .slice ad1 len1 cap1] 31 (0, 0)) ∧ PtW w V q w.heap.size c) := fun V c h => ⟨(h.grow.block _ (lt_of_heap hby) (by intro e; have := Option.some.inj e; have := PU.qlt; have := P2.rd.grow.size; omega)).trans hby, PU.step h⟩
    have C4 := skip_any r1 [32, 45, 62, 32] q U PU.rd.at'
    have hzy : w.heap.size < w2.heap.size := by have := HT1.out.2.2.1; have := HT1.out.2.2.2.1; omega
    have hyU : w2.heap.size < U.heap.size := by omega
    have hqz : q < w.heap.size := P1.qlt
    rw [← hU]
    generalize hyn : w2.heap.size = y at *
    clear hU hbU hsU hr1 hr2 P2 PU P1 C3 hs1 hT1 hS1 hby
    go_cut [] from 11 (fun wc => TailW w wc q w.heap.size y l1 (m + 1))
    case first =>
      cases hba : begB [32, 45, 62, 32] r1 with
      | true =>
        obtain ⟨l2, rfl⟩ := beg_arrow hba
        rw [hba] at C4
        have C4 : Calls Try.prog 43 #[.pointer (some ⟨q, 0, none⟩), .string ⟨#[32, 45, 62, 32]⟩] U fun e w' => e = .returned (.bool true) ∧ w'.heap.size = U.heap.size ∧ RdS U w' q l2 := C4
        have hl2 : l2.length + 4 ≤ l1.length := by rw [List.length_append] at hle1; simp at hle1; omega
        have C5 := fun W (hr : RdAt W q l2) => HIH.out l2 q W hr (by omega) (by omega)
        clear u0 u1 u2 HIH
        go_upto_region 6 with (first
          | (go_at_call 43; (with_reducible refine Calls.mono C4 ?_); rintro e' w3 ⟨rfl, hs3, hr3⟩))
        obtain ⟨hy3, P3⟩ := HY.out _ _ hr3
        have C7 : Calls Try.prog 27 #[.pointer (some ⟨q, 0, none⟩)] w3.drew (PartPost w3 q l2 (m + 1)) := Calls.mono (C5 w3.drew P3.rd.at') fun e w' hp => by
          obtain ⟨k, n, ad, len, cap, t, rws, r, h0, hr, hrest⟩ := hp
          exact ⟨k, n, ad, len, cap, t, rws, r, h0, hr.undrew, hrest⟩
        obtain ⟨v0, v1, v2⟩ := heap_cells hy3
        clear C4 C5
        have FR : Hid (∀ w4 k2 n2 ad2 len2 cap2 (t2 : Tn (m + 1)) rws2 r2, RdS w3 w4 q r2 → TyO w4 w3.heap.size (m + 1) (.agg #[.int .i64 k2, .string n2, .slice ad2 len2 cap2]) t2 rws2 → SepB w3.heap.size w4.heap.size rws2 → ∃ V, V = (((w4.setCell ⟨y, 0, none⟩ (.int .i64 3)).setCell ⟨y, 1, none⟩ (.string ⟨#[]⟩)).setCell ⟨y, 2, none⟩ (.slice (some ⟨w4.heap.size, 0, none⟩) 2 2)).alloc (Obj.cells #[.int .i64 k1, .string n1, .slice ad1 len1 cap1, .int .i64 k2, .string n2, .slice ad2 len2 cap2] 31) ∧ PtW w V q w.heap.size r2 ∧ V.heap[y]? = some (.cells #[.int .i64 3, .string ⟨#[]⟩, .slice (some ⟨w4.heap.size, 0, none⟩) 2 2] 31 (0, 0)) ∧ RowO V (w.heap.size + 1) (m + 1) (.slice (some ⟨w4.heap.size, 0, none⟩) 2 2) [(k1, n1, .slice ad1 len1 cap1), (k2, n2, .slice ad2 len2 cap2)] [t1, t2] [rws1, rws2]) := fun w4 k2 n2 ad2 len2 cap2 t2 rws2 r2 h4 hT2 hS2 => by
          obtain ⟨k1, k2', k3, k4, k5⟩ := HT1.out
          obtain ⟨hy4, P4⟩ := HY.out _ _ (hr3.trans h4)
          have hUw := (hr3.trans h4).grow
          refine fun_row (lo1 := w1.heap.size) (lo2 := w3.heap.size) P4 hzy hy4 (_, _, _) (_, _, _) (TyO.on _ _ _ _ (fun p hp g hg => hUw.block g ?_ ?_) k1) k2' hT2 hS2 (by omega) k4 (by omega)
          · have := k2'.lt (Nat.le_refl _) p hp g hg
            omega
          · intro e
            have e := Option.some.inj e
            obtain ⟨g', e1, e2, _⟩ := k2'.1 p hp
            rw [hg] at e1
            have := Option.some.inj e1
            omega
        go_region_with (first | (go_at_call 27; (with_reducible refine Calls.mono C7 ?_); intro e' w4 hp; obtain ⟨k2, n2, ad2, len2, cap2, t2, rws2, r2, rfl, hr4, hok2, hnum2, hle2, hT2, hS2⟩ := hp; obtain ⟨hy4, P4⟩ := HY.out _ _ (hr3.trans hr4); obtain ⟨x0, x1, x2⟩ := heap_cells hy4; have g0 := heap_frozen (o := 0) hy4; have g1 := heap_frozen (o := 1) hy4; have g2 := heap_frozen (o := 2) hy4; have hyw := lt_of_heap hy4; have hne : ¬ y = w4.heap.size := Nat.ne_of_lt hyw; have hne' : ¬ w4.heap.size = y := Ne.symm hne))
        all_goals
          obtain ⟨V, hV, PV, hyV, hRow⟩ := FR.out w4 k2 n2 ad2 len2 cap2 t2 rws2 r2 hr4 hT2 hS2
          rw [← hV]
          have HM : Hid (TailW w V q w.heap.size y l1 (m + 1)) := by
            refine ⟨3, [], _, 2, _, [t1, t2], _, r2, PV, hyV, hRow, by simp, ?_, by omega, ?_, ?_⟩
            · rw [flats_cons, flats_cons, flats_nil, List.length_append, List.length_append, List.length_nil]
              rw [List.length_append] at hnum1
              simp only [List.length_cons, List.length_nil] at hnum1
              omega
            · intro _ r hr
              rw [hr] at hok2
              exact PartOk.func hok1 hok2
            · rintro (h | h)
              · cases h
              · exact PartOk.func_no hok1 hok2 h
          clear hV PV hyV hRow FR
          go_wp2
          go_meet
          exact HM.out
      | false =>
        rw [hba] at C4
        have C4 : Calls Try.prog 43 #[.pointer (some ⟨q, 0, none⟩), .string ⟨#[32, 45, 62, 32]⟩] U fun e w' => e = .returned (.bool false) ∧ w'.heap.size = U.heap.size ∧ RdS U w' q r1 := C4
        obtain ⟨⟨⟨kk, nn⟩, ts1⟩, hte⟩ : ∃ t : Tn (m + 1), t = t1 := ⟨t1, rfl⟩
        subst hte
        obtain ⟨⟨v1, hx1, hx2, hx3, hx4⟩, hS1, _, _, hsU⟩ := HT1.out
        have hx5 : k1 = kk ∧ n1 = ⟨nn.toArray⟩ ∧ len1 = ts1.length := by
          simp only [Value.agg.injEq, Array.mk.injEq, List.cons.injEq, and_true, Value.int.injEq, Value.string.injEq, true_and] at hx1
          obtain ⟨a, b, c⟩ := hx1
          refine ⟨a, b, ?_⟩
          rcases hx4 with ⟨q1, ⟨_, _, q2⟩, _⟩ | ⟨q1, es, rss, q2, q3, q4, _⟩
          · have q1 : ts1 = [] := q1
            rw [q2] at c
            cases c
            rw [q1]
            rfl
          · rcases q4.2 with ⟨q5, q6⟩ | ⟨g, cp, _, q5, _⟩
            · exact absurd (List.length_eq_zero_iff.1 q6) q1
            · rw [q5] at c
              cases c
              rfl
        obtain ⟨rfl, rfl, rfl⟩ := hx5
        have hnn : nn.length < 140737488355328 := hx2
        clear hx1 hx4
        by_cases hk : k1 = 4 ∧ ts1 = []
        · obtain ⟨rfl, rfl⟩ := hk
          have C5 := fun W (hr : RdAt W q r1) => args_any (m + 1) HIH.out r1 q W hr (by omega) (by omega)
          clear u0 u1 u2 HIH
          go_upto_region 7 with (first
            | (go_at_call 43; (with_reducible refine Calls.mono C4 ?_); rintro e' w3 ⟨rfl, hs3, hr3⟩))
          obtain ⟨hy3, P3⟩ := HY.out _ _ hr3
          have C6 := C5 w3 P3.rd.at'
          obtain ⟨v0, v1, v2⟩ := heap_cells hy3
          clear C4 C5
          go_upto_region 8 with fail
          have FR : Hid (∀ w4 ad2 cap2 es ts rss c, RdS w3 w4 q c → ArgsOk r1 (m + 1) ts c → begB [32] c = false → c.length + (flats (m + 1) ts).length ≤ r1.length → RowO w4 w3.heap.size (m + 1) (.slice ad2 ts.length cap2) es ts rss → ∃ V, V = w4.setCell ⟨y, 2, none⟩ (.slice ad2 ts.length cap2) ∧ TailW w V q w.heap.size y l1 (m + 1)) := fun w4 ad2 cap2 es ts rss c h4 hok2 hs2 hn2 hR => by
            obtain ⟨hy4, P4⟩ := HY.out _ _ (hr3.trans h4)
            obtain ⟨V, hV, k1, k2, k3, k4⟩ := store_last hy4 (.slice ad2 ts.length cap2)
            refine ⟨V, hV, 4, nn, ad2, cap2, es, ts, rss, c, P4.beside hzy (by omega) ⟨k4.os, k4.tape, k4.output⟩ (fun g hg _ => k2 g hg), k1, (hR.on (by omega) fun g hg hlt => k2 g (by omega)).mono (by omega), hnn, by omega, by omega, ?_, ?_⟩
            · intro h0 r hr
              rw [hr] at hok2
              exact PartOk.data hok1 hba hok2 h0
            · intro h0
              exact PartOk.data_no hok1 hba hok2 hs2 h0
          go_wp2_with (first
            | (go_at_call 45; (with_reducible refine Calls.mono C6 ?_); intro e' w4 hp; obtain ⟨ad2, cap2, es2, ts2, rss2, c2, rfl, hr4, hok2, hsp2, hnum2, hRow2⟩ := hp; obtain ⟨hy4, P4⟩ := HY.out _ _ (hr3.trans hr4); obtain ⟨x0, x1, x2⟩ := heap_cells hy4; have g2 := heap_frozen (o := 2) hy4))
          obtain ⟨V, hV, HM⟩ := FR.out w4 ad2 cap2 es2 ts2 rss2 c2 hr4 hok2 hsp2 hnum2 hRow2
          rw [← hV]
          go_meet
          exact HM
        · have HZ : Hid (∀ W, RdS w W q r1 → PartPost w q (40 :: l1) (m + 1 + 1) (.returned (.agg #[.int .i64 0, .string ⟨#[]⟩, .slice none 0 0])) W) := fun W hr => part_zero hr (by simp; omega) (PartOk.none hok1 hba hk)
          have hkd : (if k1 = 4 then decide ((ts1.length : Int) = 0) else false) = false := by
            by_cases h4 : k1 = 4
            · rw [if_pos h4]
              have : ts1 ≠ [] := fun h => hk ⟨h4, h⟩
              have := List.length_pos_iff.2 this
              simp
              omega
            · rw [if_neg h4]
          clear u0 u1 u2 HIH
          go_upto_region 7 with (first
            | (go_at_call 43; (with_reducible refine Calls.mono C4 ?_); rintro e' w3 ⟨rfl, hs3, hr3⟩))
          obtain ⟨hy3, P3⟩ := HY.out _ _ hr3
          obtain ⟨v0, v1, v2⟩ := heap_cells hy3
          obtain ⟨x0, x1, x2⟩ := heap_cells P3.box
          have g0 := heap_frozen (o := 0) P3.box
          have g1 := heap_frozen (o := 1) P3.box
          have g2 := heap_frozen (o := 2) P3.box
          obtain ⟨W, hWe, k1', k2', _, _⟩ := P3.put (.int .i64 0) (.string ⟨#[]⟩) (.slice none 0 0)
          have HW : Hid (W.heap[w.heap.size]? = some (.cells #[.int .i64 0, .string ⟨#[]⟩, .slice none 0 0] 31 (0, 0)) ∧ RdS w W q r1) := ⟨k1', k2'⟩
          clear C4
          by_cases h4 : k1 = 4
          · subst h4
            have h5 : ts1 ≠ [] := fun h => hk ⟨rfl, h⟩
            have h6' : ¬ (ts1.length : Int) = 0 := by have := List.length_pos_iff.2 h5; omega
            go_wp2
            rw [← hWe]
            obtain ⟨s0, s1, s2⟩ := heap_cells HW.out.1
            refine bodyPost_ret (v := .agg #[.int .i64 0, .string ⟨#[]⟩, .slice none 0 0]) (by simp [results, Try.results27, go_sem, s0, s1, s2]) rfl ?_
            exact HZ.out W HW.out.2
          · have h5 : (k1 == 4) = false := by simpa using h4
            go_wp2
            rw [← hWe]
            obtain ⟨s0, s1, s2⟩ := heap_cells HW.out.1
            refine bodyPost_ret (v := .agg #[.int .i64 0, .string ⟨#[]⟩, .slice none 0 0]) (by simp [results, Try.results27, go_sem, s0, s1, s2]) rfl ?_
            exact HZ.out W HW.out.2
    case rest =>
      clear HT1 HPU HY C4 HIH u0 u1 u2 hok1 hnum1 hle1
      obtain ⟨k, n, ad, cap, es, ts, rss, c, P, hy, hR, hn, hnum, hcl, hyes, hno⟩ := hcut
      obtain ⟨v0, v1, v2⟩ := heap_cells hy
      by_cases hts : ts = []
      · subst hts
        have HZ : Hid (∀ W, RdS w W q c → PartPost w q (40 :: l1) (m + 1 + 1) (.returned (.agg #[.int .i64 0, .string ⟨#[]⟩, .slice none 0 0])) W) := fun W hr => part_zero hr (by simp; omega) (hno (.inl rfl))
        obtain ⟨x0, x1, x2⟩ := heap_cells P.box
        have g0 := heap_frozen (o := 0) P.box
        have g1 := heap_frozen (o := 1) P.box
        have g2 := heap_frozen (o := 2) P.box
        obtain ⟨W, hWe, k1', k2', _, _⟩ := P.put (.int .i64 0) (.string ⟨#[]⟩) (.slice none 0 0)
        clear hyes hno hR P
        go_wp2
        rw [← hWe]
        obtain ⟨s0, s1, s2⟩ := heap_cells k1'
        refine bodyPost_ret (v := .agg #[.int .i64 0, .string ⟨#[]⟩, .slice none 0 0]) (by simp [results, Try.results27, go_sem, s0, s1, s2]) rfl ?_
        exact HZ.out W k2'
      · have hlp := List.length_pos_iff.2 hts
        have hl0 : ¬ (ts.length : Int) = 0 := by omega
        have C8 := skip_any c [41] q wc P.rd.at'
        have HPP : Hid (∀ V c', RdS wc V q c' → V.heap[y]? = some (.cells #[.int .i64 k, .string ⟨n.toArray⟩, .slice ad ts.length cap] 31 (0, 0)) ∧ PtW w V q w.heap.size c' ∧ RowO V (w.heap.size + 1) (m + 1) (.slice ad ts.length cap) es ts rss) := fun V c' h => ⟨(h.grow.block _ (lt_of_heap hy) (by intro e; have := Option.some.inj e; omega)).trans hy, P.step h, hR.on h.grow.size fun g hg hlt => h.grow.block g hlt (by intro e; have := Option.some.inj e; omega)⟩
        cases hbr : begB [41] c with
        | false =>
          rw [hbr] at C8
          have C8 : Calls Try.prog 43 #[.pointer (some ⟨q, 0, none⟩), .string ⟨#[41]⟩] wc fun e w' => e = .returned (.bool false) ∧ w'.heap.size = wc.heap.size ∧ RdS wc w' q c := C8
          have HZ : Hid (∀ W, RdS w W q c → PartPost w q (40 :: l1) (m + 1 + 1) (.returned (.agg #[.int .i64 0, .string ⟨#[]⟩, .slice none 0 0])) W) := fun W hr => part_zero hr (by simp; omega) (hno (.inr hbr))
          clear hyes hno hR P
          go_wp2_with (first
            | (go_at_call 43; (with_reducible refine Calls.mono C8 ?_); rintro e' w6 ⟨rfl, hs6, hr6⟩; obtain ⟨hy6, P6, hR6⟩ := HPP.out _ _ hr6; obtain ⟨x0, x1, x2⟩ := heap_cells P6.box; have g0 := heap_frozen (o := 0) P6.box; have g1 := heap_frozen (o := 1) P6.box; have g2 := heap_frozen (o := 2) P6.box))
          obtain ⟨W, hWe, k1', k2', _, _⟩ := P6.put (.int .i64 0) (.string ⟨#[]⟩) (.slice none 0 0)
          rw [← hWe]
          obtain ⟨s0, s1, s2⟩ := heap_cells k1'
          refine bodyPost_ret (v := .agg #[.int .i64 0, .string ⟨#[]⟩, .slice none 0 0]) (by simp [results, Try.results27, go_sem, s0, s1, s2]) rfl ?_
          exact HZ.out W k2'
        | true =>
          obtain ⟨r, rfl⟩ := beg_one hbr
          rw [hbr] at C8
          have C8 : Calls Try.prog 43 #[.pointer (some ⟨q, 0, none⟩), .string ⟨#[41]⟩] wc fun e w' => e = .returned (.bool true) ∧ w'.heap.size = wc.heap.size ∧ RdS wc w' q r := C8
          have hpk := hyes hts r rfl
          have HZ : Hid (∀ W, RdS w W q r → RowO W (w.heap.size + 1) (m + 1) (.slice ad ts.length cap) es ts rss → PartPost w q (40 :: l1) (m + 1 + 1) (.returned (.agg #[.int .i64 k, .string ⟨n.toArray⟩, .slice ad ts.length cap])) W) := fun W hr hRW => part_tree hr hRW hts hn hpk (by simp at hnum ⊢; omega) (by simp; omega)
          clear hyes hno hR P
          go_wp2_with (first
            | (go_at_call 43; (with_reducible refine Calls.mono C8 ?_); rintro e' w6 ⟨rfl, hs6, hr6⟩; obtain ⟨hy6, P6, hR6⟩ := HPP.out _ _ hr6; obtain ⟨x0, x1, x2⟩ := heap_cells P6.box; have g0 := heap_frozen (o := 0) P6.box; have g1 := heap_frozen (o := 1) P6.box; have g2 := heap_frozen (o := 2) P6.box; obtain ⟨y0, y1, y2⟩ := heap_cells hy6))
          obtain ⟨W, hWe, k1', k2', k3', k4'⟩ := P6.put (.int .i64 k) (.string ⟨n.toArray⟩) (.slice ad ts.length cap)
          rw [← hWe]
          obtain ⟨s0, s1, s2⟩ := heap_cells k1'
          refine bodyPost_ret (v := .agg #[.int .i64 k, .string ⟨n.toArray⟩, .slice ad ts.length cap]) (by simp [results, Try.results27, go_sem, s0, s1, s2]) rfl ?_
          exact HZ.out W k2' (hR6.on (by omega) fun g hg hlt => k3' g (by omega))
theorem part_any (hF : Finds) : ∀ m, Parts (m + 1)
  | 0 => part_step hF 0 (.inl rfl)
  | m + 1 => part_step hF (m + 1) (.inr (part_any hF m))
end Go.Proofs.Ytikpipenhamdbaa

namespace Go.Proofs.Ytikpipenhamdbaa
open Go.RowKit

theorem own_count {w : World} {lo : Nat} : ∀ (d : Nat) (x : Value) (t : Tn d) (rws : List (Value × Nat)), TyO w lo d x t rws → rws.length ≤ (flat d t).length ∧ (formB d t = true → ∀ p ∈ rws, p.2 ≤ 6)
  | 0, _, t, _, _ => t.elim
  | d + 1, x, ((k, n), ts), rws, ⟨v, hx, h1, h2, h⟩ => by
    rcases h with ⟨h0, _, rfl⟩ | ⟨h0, es, rss, k1, k2, hown, rfl, hj⟩
    · exact ⟨by simp, fun _ p hp => by simp at hp⟩
    · have k1 : es.length = ts.length := k1
      have k2 : rss.length = ts.length := k2
      have hall : ∀ j (h : j < ts.length) (h' : j < rss.length), rss[j].length ≤ (flat d ts[j]).length ∧ (formB d ts[j] = true → ∀ p ∈ rss[j], p.2 ≤ 6) := fun j h h' => own_count d _ _ _ (hj j h (by rw [k1]; exact h) h')
      have key : ∀ (ts : List (Tn d)) (rss : List (List (Value × Nat))), rss.length = ts.length → (∀ j (h : j < ts.length) (h' : j < rss.length), rss[j].length ≤ (flat d ts[j]).length ∧ (formB d ts[j] = true → ∀ p ∈ rss[j], p.2 ≤ 6)) → rss.flatten.length ≤ (flats d ts).length ∧ ((∀ a ∈ ts, formB d a = true) → ∀ p ∈ rss.flatten, p.2 ≤ 6) := by
        intro ts
        induction ts with
        | nil =>
          intro rss hl _
          have : rss = [] := List.length_eq_zero_iff.1 hl
          subst this
          simp
        | cons t ts ih =>
          intro rss hl hh
          cases rss with
          | nil => simp at hl
          | cons r rss =>
            obtain ⟨i1, i2⟩ := ih rss (by simpa using hl) fun j h h' => by
              have := hh (j + 1) (by simpa using h) (by simpa using h')
              simpa using this
            obtain ⟨j1, j2⟩ := hh 0 (by simp) (by simp)
            have j1 : r.length ≤ (flat d t).length := j1
            rw [flats_cons, List.length_append, List.flatten_cons, List.length_append]
            refine ⟨by omega, fun hF p hp => ?_⟩
            rcases List.mem_append.1 hp with hp | hp
            · exact j2 (hF t (by simp)) p hp
            · exact i2 (fun a ha => hF a (by simp [ha])) p hp
      obtain ⟨i1, i2⟩ := key ts rss k2 hall
      refine ⟨by rw [flat_succ, List.length_cons, List.length_cons]; omega, fun hF p hp => ?_⟩
      rw [form_succ] at hF
      simp only [Bool.and_eq_true, List.all_eq_true] at hF
      rcases List.mem_cons.1 hp with rfl | hp
      · show ts.length ≤ 6
        have := hF.1
        unfold okB at this
        split at this
        · simp only [Bool.and_eq_true, decide_eq_true_eq] at this; omega
        · split at this
          · simp only [Bool.and_eq_true, decide_eq_true_eq] at this; omega
          · split at this
            · simp only [Bool.and_eq_true, decide_eq_true_eq] at this; omega
            · split at this
              · simp only [Bool.and_eq_true, decide_eq_true_eq] at this; omega
              · cases this
      · exact i2 hF.2 p hp
/-- What Read says of a text whose reading is known. -/
theorem rel_part {l r : List UInt8} {m : Nat} {t : Tn m} (h6 : l.length ≤ 65536) (h : PartOk l m t r) :
    ((r ≠ [] ∨ wrongT m t = 53) → RelR l 52 [(0, [], 0)]) ∧ (r = [] → wrongT m t = 4 → RelR l 4 [(0, [], 0)]) ∧ (r = [] → wrongT m t = 0 → RelR l 0 (flat m t)) := by
  refine ⟨fun h0 => .inr ⟨by decide, rfl, .inr (.inr ⟨h6, fun d u hu he => ?_, rfl⟩)⟩, fun h0 h1 => ?_, fun h0 h1 => ?_⟩
  · obtain ⟨f1, f2⟩ := h.compl d u [] hu (by rw [he, List.append_nil]) fun _ => ends_nil
    rcases h0 with h0 | h0
    · exact h0 f2
    · unfold wrongT at h0
      rw [if_pos f1] at h0
      split at h0 <;> cases h0
  · have hF : formB m t = true ∧ 500 < (flat m t).length := by
      unfold wrongT at h1
      split at h1
      · rename_i hf
        split at h1
        · exact ⟨hf, by assumption⟩
        · cases h1
      · cases h1
    have := (h.sound hF.1).1
    rw [h0, List.append_nil] at this
    exact .inr ⟨by decide, rfl, .inr (.inl ⟨h6, ⟨m, t, hF.1, this.symm, hF.2⟩, rfl⟩)⟩
  · obtain ⟨f1, f2⟩ := wrong_zero h1
    have := (h.sound f1).1
    rw [h0, List.append_nil] at this
    exact .inl ⟨rfl, h6, m, t, f1, this.symm, f2, rfl⟩
theorem read_zero {w W : World} {l : List UInt8} {e : Int} (hb : Below w.heap.size w W) (h : RelR l e [(0, [], 0)]) : ReadPostO w l (.returned (.tuple #[.agg #[.int .i64 0, .string ⟨#[]⟩, .slice none 0 0], .int .i64 e])) W :=
  ⟨hb, 0, ⟨#[]⟩, none, 0, 0, e, 1, ((0, []), []), [], rfl, ⟨.slice none 0 0, rfl, by simp, by simp, .inl ⟨rfl, ⟨none, 0, rfl⟩, rfl⟩⟩, ⟨fun p hp => by simp at hp, by simp⟩, by simp, fun p hp => by simp at hp, by rw [flat_succ, flats_nil]; exact h⟩
set_option maxHeartbeats 16000000 in
set_option maxRecDepth 10000 in
theorem read_any (hF : Finds) : ReadsO 14 := by
  intro l w hl
  obtain ⟨W0, hW0, hbW0, hsW0, _, _, _⟩ := cells_box w (.int .i64 0) (.string ⟨#[]⟩) (.slice none 0 0) 31
  have hbox0 : W0.heap[w.heap.size]? = some (.cells #[.int .i64 0, .string ⟨#[]⟩, .slice none 0 0] 31 (0, 0)) := by rw [hW0]; exact heap_alloc_new w _
  have hsz : (⟨l.toArray⟩ : ByteArray).size = l.length := by show l.toArray.size = _; simp
  by_cases hbig : 65536 < l.length
  · have HR : Hid (∀ W, Below w.heap.size w W → ReadPostO w l (.returned (.tuple #[.agg #[.int .i64 0, .string ⟨#[]⟩, .slice none 0 0], .int .i64 2])) W) := fun W hb => read_zero hb (.inr ⟨by decide, rfl, .inl ⟨hbig, rfl⟩⟩)
    have hbig' : (65536 : Int) < ((⟨l.toArray⟩ : ByteArray).size : Int) := by omega
    obtain ⟨W, hWe, k1, k2, k3, k4⟩ := store3 hbox0 (.int .i64 0) (.string ⟨#[]⟩) (.slice none 0 0)
    obtain ⟨x0, x1, x2⟩ := heap_cells hbox0
    have g0 := heap_frozen (o := 0) hbox0
    have g1 := heap_frozen (o := 1) hbox0
    have g2 := heap_frozen (o := 2) hbox0
    have HB : Hid (Below w.heap.size w W) := hbW0.trans k4
    show Calls Try.prog 14 #[.string ⟨l.toArray⟩] w _
    generalize (⟨l.toArray⟩ : ByteArray) = s at *
    clear hbW0 hsW0 hF
    go_enter Try.func14, Try.ntmps14
    go_upto_region 1 with fail
    rw [← hW0]
    clear hW0
    go_wp2
    rw [← hWe]
    obtain ⟨s0, s1, s2⟩ := heap_cells k1
    refine bodyPost_ret (v := .tuple #[.agg #[.int .i64 0, .string ⟨#[]⟩, .slice none 0 0], .int .i64 2]) (by simp [results, Try.results14, go_sem, s0, s1, s2]) rfl ?_
    exact HR.out W HB.out
  · have h6 : l.length ≤ 65536 := by omega
    have hbig' : ¬ (65536 : Int) < ((⟨l.toArray⟩ : ByteArray).size : Int) := by omega
    obtain ⟨W1, hW1⟩ : ∃ W1, W1 = W0.alloc (Obj.cells #[strV l] 69) := ⟨_, rfl⟩
    have hbW1 : Below W0.heap.size W0 W1 := by rw [hW1]; exact (Below.refl _ _).alloc (Nat.le_refl _) _
    have hq : RdAt W1 W0.heap.size l := by rw [hW1]; exact heap_alloc_new W0 _
    have hsW1 : W1.heap.size = W0.heap.size + 1 := by rw [hW1]; simp
    have CP := part_any hF l.length l W0.heap.size W1 hq (by omega) h6
    have HP : Hid (∀ w2 r1, RdS W1 w2 W0.heap.size r1 → Below w.heap.size w w2 ∧ w2.heap[w.heap.size]? = some (.cells #[.int .i64 0, .string ⟨#[]⟩, .slice none 0 0] 31 (0, 0)) ∧ w.heap.size + 2 ≤ w2.heap.size) := fun w2 r1 h => by
      have hb : Below w.heap.size w W1 := hbW0.trans (hbW1.mono hbW0.size)
      have h2 := h.grow.size
      refine ⟨⟨h.grow.os.trans hb.os, h.grow.tape.trans hb.tape, h.grow.output.trans hb.output, Nat.le_trans hb.size h2, fun g hg => ?_⟩, ?_, by omega⟩
      · rw [h.grow.block g (by omega) (by intro e; have := Option.some.inj e; omega)]
        exact hb.block g hg
      · rw [h.grow.block _ (by omega) (by intro e; have := Option.some.inj e; omega), hbW1.block _ (by omega)]
        exact hbox0
    have HZQ : Hid (W0.heap.size = w.heap.size + 1 ∧ W1.heap.size = W0.heap.size + 1) := ⟨hsW0, hsW1⟩
    show Calls Try.prog 14 #[.string ⟨l.toArray⟩] w _
    have hW1' : W1 = W0.alloc (Obj.cells #[.string ⟨l.toArray⟩] 69) := hW1
    clear hbW0 hsW0 hF hbW1 hq hW1 hsW1 hbox0
    generalize hsn : (⟨l.toArray⟩ : ByteArray) = s at *
    go_enter Try.func14, Try.ntmps14
    go_upto_region 1 with fail
    rw [← hW0]
    clear hW0
    go_upto_region 4 with fail
    rw [← hW1']
    clear hW1'
    go_upto_region 5 with (first
      | (go_at_call 27; (with_reducible refine Calls.mono CP ?_); intro e' w2 hp; obtain ⟨k1, n1, ad1, len1, cap1, t1, rws1, r1, rfl, hr2, hok1, hnum1, hle1, hT1, hS1⟩ := hp))
    have hP2 := HP.out w2 r1 hr2
    obtain ⟨U, hU, hbU, hsU, u0, u1, u2, v0, v1, v2⟩ := cells_boxes w2 (.int .i64 k1) (.string n1) (.slice ad1 len1 cap1) (.int .i64 k1) (.string n1) (.slice ad1 len1 cap1) 31
    have hlt1 : ∀ p ∈ rws1, ∀ g, p.1.ownBlock = some g → W1.heap.size ≤ g ∧ g < w2.heap.size := fun p hp g hg => by
      obtain ⟨g', e, a, b⟩ := hS1.1 p hp
      rw [hg] at e
      have := Option.some.inj e
      exact ⟨by omega, by omega⟩
    have hTA : TyAt w2 w2.heap.size (l.length + 1) (.agg #[.int .i64 k1, .string n1, .slice ad1 len1 cap1]) t1 := TyO.at _ _ _ _ (fun p hp g hg => (hlt1 p hp g hg).2) hT1
    have C2 := wrong_one (l.length + 1) _ _ _ _ _ t1 w2 U w2.heap.size (w2.heap.size + 1) (by omega) (by omega) hTA hbU (by omega) v0 v1 v2
    obtain ⟨R1, R2, R3⟩ := rel_part h6 hok1
    have HRel : Hid (((r1 ≠ [] ∨ wrongT (l.length + 1) t1 = 53) → RelR l 52 [(0, [], 0)]) ∧ (r1 = [] → wrongT (l.length + 1) t1 = 4 → RelR l 4 [(0, [], 0)]) ∧ (r1 = [] → wrongT (l.length + 1) t1 = 0 → RelR l 0 (flat (l.length + 1) t1))) := ⟨R1, R2, R3⟩
    have hwr := wrong_range (l.length + 1) t1
    have HW3 : Hid (∀ w3, Below U.heap.size U w3 → Below w.heap.size w w3 ∧ w3.heap[w.heap.size]? = some (.cells #[.int .i64 0, .string ⟨#[]⟩, .slice none 0 0] 31 (0, 0)) ∧ RdAt w3 W0.heap.size r1 ∧ w3.heap[w2.heap.size]? = some (.cells #[.int .i64 k1, .string n1, .slice ad1 len1 cap1] 31 (0, 0)) ∧ TyO w3 W1.heap.size (l.length + 1) (.agg #[.int .i64 k1, .string n1, .slice ad1 len1 cap1]) t1 rws1 ∧ w2.heap.size + 2 ≤ w3.heap.size) := fun w3 hb => by
      have hb3 : Below w2.heap.size w2 w3 := hbU.trans (hb.mono hbU.size)
      have hbx : U.heap[w2.heap.size]? = some (.cells #[.int .i64 k1, .string n1, .slice ad1 len1 cap1] 31 (0, 0)) := by
        rw [hU, Below.heap_alloc _ _ _ (by simp)]
        exact heap_alloc_new w2 _
      refine ⟨hP2.1.trans (hb3.mono hP2.1.size), (hb3.block _ (lt_of_heap hP2.2.1)).trans hP2.2.1, (hb3.block _ (lt_of_heap hr2.at')).trans hr2.at', (hb.block _ (by omega)).trans hbx, TyO.on _ _ _ _ (fun p hp g hg => hb3.block g (hlt1 p hp g hg).2) hT1, by have := hb.size; omega⟩
    have HT1 : Hid (SepB W1.heap.size w2.heap.size rws1 ∧ rws1.length ≤ (flat (l.length + 1) t1).length ∧ (formB (l.length + 1) t1 = true → ∀ p ∈ rws1, p.2 ≤ 6)) := ⟨hS1, own_count _ _ _ _ hT1⟩
    rw [hU] at C2
    clear hok1 hnum1 hle1 hT1 hS1 hlt1 hTA hr2 R1 R2 R3 HP CP u0 u1 u2 v0 v1 v2
    have HP2 : Hid (w.heap.size + 2 ≤ w2.heap.size) := hP2.2.2
    clear hP2
    have HUD : Hid (U = (w2.alloc (Obj.cells #[.int .i64 k1, .string n1, .slice ad1 len1 cap1] 31)).alloc (Obj.cells #[.int .i64 k1, .string n1, .slice ad1 len1 cap1] 31)) := hU
    have hsl : (Value.string s) = strV l := by rw [← hsn]
    clear hU hbU hsU
    generalize hwc : wrongT (l.length + 1) t1 = wc at *
    have ZERO : Hid (∀ (e : Int) w3, Below U.heap.size U w3 → RelR l e [(0, [], 0)] → ∃ W, W = ((w3.setCell ⟨w.heap.size, 0, none⟩ (.int .i64 0)).setCell ⟨w.heap.size, 1, none⟩ (.string ⟨#[]⟩)).setCell ⟨w.heap.size, 2, none⟩ (.slice none 0 0) ∧ W.heap[w.heap.size]? = some (.cells #[.int .i64 0, .string ⟨#[]⟩, .slice none 0 0] 31 (0, 0)) ∧ ReadPostO w l (.returned (.tuple #[.agg #[.int .i64 0, .string ⟨#[]⟩, .slice none 0 0], .int .i64 e])) W) := fun e w3 hb hrel => by
      obtain ⟨a1, a2, _⟩ := HW3.out w3 hb
      obtain ⟨W, hWe, k1, k2, k3, k4⟩ := store3 a2 (.int .i64 0) (.string ⟨#[]⟩) (.slice none 0 0)
      exact ⟨W, hWe, k1, read_zero (a1.trans k4) hrel⟩
    have FACT : Hid (∀ w3, Below U.heap.size U w3 → (w3.cell? ⟨w.heap.size, 0, none⟩ = some (.int .i64 0) ∧ w3.cell? ⟨w.heap.size, 1, none⟩ = some (.string ⟨#[]⟩) ∧ w3.cell? ⟨w.heap.size, 2, none⟩ = some (.slice none 0 0)) ∧ (w3.frozen? ⟨w.heap.size, 0, none⟩ = false ∧ w3.frozen? ⟨w.heap.size, 1, none⟩ = false ∧ w3.frozen? ⟨w.heap.size, 2, none⟩ = false) ∧ w3.cell? ⟨W0.heap.size, 0, none⟩ = some (strV r1) ∧ (w3.cell? ⟨w2.heap.size, 0, none⟩ = some (.int .i64 k1) ∧ w3.cell? ⟨w2.heap.size, 1, none⟩ = some (.string n1) ∧ w3.cell? ⟨w2.heap.size, 2, none⟩ = some (.slice ad1 len1 cap1))) := fun w3 hb => by
      obtain ⟨a1, a2, a3, a4, _⟩ := HW3.out w3 hb
      exact ⟨heap_cells a2, ⟨heap_frozen a2, heap_frozen a2, heap_frozen a2⟩, rd_cell a3, heap_cells a4⟩
    have hbl : (⟨r1.toArray⟩ : ByteArray).toList = r1 := bytes_list r1
    have FACT2 := FACT
    by_cases hre : r1 = []
    · have HRl : Hid (r1 = []) := hre
      have hb0 : ((⟨r1.toArray⟩ : ByteArray).toList == []) = true := by rw [hbl, hre]; rfl
      have hb1 : ((⟨r1.toArray⟩ : ByteArray).toList != []) = false := by rw [hbl, hre]; rfl
      have hb2 : (⟨r1.toArray⟩ : ByteArray).toList.isEmpty = true := by rw [hbl, hre]; rfl
      clear hbl hre
      generalize (⟨r1.toArray⟩ : ByteArray) = rs at FACT hb0 hb1 hb2
      rcases hwr with h0 | h0 | h0
      · have HW0 : Hid (wc = 0) := h0
        subst h0
        go_wp2_with (first
        | (go_at_call 16; (with_reducible refine Calls.mono C2 ?_); rintro e' w3 ⟨rfl, hb3⟩; rw [← HUD.out] at hb3; obtain ⟨⟨x0, x1, x2⟩, ⟨g0, g1, g2⟩, y0, ⟨z0, z1, z2⟩⟩ := FACT.out w3 hb3))
        obtain ⟨a1, a2, a3, a4, a5, a6⟩ := HW3.out w3 hb3
        obtain ⟨W, hWe, k1', k2', k3', k4'⟩ := store3 a2 (.int .i64 k1) (.string n1) (.slice ad1 len1 cap1)
        rw [← hWe]
        obtain ⟨s0, s1, s2⟩ := heap_cells k1'
        refine bodyPost_ret (v := .tuple #[.agg #[.int .i64 k1, .string n1, .slice ad1 len1 cap1], .int .i64 0]) (by simp [results, Try.results14, go_sem, s0, s1, s2]) rfl ?_
        obtain ⟨c1, c2, c3⟩ := HT1.out
        obtain ⟨f1, f2⟩ := wrong_zero hwc
        have hz1 := HZQ.out
        refine ⟨a1.trans k4', k1, n1, ad1, len1, cap1, 0, _, t1, rws1, rfl, TyO.mono (by omega) _ _ _ _ (TyO.on _ _ _ _ (fun p hp g hg => k2' g ?_) a5), ⟨fun p hp => ?_, c1.2⟩, by omega, c3 f1, HRel.out.2.2 HRl.out (by first | rfl | trivial)⟩
        · obtain ⟨g', e, q1, q2⟩ := c1.1 p hp
          rw [hg] at e
          have := Option.some.inj e
          omega
        · obtain ⟨g', e, q1, q2⟩ := c1.1 p hp
          exact ⟨g', e, by omega⟩
      · have HW0 : Hid (wc = 4) := h0
        subst h0
        go_wp2_with (first
        | (go_at_call 16; (with_reducible refine Calls.mono C2 ?_); rintro e' w3 ⟨rfl, hb3⟩; rw [← HUD.out] at hb3; obtain ⟨⟨x0, x1, x2⟩, ⟨g0, g1, g2⟩, y0, ⟨z0, z1, z2⟩⟩ := FACT.out w3 hb3))
        obtain ⟨W, hWe, k1', HRes⟩ := ZERO.out 4 w3 hb3 (HRel.out.2.1 HRl.out (by first | rfl | trivial))
        rw [← hWe]
        obtain ⟨s0, s1, s2⟩ := heap_cells k1'
        refine bodyPost_ret (v := .tuple #[.agg #[.int .i64 0, .string ⟨#[]⟩, .slice none 0 0], .int .i64 4]) (by simp [results, Try.results14, go_sem, s0, s1, s2]) rfl ?_
        exact HRes
      · have HW0 : Hid (wc = 53) := h0
        subst h0
        go_wp2_with (first
        | (go_at_call 16; (with_reducible refine Calls.mono C2 ?_); rintro e' w3 ⟨rfl, hb3⟩; rw [← HUD.out] at hb3; obtain ⟨⟨x0, x1, x2⟩, ⟨g0, g1, g2⟩, y0, ⟨z0, z1, z2⟩⟩ := FACT.out w3 hb3))
        obtain ⟨W, hWe, k1', HRes⟩ := ZERO.out 52 w3 hb3 (HRel.out.1 (.inr (by first | rfl | trivial)))
        rw [← hWe]
        obtain ⟨s0, s1, s2⟩ := heap_cells k1'
        refine bodyPost_ret (v := .tuple #[.agg #[.int .i64 0, .string ⟨#[]⟩, .slice none 0 0], .int .i64 52]) (by simp [results, Try.results14, go_sem, s0, s1, s2]) rfl ?_
        exact HRes
    · have HRl : Hid (r1 ≠ []) := hre
      have hb0 : ((⟨r1.toArray⟩ : ByteArray).toList == []) = false := by rw [hbl]; simpa using hre
      have hb1 : ((⟨r1.toArray⟩ : ByteArray).toList != []) = true := by rw [hbl]; simpa using hre
      have hb2 : (⟨r1.toArray⟩ : ByteArray).toList.isEmpty = false := by rw [hbl]; simpa using hre
      clear hbl hre
      generalize (⟨r1.toArray⟩ : ByteArray) = rs at FACT hb0 hb1 hb2
      go_wp2_with (first
        | (go_at_call 16; (with_reducible refine Calls.mono C2 ?_); rintro e' w3 ⟨rfl, hb3⟩; rw [← HUD.out] at hb3; obtain ⟨⟨x0, x1, x2⟩, ⟨g0, g1, g2⟩, y0, ⟨z0, z1, z2⟩⟩ := FACT.out w3 hb3))
      obtain ⟨W, hWe, k1', HRes⟩ := ZERO.out 52 w3 hb3 (HRel.out.1 (.inl HRl.out))
      rw [← hWe]
      obtain ⟨s0, s1, s2⟩ := heap_cells k1'
      refine bodyPost_ret (v := .tuple #[.agg #[.int .i64 0, .string ⟨#[]⟩, .slice none 0 0], .int .i64 52]) (by simp [results, Try.results14, go_sem, s0, s1, s2]) rfl ?_
      exact HRes
end Go.Proofs.Ytikpipenhamdbaa
