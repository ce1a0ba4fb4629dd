/- Rows of types that are their owner's, made one by one. The program's reader: the contract of args, if part reads as it should. The program's reader: the contract of part. Read answers as the document says, and what it answers is its owner's. -/
import Derived.Test.YtgdflaapgfpdeaaGreatDoorMjx
import Derived.Test.YtgdflaapgfpdeaaGreatDoorMhx
namespace Go.Proofs.YtgdflaapgfpdeaaGreatDoor
open Go.RowKit

theorem TyO.mono {w : World} {lo lo' : Nat} (hl : lo ≤ lo') : ∀ (d : Nat) (x : Value) (t : Tn d) (rws : List (Value × Nat)), TyO w lo' d x t rws → TyO w lo d x t rws
  | 0, _, _, _, h => h
  | d + 1, x, t, rws, ⟨v, hx, h1, h2, h⟩ => by
    refine ⟨v, hx, h1, h2, ?_⟩
    rcases h with h | ⟨h0, es, rss, k1, k2, hown, hr, hj⟩
    · exact .inl h
    · exact .inr ⟨h0, es, rss, k1, k2, hown.mono hl, hr, fun j a b c => TyO.mono hl d _ _ _ (hj j a b c)⟩
/-- A row that is made one by one, and what lies in it: each element's lists lie in blocks of their own. -/
structure RowO (w : World) (lo d : Nat) (v : Value) (es : List El) (ts : List (Tn d)) (rss : List (List (Value × Nat))) : Prop where
  own : w.ownsRow lo 24 3 v es.length (es.flatMap elCells)
  len : es.length = ts.length
  rlen : rss.length = ts.length
  each : ∀ j (h : j < ts.length) (h1 : j < es.length) (h2 : j < rss.length), TyO w lo d (elV es[j]) ts[j] rss[j]
  sep : SepB lo w.heap.size rss.flatten
  away : ∀ p ∈ rss.flatten, p.1.ownBlock ≠ v.ownBlock
theorem RowO.nil (w : World) (lo d : Nat) : RowO w lo d (.slice none 0 0) [] [] [] := ⟨World.ownsRow_nil _ _ _ _, rfl, rfl, fun j h => by simp at h, ⟨fun p hp => by simp at hp, by simp⟩, fun p hp => by simp at hp⟩
theorem RowO.on {w w' : World} {lo d : Nat} {v : Value} {es : List El} {ts : List (Tn d)} {rss : List (List (Value × Nat))} (h : RowO w lo d v es ts rss) (hs : w.heap.size ≤ w'.heap.size) (hb : ∀ g, lo ≤ g → g < w.heap.size → w'.heap[g]? = w.heap[g]?) : RowO w' lo d v es ts rss := by
  refine ⟨own_keep h.own fun k hk => hb k (h.own.lt k hk).1 (h.own.lt k hk).2, h.len, h.rlen, fun j a b c => TyO.on _ _ _ _ (fun p hp g hg => ?_) (h.each j a b c), ⟨fun p hp => ?_, h.sep.2⟩, h.away⟩
  · obtain ⟨g', e, h1, h2⟩ := h.sep.1 p (List.mem_flatten.2 ⟨_, List.getElem_mem c, hp⟩)
    rw [hg] at e
    have := Option.some.inj e
    exact hb g (by omega) (by omega)
  · obtain ⟨g', e, h1, h2⟩ := h.sep.1 p hp
    exact ⟨g', e, h1, by omega⟩
theorem elV_own {w : World} {lo d : Nat} {x : Value} {t : Tn d} {rws : List (Value × Nat)} (h : TyO w lo d x t rws) : ∃ k n ad len cap, x = .agg #[.int .i64 k, .string n, .slice ad len cap] := by
  cases d with
  | zero => exact h.elim
  | succ d =>
    obtain ⟨v, hx, _, _, h⟩ := h
    rcases h with ⟨_, ⟨ad, cap, rfl⟩, _⟩ | ⟨_, es, rss, k1, k2, hown, _⟩
    · exact ⟨_, _, ad, 0, cap, hx⟩
    · rcases hown.2 with ⟨rfl, h0⟩ | ⟨g, cap, _, rfl, _⟩
      · exact ⟨_, _, _, _, _, hx⟩
      · exact ⟨_, _, _, _, _, hx⟩
/-- One more. -/
theorem RowO.snoc {w w' : World} {lo lo' d : Nat} {v v' : Value} {es : List El} {ts : List (Tn d)} {rss : List (List (Value × Nat))} {e : El} {t : Tn d} {rws : List (Value × Nat)} (h : RowO w lo d v es ts rss) (hl : lo ≤ lo') (he : TyO w lo' d (elV e) t rws) (hS : SepB lo' w.heap.size rws) (hlw : lo' ≤ w.heap.size) (hA : SepB lo lo' rss.flatten) (hv : ∀ k, v.ownBlock = some k → k < lo')
    (hown : w'.ownsRow lo 24 3 v' (es.length + 1) (es.flatMap elCells ++ elCells e)) (hs : w.heap.size ≤ w'.heap.size) (hg : ∀ k, k < w.heap.size → some k ≠ v.ownBlock → w'.heap[k]? = w.heap[k]?) (hv' : v'.ownBlock = v.ownBlock ∨ ∃ g, v'.ownBlock = some g ∧ w.heap.size ≤ g) : RowO w' lo d v' (es ++ [e]) (ts ++ [t]) (rss ++ [rws]) := by
  have hfl : (rss ++ [rws]).flatten = rss.flatten ++ rws := by simp
  have hSep : SepB lo w.heap.size (rss.flatten ++ rws) := hA.append hS hl (Nat.le_refl _) hlw
  have hlt : ∀ p ∈ rss.flatten ++ rws, ∃ g, p.1.ownBlock = some g ∧ g < w.heap.size ∧ p.1.ownBlock ≠ v.ownBlock := fun p hp => by
    obtain ⟨g, e1, _, e2⟩ := hSep.1 p hp
    refine ⟨g, e1, e2, ?_⟩
    rcases List.mem_append.1 hp with hp | hp
    · exact h.away p hp
    · obtain ⟨g', e3, e4, _⟩ := hS.1 p hp
      intro e5
      have := hv g' (by rw [← e5, e3])
      omega
  have keep : ∀ p ∈ rss.flatten ++ rws, ∀ g, p.1.ownBlock = some g → w'.heap[g]? = w.heap[g]? := fun p hp g hpg => by
    obtain ⟨g', e1, e2, e3⟩ := hlt p hp
    rw [hpg] at e1
    have e1 := Option.some.inj e1
    exact hg g (by omega) (by rw [← hpg]; exact e3)
  refine ⟨by simpa using hown, by simp [h.len], by simp [h.rlen], fun j hj hj1 hj2 => ?_, ?_, ?_⟩
  · have l1 := h.len
    have l2 := h.rlen
    by_cases hlt : j < ts.length
    · rw [List.getElem_append_left hlt, List.getElem_append_left (by omega), List.getElem_append_left (by omega)]
      exact TyO.on _ _ _ _ (fun p hp => keep p (List.mem_append.2 (.inl (List.mem_flatten.2 ⟨_, List.getElem_mem _, hp⟩)))) (h.each j hlt (by omega) (by omega))
    · have e1 : j = ts.length := by simp at hj; omega
      subst e1
      have k1 : (ts ++ [t])[ts.length] = t := List.getElem_concat_length rfl _
      have k2 : (es ++ [e])[ts.length] = e := List.getElem_concat_length l1.symm _
      have k3 : (rss ++ [rws])[ts.length] = rws := List.getElem_concat_length l2.symm _
      rw [k1, k2, k3]
      exact TyO.mono hl _ _ _ _ (TyO.on _ _ _ _ (fun p hp => keep p (List.mem_append.2 (.inr hp))) he)
  · rw [hfl]
    exact ⟨fun p hp => by
      obtain ⟨g, e1, e2, e3⟩ := hSep.1 p hp
      exact ⟨g, e1, e2, by omega⟩, hSep.2⟩
  · rw [hfl]
    intro p hp e0
    obtain ⟨g, e1, e2, e3⟩ := hlt p hp
    rcases hv' with hv' | ⟨g', hv', hge⟩
    · exact e3 (e0.trans hv')
    · rw [e1, hv'] at e0
      have := Option.some.inj e0
      omega
/-- The tree whose arguments are such a row. -/
theorem RowO.tree {w : World} {lo d : Nat} {v : Value} {es : List El} {ts : List (Tn d)} {rss : List (List (Value × Nat))} (h : RowO w lo d v es ts rss) (h0 : ts ≠ []) (k : Int) (n : List UInt8) (hn : n.length < 140737488355328) (hl : ts.length < 140737488355328) :
    TyO w lo (d + 1) (.agg #[.int .i64 k, .string ⟨n.toArray⟩, v]) ((k, n), ts) ((v, ts.length) :: rss.flatten) ∧ SepB lo w.heap.size ((v, ts.length) :: rss.flatten) := by
  refine ⟨⟨v, rfl, hn, hl, .inr ⟨h0, es, rss, h.len, h.rlen, by show w.ownsRow lo 24 3 v ts.length _; rw [← h.len]; exact h.own, rfl, fun j a b c => h.each j a b c⟩⟩, ?_⟩
  have hpos : 0 < es.length := by rw [h.len]; exact List.length_pos_iff.2 h0
  obtain ⟨g, cap, hv, hg, hlt⟩ := h.own.form hpos
  have hvb : v.ownBlock = some g := by rw [hv]; rfl
  refine ⟨fun p hp => ?_, ?_⟩
  · rcases List.mem_cons.1 hp with rfl | hp
    · exact ⟨g, hvb, hg, hlt⟩
    · exact h.sep.1 p hp
  · rw [List.map_cons, List.nodup_cons]
    refine ⟨fun hm => ?_, h.sep.2⟩
    obtain ⟨p, hp, e⟩ := List.mem_map.1 hm
    exact h.away p hp e
end Go.Proofs.YtgdflaapgfpdeaaGreatDoor

namespace Go.Proofs.YtgdflaapgfpdeaaGreatDoor
open Go.RowKit

/-- What part answers. -/
def PartPost (w : World) (q : Nat) (l : List UInt8) (m : Nat) (r : Ending) (w' : World) : Prop :=
  ∃ (k : Int) (n : ByteArray) (ad : Option Addr) (len cap : Nat) (t : Tn m) (rws : List (Value × Nat)) (l' : List UInt8), r = .returned (.agg #[.int .i64 k, .string n, .slice ad len cap]) ∧ RdS w w' q l' ∧ PartOk l m t l' ∧
    l'.length + (flat m t).length ≤ l.length + 1 ∧ l'.length ≤ l.length ∧ TyO w' w.heap.size m (.agg #[.int .i64 k, .string n, .slice ad len cap]) t rws ∧ SepB w.heap.size w'.heap.size rws
def Parts (m : Nat) : Prop := ∀ (l : List UInt8) (q : Nat) (w : World), RdAt w q l → l.length < m → l.length ≤ 65536 → Calls Tryz.prog 70 #[.pointer (some ⟨q, 0, none⟩)] w (PartPost w q l m)
/-- What args answers. -/
def ArgsPost (w : World) (q : Nat) (l : List UInt8) (m : Nat) (r : Ending) (w' : World) : Prop :=
  ∃ (ad : Option Addr) (cap : Nat) (es : List El) (ts : List (Tn m)) (rss : List (List (Value × Nat))) (l' : List UInt8), r = .returned (.slice ad ts.length cap) ∧ RdS w w' q l' ∧ ArgsOk l m ts l' ∧ begB [32] l' = false ∧
    l'.length + (flats m ts).length ≤ l.length ∧ RowO w' w.heap.size m (.slice ad ts.length cap) es ts rss
theorem flats_pos (m : Nat) (ts : List (Tn m)) : ts.length ≤ (flats m ts).length := by
  induction ts with
  | nil => simp
  | cons t ts ih =>
    rw [flats_cons, List.length_append, List.length_cons]
    have := flat_pos m t
    omega
theorem flats_app (m : Nat) (a b : List (Tn m)) : flats m (a ++ b) = flats m a ++ flats m b := by simp [flats]
theorem RdS.trans {w w1 w2 : World} {q : Nat} {l1 l2 : List UInt8} (h1 : RdS w w1 q l1) (h2 : RdS w1 w2 q l2) : RdS w w2 q l2 :=
  ⟨⟨h2.grow.os.trans h1.grow.os, h2.grow.tape.trans h1.grow.tape, h2.grow.output.trans h1.grow.output, Nat.le_trans h1.grow.size h2.grow.size, fun k hk hne => (h2.grow.block k (Nat.lt_of_lt_of_le hk h1.grow.size) hne).trans (h1.grow.block k hk hne)⟩, h2.at'⟩
/-- Between the rounds of args. -/
structure ArW (w : World) (q : Nat) (l : List UInt8) (m : Nat) (wr : World) (v : Value) (es : List El) (ts : List (Tn m)) (rss : List (List (Value × Nat))) (c : List UInt8) : Prop where
  rd : RdS w wr q c
  ok : ArgsOk l m ts c
  num : c.length + (flats m ts).length ≤ l.length
  row : RowO wr w.heap.size m v es ts rss
  qlt : q < w.heap.size
/-- The row and the reader behind a skip. -/
theorem ArW.skip {w : World} {q : Nat} {l : List UInt8} {m : Nat} {wr w1 : World} {v : Value} {es : List El} {ts : List (Tn m)} {rss : List (List (Value × Nat))} {c c' : List UInt8} (h : ArW w q l m wr v es ts rss c) (h1 : RdS wr w1 q c') : RdS w w1 q c' ∧ RowO w1 w.heap.size m v es ts rss :=
  ⟨h.rd.trans h1, h.row.on h1.grow.size fun g hg hlt => h1.grow.block g hlt (by intro e; have := Option.some.inj e; have := h.qlt; omega)⟩
theorem row_form {w : World} {lo d : Nat} {v : Value} {es : List El} {ts : List (Tn d)} {rss : List (List (Value × Nat))} (h : RowO w lo d v es ts rss) : ∃ ad cap, v = .slice ad ts.length cap := by
  rcases h.own.2 with ⟨h0, h1⟩ | ⟨g, cap, _, h1, _⟩
  · exact ⟨none, 0, by rw [h0, ← h.len, h1]⟩
  · exact ⟨_, cap, by rw [h1, h.len]⟩
end Go.Proofs.YtgdflaapgfpdeaaGreatDoor

namespace Go.Proofs.YtgdflaapgfpdeaaGreatDoor
open Go.RowKit

theorem word_form (n : List UInt8) (hn : n.length < 140737488355328) : (wordT n).2.length < 140737488355328 := by
  unfold wordT
  split
  · simp
  · split <;> exact hn
/-- The answer is the word. -/
theorem part_leaf {w w' : World} {q : Nat} {l : List UInt8} {m : Nat} (hb : begB [40] l = false) (h6 : l.length ≤ 65536) (h : RdS w w' q (l.drop (wordL l).length)) : PartPost w q l (m + 1) (.returned (.agg #[.int .i64 (wordT (wordL l)).1, strV (wordT (wordL l)).2, .slice none 0 0])) w' := by
  refine ⟨_, _, none, 0, 0, (wordT (wordL l), []), [], l.drop (wordL l).length, rfl, h, PartOk.leaf hb, ?_, by simp, ?_, ⟨fun p hp => by simp at hp, by simp⟩⟩
  · rw [show (flat (m + 1) (wordT (wordL l), [])).length = 1 from rfl, List.length_drop]
    omega
  · refine ⟨.slice none 0 0, rfl, word_form _ ?_, by simp, .inl ⟨rfl, ⟨none, 0, rfl⟩, rfl⟩⟩
    obtain ⟨r, h1, _⟩ := word_split l
    have := congrArg List.length h1
    rw [List.length_append] at this
    omega
/-- The answer is nothing. -/
theorem part_zero {w w' : World} {q : Nat} {l l' : List UInt8} {m : Nat} (h : RdS w w' q l') (hl : l'.length ≤ l.length) (hp : PartOk l (m + 1) ((0, []), []) l') : PartPost w q l (m + 1) (.returned (.agg #[.int .i64 0, .string ⟨#[]⟩, .slice none 0 0])) w' := by
  refine ⟨0, ⟨#[]⟩, none, 0, 0, ((0, []), []), [], l', rfl, h, hp, ?_, hl, ⟨.slice none 0 0, rfl, by simp, by simp, .inl ⟨rfl, ⟨none, 0, rfl⟩, rfl⟩⟩, ⟨fun p hp => by simp at hp, by simp⟩⟩
  rw [show (flat (m + 1) ((0, []), [])).length = 1 from rfl]
  omega
/-- The reader and the boxes: from w the reader's world U, in which z is the answer's box. -/
structure PtW (w U : World) (q z : Nat) (c : List UInt8) : Prop where
  rd : RdS w U q c
  qlt : q < w.heap.size
  zle : w.heap.size ≤ z
  box : U.heap[z]? = some (.cells #[.int .i64 0, .string ⟨#[]⟩, .slice none 0 0] 24 (0, 0))
theorem PtW.step {w U U' : World} {q z : Nat} {c c' : List UInt8} (h : PtW w U q z c) (h1 : RdS U U' q c') : PtW w U' q z c' :=
  ⟨h.rd.trans h1, h.qlt, h.zle, (h1.grow.block z (lt_of_heap h.box) (by intro e; have := Option.some.inj e; have := h.qlt; have := h.zle; omega)).trans h.box⟩
theorem RdS.undrew {w w' : World} {q : Nat} {l : List UInt8} (h : RdS w.drew w' q l) : RdS w w' q l := ⟨⟨h.grow.os, h.grow.tape, h.grow.output, h.grow.size, h.grow.block⟩, h.at'⟩
theorem rd_alloc {w : World} {q : Nat} {c : List UInt8} (h : RdAt w q c) (o : Obj) : RdS w (w.alloc o) q c := by
  have hb := (Below.refl w.heap.size w).alloc (Nat.le_refl _) o
  exact ⟨⟨hb.os, hb.tape, hb.output, hb.size, fun k hk _ => hb.block k hk⟩, (hb.block q (lt_of_heap h)).trans h⟩
/-- The answer, put into its box. -/
theorem PtW.put {w U : World} {q z : Nat} {c : List UInt8} (h : PtW w U q z c) (a b d : Value) : ∃ W, W = ((U.setCell ⟨z, 0, none⟩ a).setCell ⟨z, 1, none⟩ b).setCell ⟨z, 2, none⟩ d ∧ W.heap[z]? = some (.cells #[a, b, d] 24 (0, 0)) ∧ RdS w W q c ∧ (∀ g, g ≠ z → W.heap[g]? = U.heap[g]?) ∧ W.heap.size = U.heap.size := by
  obtain ⟨W, hW, k1, k2, k3, k4⟩ := store3 h.box a b d
  have h1 := h.qlt
  have h2 := h.zle
  refine ⟨W, hW, k1, ⟨⟨k4.os.trans h.rd.grow.os, k4.tape.trans h.rd.grow.tape, k4.output.trans h.rd.grow.output, by rw [k3]; exact h.rd.grow.size, fun g hg hne => ?_⟩, ?_⟩, k2, k3⟩
  · rw [k2 g (by omega)]
    exact h.rd.grow.block g hg hne
  · show W.heap[q]? = _
    rw [k2 q (by omega)]
    exact h.rd.at'
/-- A box beside the answer's is written. -/
theorem PtW.beside {w U V : World} {q z y : Nat} {c : List UInt8} (h : PtW w U q z c) (hzy : z < y) (hs : U.heap.size ≤ V.heap.size) (ho : V.os = U.os ∧ V.tape = U.tape ∧ V.output = U.output) (hb : ∀ g, g ≠ y → g < U.heap.size → V.heap[g]? = U.heap[g]?) : PtW w V q z c := by
  have hq := h.qlt
  have hz := h.zle
  refine ⟨⟨⟨ho.1.trans h.rd.grow.os, ho.2.1.trans h.rd.grow.tape, ho.2.2.trans h.rd.grow.output, Nat.le_trans h.rd.grow.size hs, fun g hg hne => ?_⟩, ?_⟩, hq, hz, ?_⟩
  · rw [hb g (by omega) (Nat.lt_of_lt_of_le hg h.rd.grow.size)]
    exact h.rd.grow.block g hg hne
  · show V.heap[q]? = _
    rw [hb q (by omega) (lt_of_heap h.rd.at')]
    exact h.rd.at'
  · rw [hb z (by omega) (lt_of_heap h.box)]
    exact h.box
/-- A function's row, and the box that leads to it. -/
theorem fun_row {w w4 : World} {q z y lo1 lo2 m : Nat} {r2 : List UInt8} {a b c : Value} (P4 : PtW w w4 q z r2) (hzy : z < y) (hy4 : w4.heap[y]? = some (.cells #[a, b, c] 24 (0, 0))) (e1 e2 : El) {t1 t2 : Tn m} {rws1 rws2 : List (Value × Nat)} (h1 : TyO w4 lo1 m (elV e1) t1 rws1) (s1 : SepB lo1 y rws1) (h2 : TyO w4 lo2 m (elV e2) t2 rws2) (s2 : SepB lo2 w4.heap.size rws2) (hl1 : z + 1 ≤ lo1) (hl1y : lo1 ≤ y) (hl2 : y < lo2) :
    ∃ V, V = (((w4.setCell ⟨y, 0, none⟩ (.int .i64 3)).setCell ⟨y, 1, none⟩ (.string ⟨#[]⟩)).setCell ⟨y, 2, none⟩ (.slice (some ⟨w4.heap.size, 0, none⟩) 2 2)).alloc (Obj.cells #[.int .i64 e1.1, .string e1.2.1, e1.2.2, .int .i64 e2.1, .string e2.2.1, e2.2.2] 24) ∧ PtW w V q z r2 ∧ V.heap[y]? = some (.cells #[.int .i64 3, .string ⟨#[]⟩, .slice (some ⟨w4.heap.size, 0, none⟩) 2 2] 24 (0, 0)) ∧ RowO V (z + 1) m (.slice (some ⟨w4.heap.size, 0, none⟩) 2 2) [e1, e2] [t1, t2] [rws1, rws2] := by
  obtain ⟨V0, hV0, k1, k2, k3, k4⟩ := store3 hy4 (.int .i64 3) (.string ⟨#[]⟩) (.slice (some ⟨w4.heap.size, 0, none⟩) 2 2)
  have hyl := lt_of_heap hy4
  generalize hO : Obj.cells #[.int .i64 e1.1, .string e1.2.1, e1.2.2, .int .i64 e2.1, .string e2.2.1, e2.2.2] 24 = O
  rw [← hV0]
  have hb := (Below.refl V0.heap.size V0).alloc (Nat.le_refl _) O
  have kb : ∀ g, g ≠ y → g < w4.heap.size → (V0.alloc O).heap[g]? = w4.heap[g]? := fun g hg hlt => by
    rw [hb.block g (by omega), k2 g hg]
  have hsV : (V0.alloc O).heap.size = w4.heap.size + 1 := by simp [k3]
  refine ⟨_, rfl, P4.beside hzy (by omega) ⟨hb.os.trans k4.os, hb.tape.trans k4.tape, hb.output.trans k4.output⟩ kb, ?_, ?_⟩
  · rw [hb.block y (by omega)]
    exact k1
  · have kp1 : ∀ p ∈ rws1, ∀ g, p.1.ownBlock = some g → (V0.alloc O).heap[g]? = w4.heap[g]? := fun p hp g hg => by
      obtain ⟨g', e, q1, q2⟩ := s1.1 p hp
      rw [hg] at e
      have := Option.some.inj e
      exact kb g (by omega) (by omega)
    have kp2 : ∀ p ∈ rws2, ∀ g, p.1.ownBlock = some g → (V0.alloc O).heap[g]? = w4.heap[g]? := fun p hp g hg => by
      obtain ⟨g', e, q1, q2⟩ := s2.1 p hp
      rw [hg] at e
      have := Option.some.inj e
      exact kb g (by omega) (by omega)
    have sep : SepB lo1 w4.heap.size (rws1 ++ rws2) := s1.append s2 (by omega) (by omega) (by omega)
    have hfl : [rws1, rws2].flatten = rws1 ++ rws2 := by simp
    refine ⟨?_, rfl, rfl, fun j a b c => ?_, ?_, ?_⟩
    · have := World.ownsRow_lit (base := z + 1) (e := 24) (size := 3) V0 #[.int .i64 e1.1, .string e1.2.1, e1.2.2, .int .i64 e2.1, .string e2.2.1, e2.2.2] 2 (by omega) (by decide) rfl
      rw [hO, k3] at this
      exact this
    · match j with
      | 0 => exact TyO.mono hl1 _ _ _ _ (TyO.on _ _ _ _ kp1 h1)
      | 1 => exact TyO.mono (by omega) _ _ _ _ (TyO.on _ _ _ _ kp2 h2)
    · rw [hfl]
      exact ⟨fun p hp => by
        obtain ⟨g, e, q1, q2⟩ := sep.1 p hp
        exact ⟨g, e, by omega, by omega⟩, sep.2⟩
    · rw [hfl]
      intro p hp e0
      obtain ⟨g, e, q1, q2⟩ := sep.1 p hp
      rw [e] at e0
      have := Option.some.inj e0
      simp at this
      omega
theorem RowO.mono {w : World} {lo lo' d : Nat} {v : Value} {es : List El} {ts : List (Tn d)} {rss : List (List (Value × Nat))} (h : RowO w lo' d v es ts rss) (hl : lo ≤ lo') : RowO w lo d v es ts rss :=
  ⟨h.own.mono hl, h.len, h.rlen, fun j a b c => TyO.mono hl _ _ _ _ (h.each j a b c), ⟨fun p hp => by
    obtain ⟨g, e, q1, q2⟩ := h.sep.1 p hp
    exact ⟨g, e, by omega, q2⟩, h.sep.2⟩, h.away⟩
/-- The third cell of a box. -/
theorem store_last {U : World} {z : Nat} {x y u : Value} {t : TypeId} (h : U.heap[z]? = some (.cells #[x, y, u] t (0, 0))) (c : Value) : ∃ W, W = U.setCell ⟨z, 2, none⟩ c ∧ W.heap[z]? = some (.cells #[x, y, c] t (0, 0)) ∧ (∀ g, g ≠ z → W.heap[g]? = U.heap[g]?) ∧ W.heap.size = U.heap.size ∧ Below z U W := by
  refine ⟨_, rfl, (setCell_block h).trans rfl, fun g hg => Below.heap_setCell _ _ _ _ hg, by simp [World.setCell], (Below.refl z U).setCell (Nat.le_refl _) c⟩
/-- Ahead of the closing bracket: the box y leads to a row, and what it would be. -/
def TailW (w wc : World) (q z y : Nat) (l1 : List UInt8) (m : Nat) : Prop :=
  ∃ (k : Int) (n : List UInt8) (ad : Option Addr) (cap : Nat) (es : List El) (ts : List (Tn m)) (rss : List (List (Value × Nat))) (c : List UInt8), PtW w wc q z c ∧ wc.heap[y]? = some (.cells #[.int .i64 k, .string ⟨n.toArray⟩, .slice ad ts.length cap] 24 (0, 0)) ∧ RowO wc (z + 1) m (.slice ad ts.length cap) es ts rss ∧ n.length < 140737488355328 ∧ c.length + (flats m ts).length ≤ l1.length + 2 ∧ c.length ≤ l1.length + 1 ∧
    (ts ≠ [] → ∀ r, c = 41 :: r → PartOk (40 :: l1) (m + 1) ((k, n), ts) r) ∧ ((ts = [] ∨ begB [41] c = false) → PartOk (40 :: l1) (m + 1) ((0, []), []) c)
/-- The answer is a tree whose arguments are such a row. -/
theorem part_tree {w W : World} {q : Nat} {l l' : List UInt8} {m : Nat} {k : Int} {n : List UInt8} {ad : Option Addr} {cap : Nat} {es : List El} {ts : List (Tn m)} {rss : List (List (Value × Nat))} (hr : RdS w W q l') (hR : RowO W (w.heap.size + 1) m (.slice ad ts.length cap) es ts rss) (h0 : ts ≠ []) (hn : n.length < 140737488355328) (hp : PartOk l (m + 1) ((k, n), ts) l') (hnum : l'.length + (flats m ts).length ≤ l.length) (hl6 : l.length ≤ 65536) :
    PartPost w q l (m + 1) (.returned (.agg #[.int .i64 k, .string ⟨n.toArray⟩, .slice ad ts.length cap])) W := by
  have hfp := flats_pos m ts
  obtain ⟨h1, h2⟩ := hR.tree h0 k n hn (by omega)
  refine ⟨k, ⟨n.toArray⟩, ad, ts.length, cap, ((k, n), ts), _, l', rfl, hr, hp, ?_, by omega, TyO.mono (by omega) _ _ _ _ h1, ⟨fun p hp => ?_, h2.2⟩⟩
  · rw [flat_succ, List.length_cons]
    omega
  · obtain ⟨g, e, q1, q2⟩ := h2.1 p hp
    exact ⟨g, e, by omega, q2⟩
end Go.Proofs.YtgdflaapgfpdeaaGreatDoor

namespace Go.Proofs.YtgdflaapgfpdeaaGreatDoor
open Go.RowKit

theorem own_count {w : World} {lo : Nat} : ∀ (d : Nat) (x : Value) (t : Tn d) (rws : List (Value × Nat)), TyO w lo d x t rws → rws.length ≤ (flat d t).length ∧ (formB d t = true → ∀ p ∈ rws, p.2 ≤ 6)
  | 0, _, t, _, _ => t.elim
  | d + 1, x, ((k, n), ts), rws, ⟨v, hx, h1, h2, h⟩ => by
    rcases h with ⟨h0, _, rfl⟩ | ⟨h0, es, rss, k1, k2, hown, rfl, hj⟩
    · exact ⟨by simp, fun _ p hp => by simp at hp⟩
    · have k1 : es.length = ts.length := k1
      have k2 : rss.length = ts.length := k2
      have hall : ∀ j (h : j < ts.length) (h' : j < rss.length), rss[j].length ≤ (flat d ts[j]).length ∧ (formB d ts[j] = true → ∀ p ∈ rss[j], p.2 ≤ 6) := fun j h h' => own_count d _ _ _ (hj j h (by rw [k1]; exact h) h')
      have key : ∀ (ts : List (Tn d)) (rss : List (List (Value × Nat))), rss.length = ts.length → (∀ j (h : j < ts.length) (h' : j < rss.length), rss[j].length ≤ (flat d ts[j]).length ∧ (formB d ts[j] = true → ∀ p ∈ rss[j], p.2 ≤ 6)) → rss.flatten.length ≤ (flats d ts).length ∧ ((∀ a ∈ ts, formB d a = true) → ∀ p ∈ rss.flatten, p.2 ≤ 6) := by
        intro ts
        induction ts with
        | nil =>
          intro rss hl _
          have : rss = [] := List.length_eq_zero_iff.1 hl
          subst this
          simp
        | cons t ts ih =>
          intro rss hl hh
          cases rss with
          | nil => simp at hl
          | cons r rss =>
            obtain ⟨i1, i2⟩ := ih rss (by simpa using hl) fun j h h' => by
              have := hh (j + 1) (by simpa using h) (by simpa using h')
              simpa using this
            obtain ⟨j1, j2⟩ := hh 0 (by simp) (by simp)
            have j1 : r.length ≤ (flat d t).length := j1
            rw [flats_cons, List.length_append, List.flatten_cons, List.length_append]
            refine ⟨by omega, fun hF p hp => ?_⟩
            rcases List.mem_append.1 hp with hp | hp
            · exact j2 (hF t (by simp)) p hp
            · exact i2 (fun a ha => hF a (by simp [ha])) p hp
      obtain ⟨i1, i2⟩ := key ts rss k2 hall
      refine ⟨by rw [flat_succ, List.length_cons, List.length_cons]; omega, fun hF p hp => ?_⟩
      rw [form_succ] at hF
      simp only [Bool.and_eq_true, List.all_eq_true] at hF
      rcases List.mem_cons.1 hp with rfl | hp
      · show ts.length ≤ 6
        have := hF.1
        unfold okB at this
        split at this
        · simp only [Bool.and_eq_true, decide_eq_true_eq] at this; omega
        · split at this
          · simp only [Bool.and_eq_true, decide_eq_true_eq] at this; omega
          · split at this
            · simp only [Bool.and_eq_true, decide_eq_true_eq] at this; omega
            · split at this
              · simp only [Bool.and_eq_true, decide_eq_true_eq] at this; omega
              · cases this
      · exact i2 hF.2 p hp
/-- What Read says of a text whose reading is known. -/
theorem rel_part {l r : List UInt8} {m : Nat} {t : Tn m} (h6 : l.length ≤ 65536) (h : PartOk l m t r) :
    ((r ≠ [] ∨ wrongT m t = 53) → RelR l 52 [(0, [], 0)]) ∧ (r = [] → wrongT m t = 4 → RelR l 4 [(0, [], 0)]) ∧ (r = [] → wrongT m t = 0 → RelR l 0 (flat m t)) := by
  refine ⟨fun h0 => .inr ⟨by decide, rfl, .inr (.inr ⟨h6, fun d u hu he => ?_, rfl⟩)⟩, fun h0 h1 => ?_, fun h0 h1 => ?_⟩
  · obtain ⟨f1, f2⟩ := h.compl d u [] hu (by rw [he, List.append_nil]) fun _ => ends_nil
    rcases h0 with h0 | h0
    · exact h0 f2
    · unfold wrongT at h0
      rw [if_pos f1] at h0
      split at h0 <;> cases h0
  · have hF : formB m t = true ∧ 500 < (flat m t).length := by
      unfold wrongT at h1
      split at h1
      · rename_i hf
        split at h1
        · exact ⟨hf, by assumption⟩
        · cases h1
      · cases h1
    have := (h.sound hF.1).1
    rw [h0, List.append_nil] at this
    exact .inr ⟨by decide, rfl, .inr (.inl ⟨h6, ⟨m, t, hF.1, this.symm, hF.2⟩, rfl⟩)⟩
  · obtain ⟨f1, f2⟩ := wrong_zero h1
    have := (h.sound f1).1
    rw [h0, List.append_nil] at this
    exact .inl ⟨rfl, h6, m, t, f1, this.symm, f2, rfl⟩
theorem read_zero {w W : World} {l : List UInt8} {e : Int} (hb : Below w.heap.size w W) (h : RelR l e [(0, [], 0)]) : ReadPostO w l (.returned (.tuple #[.agg #[.int .i64 0, .string ⟨#[]⟩, .slice none 0 0], .int .i64 e])) W :=
  ⟨hb, 0, ⟨#[]⟩, none, 0, 0, e, 1, ((0, []), []), [], rfl, ⟨.slice none 0 0, rfl, by simp, by simp, .inl ⟨rfl, ⟨none, 0, rfl⟩, rfl⟩⟩, ⟨fun p hp => by simp at hp, by simp⟩, by simp, fun p hp => by simp at hp, by rw [flat_succ, flats_nil]; exact h⟩
end Go.Proofs.YtgdflaapgfpdeaaGreatDoor
