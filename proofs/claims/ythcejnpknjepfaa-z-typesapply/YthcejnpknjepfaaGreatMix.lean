/- The reference's reading of a type: contract of rest, over that of read. The reference's reading of a type: contract of read. The reference's Read answers as the document says. -/
import Derived.Test.YthcejnpknjepfaaGreatMdx
import Derived.Test.YthcejnpknjepfaaGreatOw
import Derived.Test.YthcejnpknjepfaaGreatMhx
import Derived.Test.YthcejnpknjepfaaGreatBk
namespace Go.Proofs.YthcejnpknjepfaaGreat
open Go.RowKit

/-- A type was read: it is the text's beginning. -/
def RdOk (w w' : World) (l : List UInt8) (k m : Nat) (x : Value) (n : Int) : Prop := ∃ (t : Tn m) (r : List UInt8), formB m t = true ∧ l = textT m t ++ r ∧ (Leaf m t → Ends r) ∧ n = (k + (textT m t).length : Nat) ∧ TyS w' (fun g => w.heap.size ≤ g ∧ g < w'.heap.size) m x t
/-- No type is the text's beginning. -/
def RdNo (l : List UInt8) : Prop := ∀ d (t : Tn d) r, formB d t = true → l = textT d t ++ r → (Leaf d t → Ends r) → False
def RdPost (w : World) (l : List UInt8) (k m : Nat) (r : Ending) (w' : World) : Prop :=
  Below w.heap.size w w' ∧ ∃ (kd : Int) (nm : ByteArray) (ad : Option Addr) (len cap : Nat) (n : Int) (ok : Bool), r = .returned (.tuple #[.agg #[.int .i64 kd, .string nm, .slice ad len cap], .int .i64 n, .bool ok]) ∧
    ((ok = true ∧ RdOk w w' l k m (.agg #[.int .i64 kd, .string nm, .slice ad len cap]) n) ∨ (ok = false ∧ RdNo l))
/-- The arguments of a data type were read, and the bracket behind them. -/
def RtOk (w w' : World) (l name : List UInt8) (k m : Nat) (x : Value) (n : Int) : Prop := ∃ (ts : List (Tn m)) (r : List UInt8), ts ≠ [] ∧ ts.length ≤ 6 ∧ (∀ a ∈ ts, formB m a = true) ∧ l = argsT m ts ++ 41 :: r ∧ n = (k + (argsT m ts).length + 1 : Nat) ∧ TyS w' (fun g => w.heap.size ≤ g ∧ g < w'.heap.size) (m + 1) x ((4, name), ts)
def RtNo (l : List UInt8) : Prop := ∀ d (ts : List (Tn d)) r, ts ≠ [] → ts.length ≤ 6 → (∀ a ∈ ts, formB d a = true) → l = argsT d ts ++ 41 :: r → False
def RtPost (w : World) (l name : List UInt8) (k m : Nat) (r : Ending) (w' : World) : Prop :=
  Below w.heap.size w w' ∧ ∃ (kd : Int) (nm : ByteArray) (ad : Option Addr) (len cap : Nat) (n : Int) (ok : Bool), r = .returned (.tuple #[.agg #[.int .i64 kd, .string nm, .slice ad len cap], .int .i64 n, .bool ok]) ∧
    ((ok = true ∧ RtOk w w' l name k m (.agg #[.int .i64 kd, .string nm, .slice ad len cap]) n) ∨ (ok = false ∧ RtNo l))
/-- Between the rounds of rest: what was read so far. -/
structure RtW (w wr : World) (z m k k' : Nat) (s : ByteArray) (name : List UInt8) (v : Value) (es : List El) (ts : List (Tn m)) : Prop where
  bel : Below z w wr
  res : wr.heap[z]? = some (.cells #[.int .i64 0, .string ⟨#[]⟩, .slice none 0 0] 25 (0, 0))
  box : wr.heap[z + 1]? = some (.cells #[.int .i64 4, .string ⟨name.toArray⟩, v] 25 (0, 0))
  row : RowM wr (z + 2) m v es ts
  le : k ≤ k' ∧ k' ≤ s.size
  txt : rs s k = argsT m ts ++ rs s k' ∧ k' = k + (argsT m ts).length
  frm : ∀ a ∈ ts, formB m a = true
  inv : ∀ d (us : List (Tn d)) r, (∀ a ∈ us, formB d a = true) → rs s k = argsT d us ++ 41 :: r → ∃ vs : List (Tn d), (∀ a ∈ vs, formB d a = true) ∧ rs s k' = argsT d vs ++ 41 :: r ∧ us.length = ts.length + vs.length
theorem heap_lt {w : World} {b : Nat} {o : Obj} (h : w.heap[b]? = some o) : b < w.heap.size := by
  rcases Nat.lt_or_ge b w.heap.size with hlt | hge
  · exact hlt
  · rw [Array.getElem?_eq_none hge] at h; cases h
theorem args_long {d : Nat} : ∀ ts : List (Tn d), ts.length ≤ (argsT d ts).length
  | [] => by simp
  | t :: ts => by
    have := args_long ts
    rw [argsT_cons]
    simp
    omega
theorem argsT_snoc {d : Nat} (ts : List (Tn d)) (t : Tn d) : argsT d (ts ++ [t]) = argsT d ts ++ 32 :: textT d t := by simp [argsT]
/-- One argument more was read, and laid behind the others. -/
theorem RtW.more {w wr w1 U w5 : World} {z m k k' : Nat} {s : ByteArray} {name : List UInt8} {v : Value} {es : List El} {ts : List (Tn m)} (T : RtW w wr z m k k' s name v es ts) {kd : Int} {nm : ByteArray} {ad : Option Addr} {len cap : Nat} {n : Int}
    (hb : begB [32] (rs s k') = true) (hb1 : Below wr.heap.size wr w1) (R : RdOk wr w1 (rs s (k' + 1)) (k' + 1) m (.agg #[.int .i64 kd, .string nm, .slice ad len cap]) n) {o o' : Obj} (hU : U = w1.alloc o) {g cap' : Nat}
    (hown : w5.ownsRow (z + 2) 25 3 (.slice (some ⟨g, 0, none⟩) (es.length + 1) cap') (es.length + 1) (es.flatMap elCells ++ [.int .i64 kd, .string nm, .slice ad len cap])) (hg : (U.alloc o').grownBy w5 v.ownBlock) (hat : v.ownBlock = some g ∨ g = U.heap.size + 1) :
    ∃ k2 t, n = (k2 : Nat) ∧ k' < k2 ∧ k2 ≤ s.size ∧ RtW w (w5.setCell ⟨z + 1, 2, none⟩ (.slice (some ⟨g, 0, none⟩) (es.length + 1) cap')) z m k k2 s name (.slice (some ⟨g, 0, none⟩) (es.length + 1) cap') (es ++ [(kd, nm, .slice ad len cap)]) (ts ++ [t]) := by
  obtain ⟨t, r, hf, hl, hE, hn, hT⟩ := R
  obtain ⟨q, hq⟩ := beg_one hb
  have hlen : (rs s k').length = s.size - k' := rs_len s k'
  have hlt : k' < s.size := by rw [hq] at hlen; simp at hlen; omega
  have hc := rs_cons hlt
  have h32 : rs s k' = 32 :: rs s (k' + 1) := by
    rw [hc] at hq ⊢
    rw [(List.cons.inj hq).1]
  have hrs : rs s (k' + 1 + (textT m t).length) = r := by
    rw [← rs_drop, hl, List.drop_left]
  have hle : k' + 1 + (textT m t).length ≤ s.size := by
    have h1 := rs_len s (k' + 1)
    rw [hl] at h1
    simp at h1
    omega
  have hz := heap_lt T.box
  have hz2 : z + 2 ≤ wr.heap.size := by omega
  have hU1 : U.heap.size = w1.heap.size + 1 := by rw [hU]; simp
  have hbU : Below wr.heap.size wr U := by rw [hU]; exact hb1.alloc hb1.size o
  have hUz : wr.heap.size ≤ U.heap.size := hbU.size
  have rowU : RowM U (z + 2) m v es ts := T.row.on hUz fun g _ hlt => hbU.block g hlt
  have ownlt : ∀ k, v.ownBlock = some k → z + 2 ≤ k ∧ k < wr.heap.size := fun k hk => T.row.own.lt k hk
  have heU : TyS U (fun g => z + 2 ≤ g ∧ g < U.heap.size ∧ v.ownBlock ≠ some g) m (elV (kd, nm, .slice ad len cap)) t := by
    refine TyS.on (S := fun g => wr.heap.size ≤ g ∧ g < w1.heap.size) (fun g q => ⟨by omega, by omega, ?side⟩) (fun g q => ?keep) m _ t hT
    case side =>
      intro e
      have := (ownlt g e).2
      omega
    case keep =>
      rw [hU]
      exact Below.heap_alloc _ _ _ q.2
  have row5 := rowU.snoc (e := (kd, nm, .slice ad len cap)) (t := t) (o := o') heU (v' := .slice (some ⟨g, 0, none⟩) (es.length + 1) cap') hown hg (by
    rcases hat with h | h
    · exact .inl h.symm
    · exact .inr ⟨g, rfl, by omega⟩)
  have h5 : ∀ b, b < z + 2 → w5.heap[b]? = wr.heap[b]? := fun b hb => by
    rw [hg.block b (by simp; omega) (fun e => by have := (ownlt b e.symm).1; omega), Below.heap_alloc _ _ _ (by omega)]
    exact hbU.block b (by omega)
  have h5s : U.heap.size + 1 ≤ w5.heap.size := by have := hg.size; simp at this; omega
  refine ⟨k' + 1 + (textT m t).length, t, hn, by omega, hle, ?_⟩
  have hrow6 : RowM (w5.setCell ⟨z + 1, 2, none⟩ (.slice (some ⟨g, 0, none⟩) (es.length + 1) cap')) (z + 2) m (.slice (some ⟨g, 0, none⟩) (es.length + 1) cap') (es ++ [(kd, nm, .slice ad len cap)]) (ts ++ [t]) :=
    row5.on (by simp [World.setCell]) fun b hb _ => Below.heap_setCell _ _ _ _ (by show b ≠ z + 1; omega)
  refine ⟨?_, ?_, ?_, hrow6, ⟨by have := T.le; omega, hle⟩, ⟨?_, ?_⟩, ?_, ?_⟩
  · have : Below z w w5 := by
      refine T.bel.trans ⟨?_, ?_, ?_, ?_, fun b hb => h5 b (by omega)⟩
      · rw [hg.os, hU]; exact hb1.os
      · rw [hg.tape, hU]; exact hb1.tape
      · rw [hg.output, hU]; exact hb1.output
      · omega
    exact this.setCell (by show z ≤ z + 1; omega) _
  · rw [Below.heap_setCell _ _ _ _ (by show z ≠ z + 1; omega), h5 z (by omega)]
    exact T.res
  · have hb5 : w5.heap[z + 1]? = some (.cells #[.int .i64 4, .string ⟨name.toArray⟩, v] 25 (0, 0)) := (h5 (z + 1) (by omega)).trans T.box
    exact (setCell_block hb5).trans rfl
  · rw [argsT_snoc, hrs, T.txt.1, h32, hl]
    simp
  · rw [argsT_snoc, List.length_append, List.length_cons, T.txt.2]
    omega
  · intro a ha
    rcases List.mem_append.1 ha with ha | ha
    · exact T.frm a ha
    · rw [List.mem_singleton.1 ha]; exact hf
  · intro d us r' h1 h2
    obtain ⟨vs, f1, f2, f3⟩ := T.inv d us r' h1 h2
    rw [h32] at f2
    obtain ⟨xs, g1, g2, g3⟩ := args_step hl hf hE f1 f2
    exact ⟨xs, g1, by rw [hrs]; exact g2, by rw [f3, g3, List.length_append]; simp; omega⟩
set_option maxHeartbeats 8000000 in
set_option maxRecDepth 10000 in
theorem rest_any (m : Nat) (IH : ∀ (s : ByteArray) (k : Nat) (w : World), s.size ≤ 65536 → k ≤ s.size → s.size - k < m → Calls Tryz.prog 28 #[.string s, .int .i64 k] w (RdPost w (rs s k) k m))
    (s : ByteArray) (k : Nat) (name : List UInt8) (w : World) (hs : s.size ≤ 65536) (hk : k ≤ s.size) (hm : s.size - k ≤ m) (hn : name.length ≤ 65536) :
    Calls Tryz.prog 52 #[.string s, .int .i64 k, strV name] w (RtPost w (rs s k) name k m) := by
  have T0 : RtW w ((w.alloc (Obj.cells #[.int .i64 0, .string ⟨#[]⟩, .slice none 0 0] 25)).alloc (Obj.cells #[.int .i64 4, .string ⟨name.toArray⟩, .slice none 0 0] 25)) w.heap.size m k k s name (.slice none 0 0) [] [] := by
    refine ⟨((Below.refl _ _).alloc (Nat.le_refl _) _).alloc (by simp) _, ?_, ?_, RowM.nil _ _ _, ⟨Nat.le_refl _, hk⟩, ⟨rfl, rfl⟩, by simp, fun d us r h1 h2 => ⟨us, h1, h2, by simp⟩⟩
    · rw [Below.heap_alloc _ _ _ (by simp)]
      show (w.heap.push _)[w.heap.size]? = _
      simp
    · show ((w.heap.push _).push _)[w.heap.size + 1]? = _
      rw [Array.getElem?_push, if_pos (by simp)]
  have BG := fun (k : Nat) (hk : k ≤ s.size) (c : List UInt8) (hc : c.length ≤ 10) W => ref_begins s ⟨c.toArray⟩ k W hs hk (by show c.toArray.size ≤ 10; simpa using hc)
  go_enter Tryz.func52, Tryz.ntmps52
  go_wp2
  generalize hz : w.heap.size = z at T0 ⊢
  have HZ : Hid (w.heap.size = z) := hz
  generalize (w.alloc (Obj.cells #[.int .i64 0, .string ⟨#[]⟩, .slice none 0 0] 25)).alloc (Obj.cells #[.int .i64 4, .string ⟨name.toArray⟩, .slice none 0 0] 25) = W0 at T0 ⊢
  obtain ⟨i0, hi, hz0, hz1, hz2⟩ := info_parts Tryz.info25
  clear hz
  go_loopw [1] (fun a wr => ∃ (k' : Nat) (v : Value) (es : List El) (ts : List (Tn m)), a = .int .i64 k' ∧ Hid (RtW w wr z m k k' s name v es ts)) (fun a _ => s.size - (intOf a).toNat)
  case atStart => exact ⟨k, _, _, _, by go_num, T0⟩
  case round =>
    obtain ⟨k', v, es, ts, rfl, HT⟩ := hrel
    have T := HT.out
    obtain ⟨x0, x1, x2⟩ := heap_cells T.box
    have fz := heap_frozen (o := 2) T.box
    have hkk := T.le
    have B1 := BG k' hkk.2 [32] (by simp) wr
    have hbz := heap_lt T.box
    obtain ⟨ad, cap, rfl⟩ : ∃ ad cap, v = .slice ad es.length cap := by
      rcases T.row.own.2 with ⟨h1, h2⟩ | ⟨g', cap', cur, h1, _⟩
      · exact ⟨none, 0, by rw [h1, h2]⟩
      · exact ⟨_, _, h1⟩
    have hel : es.length ≤ 65536 := by
      have h1 := args_long ts
      have h2 := T.txt.2
      have h3 := T.row.len
      omega
    cases hb : begB [32] (rs s k') with
    | true =>
      rw [hb] at B1
      have hlt : k' < s.size := by
        obtain ⟨q, hq⟩ := beg_one hb
        have := rs_len s k'
        rw [hq] at this
        simp at this
        omega
      have R1 := IH s (k' + 1) wr hs (by omega) (by omega)
      have HB : Hid (begB [32] (rs s k') = true) := hb
      have e1 : ((k' + 1 : Nat) : Int) = (k' : Int) + 1 := by omega
      rw [e1] at R1
      clear IH BG hb T0
      go_upto_region 5 with (first
        | (go_at_call 48; (with_reducible refine Calls.mono B1 ?_); rintro e' w' ⟨rfl, hw'⟩; rw [hw']; clear hw' w')
        | (go_at_call 28; (with_reducible refine Calls.mono R1 ?_); intro e' w1 hpost; obtain ⟨hb1, kd, nm, ad1, len1, cap1, n1, ok, rfl, hcase⟩ := hpost))
      obtain ⟨U, hU, hbU, hsU, u0, u1, u2⟩ := cells_box w1 (.int .i64 kd) (.string nm) (.slice ad1 len1 cap1) 25
      rw [← hU]
      have HUe : Hid (U = w1.alloc (Obj.cells #[.int .i64 kd, .string nm, .slice ad1 len1 cap1] 25)) := hU
      have hbU2 : Below wr.heap.size wr U := hb1.trans (hbU.mono hb1.size)
      have y0 := (hbU2.cell (p := ⟨z + 1, 0, none⟩) hbz).trans x0
      have y1 := (hbU2.cell (p := ⟨z + 1, 1, none⟩) hbz).trans x1
      have y2 := (hbU2.cell (p := ⟨z + 1, 2, none⟩) hbz).trans x2
      have hzU : z + 2 ≤ U.heap.size := by have := hbU2.size; omega
      have HS1 : Hid (U.heap.size = w1.heap.size + 1) := hsU
      generalize hq1 : w1.heap.size = q1 at u0 u1 u2 ⊢
      have HQ1 : Hid (w1.heap.size = q1) := hq1
      have hq1U : q1 < U.heap.size := by omega
      clear hU hsU hq1 B1 R1 x0 x1 x2 fz
      rcases hcase with ⟨rfl, hok⟩ | ⟨rfl, hno⟩
      · have HO : Hid (RdOk wr w1 (rs s (k' + 1)) (k' + 1) m (.agg #[.int .i64 kd, .string nm, .slice ad1 len1 cap1]) n1) := hok
        have HB1 : Hid (Below wr.heap.size wr w1) := hb1
        have ownU : U.ownsRow (z + 2) 25 3 (.slice ad es.length cap) es.length (es.flatMap elCells) := (T.row.on hbU2.size fun g _ hlt => hbU2.block g hlt).own
        have boxU : U.heap[z + 1]? = some (.cells #[.int .i64 4, .string ⟨name.toArray⟩, .slice ad es.length cap] 25 (0, 0)) := (hbU2.block (z + 1) hbz).trans T.box
        clear hok hb1 hbU hbU2 T
        go_wp2_with (at_builtin; refine wpList_append_lies _ rfl _ _ 23 rfl (z + 2) 25 i0 _ 3 48 Tryz.underlying23 hi hz0 hz1 hz2 rfl (by decide) (.slice ad es.length cap) es.length (es.flatMap elCells) rfl (ownU.alloc _) ⟨U.heap.size, 0, none⟩ 1 1 [.int .i64 kd, .string nm, .slice ad1 len1 cap1] rfl rfl (World.news_of_block (cs := #[.int .i64 kd, .string nm, .slice ad1 len1 cap1]) (t := 25) (fr := (0, 0)) (heap_alloc_new U _)) (by simp [Value.oneCell']) (by omega) (by unfold maxLen; omega) (by omega) (by simp; omega) (U.heap.size + 1) (by simp) ?_; intro g cap' w5 hown1 hgrow hat hlt5; have b5 : w5.heap[z + 1]? = some (.cells #[.int .i64 4, .string ⟨name.toArray⟩, .slice ad es.length cap] 25 (0, 0)) := (hgrow.block (z + 1) (by simp; omega) (fun e => by have := (ownU.lt _ e.symm).1; omega)).trans ((Below.heap_alloc _ _ _ (by omega)).trans boxU); have c5 := (heap_cells b5).2.2; have f5 := heap_frozen (o := 2) b5)
        obtain ⟨k2, t2, rfl, hk2, hk3, T2⟩ := HT.out.more HB.out HB1.out HO.out HUe.out hown1 hgrow (by simpa using hat)
        go_roundw
        case rel => exact ⟨k2, _, _, _, rfl, T2⟩
        case measure => simp [intOf]; omega
      · have resU : U.heap[z]? = some (.cells #[.int .i64 0, .string ⟨#[]⟩, .slice none 0 0] 25 (0, 0)) := (hbU2.block z (by omega)).trans T.res
        have HN : Hid (RtNo (rs s k)) := by
          intro d us r h0 h6 hf hl
          obtain ⟨vs, f1, f2, f3⟩ := T.inv d us r hf hl
          obtain ⟨q, hq⟩ := beg_one HB.out
          have h32 : rs s k' = 32 :: rs s (k' + 1) := by
            rw [rs_cons hlt] at hq ⊢
            rw [(List.cons.inj hq).1]
          rw [h32] at f2
          exact args_fail hno f1 f2
        have HBel : Hid (Below z w U) := T.bel.trans (hbU2.mono (by omega))
        obtain ⟨r0, r1, r2⟩ := heap_cells resU
        have g0 := heap_frozen (o := 0) resU
        have g1 := heap_frozen (o := 1) resU
        have g2 := heap_frozen (o := 2) resU
        clear hno T hbU2 hb1 hbU
        go_wp2
        obtain ⟨W', hW', hz', hoth, hsz, hbz'⟩ := store3 resU (.int .i64 0) (.string ⟨#[]⟩) (.slice none 0 0)
        rw [← hW']
        obtain ⟨s0, s1, s2⟩ := heap_cells hz'
        refine bodyPost_ret (v := .tuple #[.agg #[.int .i64 0, .string ⟨#[]⟩, .slice none 0 0], .int .i64 k', .bool false]) (by simp [results, Tryz.results52, go_sem, s0, s1, s2]) rfl ?_
        exact ⟨by rw [HZ.out]; exact HBel.out.trans hbz', _, _, _, _, _, _, false, rfl, .inr ⟨rfl, HN.out⟩⟩
    | false =>
      rw [hb] at B1
      have B2 := BG k' hkk.2 [41] (by simp) wr
      obtain ⟨r0, r1, r2⟩ := heap_cells T.res
      have g0 := heap_frozen (o := 0) T.res
      have g1 := heap_frozen (o := 1) T.res
      have g2 := heap_frozen (o := 2) T.res
      have HB : Hid (begB [32] (rs s k') = false) := hb
      clear IH BG hb T0
      generalize hsh : begB [41] (rs s k') = sh at B2
      have HSh : Hid (begB [41] (rs s k') = sh) := hsh
      clear hsh T
      go_upto_region 10 with (first
        | (go_at_call_of 48 (⟨#[32]⟩ : ByteArray); (with_reducible refine Calls.mono B1 ?_); rintro e' w' ⟨rfl, hw'⟩; rw [hw']; clear hw' w')
        | (go_at_call 48; (with_reducible refine Calls.mono B2 ?_); rintro e' w' ⟨rfl, hw'⟩; rw [hw']; clear hw' w'))
      have nz : ¬ z + 1 = z := by omega
      have nz' : ¬ z = z + 1 := by omega
      have HF : Hid (∀ okv : Bool, okv = (sh && decide (0 < es.length) && decide (es.length ≤ 6)) → ∀ W', W'.heap.size = wr.heap.size → (∀ g, g ≠ z → W'.heap[g]? = wr.heap[g]?) → Below z wr W' → RtPost w (rs s k) name k m (.returned (.tuple #[.agg #[.int .i64 4, strV name, .slice ad es.length cap], .int .i64 ((k' : Int) + 1), .bool okv])) W') := by
        intro okv hok W' hs' hoth hbz'
        have T := HT.out
        refine ⟨by rw [HZ.out]; exact T.bel.trans hbz', _, _, _, _, _, _, okv, rfl, ?_⟩
        have hlen := T.row.len
        cases okv with
        | true =>
          refine .inl ⟨rfl, ts, (rs s k').drop 1, ?_, ?_, T.frm, ?_, ?_, ?_⟩
          · intro e0
            rw [e0] at hlen
            simp [hlen] at hok
          · have h0 := hok.symm
            simp only [Bool.and_eq_true, decide_eq_true_eq] at h0
            omega
          · have h0 := hok.symm
            simp only [Bool.and_eq_true, decide_eq_true_eq] at h0
            have h1 := HSh.out
            rw [h0.1.1] at h1
            obtain ⟨q, hq⟩ := beg_one h1
            rw [T.txt.1, hq]
            rfl
          · rw [T.txt.2]
            push_cast
            rfl
          · have hrow : RowM W' (z + 2) m (.slice ad es.length cap) es ts := T.row.on (by omega) fun g h1 _ => hoth g (by omega)
            refine TyS.on (S := fun g => z + 2 ≤ g ∧ g < W'.heap.size) (fun g q => ⟨by have := HZ.out; omega, q.2⟩) (fun _ _ => rfl) _ _ _ (hrow.tree 4 name (by omega) (by omega))
        | false =>
          refine .inr ⟨rfl, fun d us r h0 h6 hf hl => ?_⟩
          obtain ⟨vs, f1, f2, f3⟩ := T.inv d us r hf hl
          obtain ⟨rfl, e2⟩ := args_end HB.out f2
          have hsh : sh = true := by
            rw [← HSh.out, e2]
            exact beg_self [41] r
          have hpos : 0 < us.length := List.length_pos_iff.2 h0
          simp at f3
          rw [hsh] at hok
          simp at hok
          omega
      have hwr : IntKind.i64.wrap ((k' : Int) + 1) = (k' : Int) + 1 := by rw [IntKind.wrap_i64]; omega
      by_cases h0 : 0 < es.length
      · have h0' : (0 : Int) < (es.length : Int) := by omega
        by_cases h6 : es.length ≤ 6
        · have h6' : (es.length : Int) ≤ 6 := by omega
          cases sh
          · have HF3 : Hid _ := HF.out false (by simp)
            clear HF
            go_region
            go_wp2
            obtain ⟨W', hW', hz', hoth, hsz, hbz'⟩ := store3 HT.out.res (.int .i64 4) (strV name) (.slice ad es.length cap)
            rw [← hW']
            obtain ⟨s0, s1, s2⟩ := heap_cells hz'
            refine bodyPost_ret (v := .tuple #[.agg #[.int .i64 4, strV name, .slice ad es.length cap], .int .i64 ((k' : Int) + 1), .bool false]) (by simp [results, Tryz.results52, go_sem, s0, s1, s2]) rfl ?_
            exact HF3.out W'.drew hsz hoth hbz'.drew
          · have HF3 : Hid _ := HF.out true (by simp [h0, h6])
            clear HF
            go_region
            go_wp2
            obtain ⟨W', hW', hz', hoth, hsz, hbz'⟩ := store3 HT.out.res (.int .i64 4) (strV name) (.slice ad es.length cap)
            rw [← hW']
            obtain ⟨s0, s1, s2⟩ := heap_cells hz'
            refine bodyPost_ret (v := .tuple #[.agg #[.int .i64 4, strV name, .slice ad es.length cap], .int .i64 ((k' : Int) + 1), .bool true]) (by simp [results, Tryz.results52, go_sem, s0, s1, s2]) rfl ?_
            exact HF3.out W'.drew hsz hoth hbz'.drew
        · have h6' : ¬ (es.length : Int) ≤ 6 := by omega
          cases sh
          · have HF3 : Hid _ := HF.out false (by simp)
            clear HF
            go_region
            go_wp2
            obtain ⟨W', hW', hz', hoth, hsz, hbz'⟩ := store3 HT.out.res (.int .i64 4) (strV name) (.slice ad es.length cap)
            rw [← hW']
            obtain ⟨s0, s1, s2⟩ := heap_cells hz'
            refine bodyPost_ret (v := .tuple #[.agg #[.int .i64 4, strV name, .slice ad es.length cap], .int .i64 ((k' : Int) + 1), .bool false]) (by simp [results, Tryz.results52, go_sem, s0, s1, s2]) rfl ?_
            exact HF3.out W'.drew hsz hoth hbz'.drew
          · have HF3 : Hid _ := HF.out false (by simp [h6])
            clear HF
            go_region
            go_wp2
            obtain ⟨W', hW', hz', hoth, hsz, hbz'⟩ := store3 HT.out.res (.int .i64 4) (strV name) (.slice ad es.length cap)
            rw [← hW']
            obtain ⟨s0, s1, s2⟩ := heap_cells hz'
            refine bodyPost_ret (v := .tuple #[.agg #[.int .i64 4, strV name, .slice ad es.length cap], .int .i64 ((k' : Int) + 1), .bool false]) (by simp [results, Tryz.results52, go_sem, s0, s1, s2]) rfl ?_
            exact HF3.out W'.drew hsz hoth hbz'.drew
      · have h0' : ¬ (0 : Int) < (es.length : Int) := by omega
        cases sh
        · have HF3 : Hid _ := HF.out false (by simp)
          clear HF
          go_region
          go_wp2
          obtain ⟨W', hW', hz', hoth, hsz, hbz'⟩ := store3 HT.out.res (.int .i64 4) (strV name) (.slice ad es.length cap)
          rw [← hW']
          obtain ⟨s0, s1, s2⟩ := heap_cells hz'
          refine bodyPost_ret (v := .tuple #[.agg #[.int .i64 4, strV name, .slice ad es.length cap], .int .i64 ((k' : Int) + 1), .bool false]) (by simp [results, Tryz.results52, go_sem, s0, s1, s2]) rfl ?_
          exact HF3.out W'.drew hsz hoth hbz'.drew
        · have HF3 : Hid _ := HF.out false (by simp [h0])
          clear HF
          go_region
          go_wp2
          obtain ⟨W', hW', hz', hoth, hsz, hbz'⟩ := store3 HT.out.res (.int .i64 4) (strV name) (.slice ad es.length cap)
          rw [← hW']
          obtain ⟨s0, s1, s2⟩ := heap_cells hz'
          refine bodyPost_ret (v := .tuple #[.agg #[.int .i64 4, strV name, .slice ad es.length cap], .int .i64 ((k' : Int) + 1), .bool false]) (by simp [results, Tryz.results52, go_sem, s0, s1, s2]) rfl ?_
          exact HF3.out W'.drew hsz hoth hbz'.drew
end Go.Proofs.YthcejnpknjepfaaGreat

namespace Go.Proofs.YthcejnpknjepfaaGreat
open Go.RowKit

theorem leaf_no {l : List UInt8} (hb : begB [40] l = false) (h : leafT (wordL l) = none) : RdNo l := by
  intro d t r hf hl hE
  obtain ⟨h1, h2, h3⟩ := leaf_none h
  rcases text_kinds hf with lt | ⟨q, e⟩
  · have hw : wordL l = textT d t := by rw [hl]; exact word_of lt.2.1 (hE lt)
    rw [hw] at h1 h2 h3
    rcases lt.2.2 with ⟨e, _⟩ | ⟨e, _⟩ | ⟨e, _⟩
    · exact h1 e
    · rw [h2] at e; cases e
    · rw [h3] at e; cases e
  · rw [hl, e] at hb
    simp [begB] at hb
theorem leaf_at (w : World) (S : Nat → Prop) {k : Int} {n : List UInt8} (hn : n.length < 140737488355328) (m : Nat) : TyS w S (m + 1) (.agg #[.int .i64 k, strV n, .slice none 0 0]) ((k, n), []) := ⟨.slice none 0 0, rfl, hn, by simp, .inl ⟨rfl, none, 0, rfl⟩⟩
theorem leaf_refd {n : List UInt8} {k : Int} {q : List UInt8} (h : leafT n = some (k, q)) (m : Nat) : formB (m + 1) ((k, q), []) = true ∧ textT (m + 1) ((k, q), []) = n := leaf_form h
/-- The place of the result, laid first. -/
theorem res_at (w : World) : ∃ W0, W0 = w.alloc (Obj.cells #[.int .i64 0, .string ⟨#[]⟩, .slice none 0 0] 25) ∧ Below w.heap.size w W0 ∧ W0.heap.size = w.heap.size + 1 ∧ ∀ U, Below W0.heap.size W0 U → U.heap[w.heap.size]? = some (.cells #[.int .i64 0, .string ⟨#[]⟩, .slice none 0 0] 25 (0, 0)) ∧ Below w.heap.size w U := by
  have hb := (Below.refl w.heap.size w).alloc (Nat.le_refl _) (Obj.cells #[.int .i64 0, .string ⟨#[]⟩, .slice none 0 0] 25)
  have hs : (w.alloc (Obj.cells #[.int .i64 0, .string ⟨#[]⟩, .slice none 0 0] 25)).heap.size = w.heap.size + 1 := by simp
  refine ⟨_, rfl, hb, hs, fun U hU => ⟨?_, hb.trans (hU.mono (by omega))⟩⟩
  rw [hU.block _ (by omega)]
  show (w.heap.push _)[w.heap.size]? = _
  simp
set_option maxHeartbeats 8000000 in
set_option maxRecDepth 10000 in
theorem read_leaf (m : Nat) (s : ByteArray) (k : Nat) (w : World) (hs : s.size ≤ 65536) (hk : k ≤ s.size) (hb : begB [40] (rs s k) = false) :
    Calls Tryz.prog 28 #[.string s, .int .i64 k] w (RdPost w (rs s k) k (m + 1)) := by
  have B1 := fun W => ref_begins s ⟨#[40]⟩ k W hs hk (by show (1 : Nat) ≤ 10; omega)
  rw [show (⟨#[40]⟩ : ByteArray).data.toList = [40] from rfl, hb] at B1
  have W1 := fun W => ref_word s k W hs hk
  obtain ⟨r, e, hP, hE⟩ := word_split (rs s k)
  have hwl : (wordL (rs s k)).length ≤ s.size - k := by
    have h1 := congrArg List.length e
    rw [rs_len, List.length_append] at h1
    omega
  have L1 := fun W => ref_leaf (wordL (rs s k)) W (by omega)
  have HP : Hid (∀ W', Below w.heap.size w W' → RdPost w (rs s k) k (m + 1) (.returned (.tuple #[.agg #[.int .i64 ((leafT (wordL (rs s k))).getD (0, [])).1, strV ((leafT (wordL (rs s k))).getD (0, [])).2, .slice none 0 0], .int .i64 ((k : Int) + ((wordL (rs s k)).length : Int)), .bool (leafT (wordL (rs s k))).isSome])) W') := by
    intro W' hb'
    refine ⟨hb', _, _, _, _, _, _, _, rfl, ?_⟩
    cases h : leafT (wordL (rs s k)) with
    | none => exact .inr ⟨rfl, leaf_no hb h⟩
    | some p =>
      obtain ⟨kd, q⟩ := p
      obtain ⟨f1, f2⟩ := leaf_refd h m
      have hq := leaf_len h
      refine .inl ⟨rfl, ((kd, q), []), r, f1, by rw [f2]; exact e, fun _ => hE, by rw [f2]; push_cast; rfl, leaf_at _ _ (by show q.length < _; omega) m⟩
  generalize wordL (rs s k) = wd at W1 L1 HP hwl
  generalize ((leafT wd).getD (0, [])).1 = kd at L1 HP
  generalize ((leafT wd).getD (0, [])).2 = q at L1 HP
  generalize (leafT wd).isSome = ok at L1 HP
  clear e hP hE hb
  go_enter Tryz.func28, Tryz.ntmps28
  go_upto_region 5 with (first
    | (go_at_call 48; (with_reducible refine Calls.mono (B1 _) ?_); rintro e' w' ⟨rfl, rfl⟩)
    | (go_at_call 49; (with_reducible refine Calls.mono (W1 _) ?_); rintro e' w' ⟨rfl, rfl⟩)
    | (go_at_call 50; (with_reducible refine Calls.mono (L1 _) ?_); rintro e' w1 ⟨rfl, hb1⟩))
  obtain ⟨W0, hW0, hbW0, hsW0, hres⟩ := res_at w
  rw [← hW0] at hb1
  obtain ⟨U, hU, hbU, hsU, u0, u1, u2⟩ := cells_box w1 (.int .i64 kd) (strV q) (.slice none 0 0) 25
  rw [← hU]
  have hbU2 := hb1.trans (hbU.mono hb1.size)
  obtain ⟨resU, hwU⟩ := hres U hbU2
  obtain ⟨r0, r1, r2⟩ := heap_cells resU
  have g0 := heap_frozen (o := 0) resU
  have g1 := heap_frozen (o := 1) resU
  have g2 := heap_frozen (o := 2) resU
  have hz1 : w.heap.size < w1.heap.size := by have := hb1.size; omega
  have nz : ¬ w1.heap.size = w.heap.size := by omega
  clear hU hW0 hres hb1 hbU hbU2 hsU hsW0 hbW0 B1 W1 L1
  generalize hz : w.heap.size = z at r0 r1 r2 g0 g1 g2 resU hwU hz1 nz ⊢
  have HZ : Hid (w.heap.size = z) := hz
  clear hz
  generalize w1.heap.size = z1 at u0 u1 u2 hz1 nz ⊢
  go_wp2
  obtain ⟨W', hW', hz', hoth, hsz, hbz'⟩ := store3 resU (.int .i64 kd) (strV q) (.slice none 0 0)
  rw [← hW']
  obtain ⟨s0, s1, s2⟩ := heap_cells hz'
  refine bodyPost_ret (v := .tuple #[.agg #[.int .i64 kd, strV q, .slice none 0 0], .int .i64 ((k : Int) + (wd.length : Int)), .bool ok]) (by simp [results, Tryz.results28, go_sem, s0, s1, s2]) rfl ?_
  exact HP.out W' (by rw [HZ.out]; exact hwU.trans hbz')

theorem rs_open {s : ByteArray} {k : Nat} (hb : begB [40] (rs s k) = true) : k < s.size ∧ rs s k = 40 :: rs s (k + 1) := by
  obtain ⟨q, hq⟩ := beg_one hb
  have hl := rs_len s k
  have hlt : k < s.size := by rw [hq] at hl; simp at hl; omega
  refine ⟨hlt, ?_⟩
  rw [rs_cons hlt] at hq ⊢
  rw [(List.cons.inj hq).1]
theorem rs_after {s : ByteArray} {k : Nat} {a r : List UInt8} (h : rs s k = a ++ r) : rs s (k + a.length) = r ∧ (k ≤ s.size → k + a.length ≤ s.size) := by
  have h1 := rs_len s k
  rw [h, List.length_append] at h1
  exact ⟨by rw [← rs_drop, h, List.drop_left], fun hk => by omega⟩
/-- The word behind a bracket, and what stands behind that. -/
theorem word_at (s : ByteArray) (k : Nat) (hk : k ≤ s.size) : rs s k = wordL (rs s k) ++ rs s (k + (wordL (rs s k)).length) ∧ (∀ c ∈ wordL (rs s k), endB c = false) ∧ Ends (rs s (k + (wordL (rs s k)).length)) ∧ k + (wordL (rs s k)).length ≤ s.size := by
  obtain ⟨r, e, hP, hE⟩ := word_split (rs s k)
  obtain ⟨h1, h2⟩ := rs_after e
  rw [h1]
  exact ⟨e, hP, hE, h2 hk⟩
set_option maxHeartbeats 8000000 in
set_option maxRecDepth 10000 in
theorem read_data (m : Nat) (IH : ∀ (s : ByteArray) (k : Nat) (w : World), s.size ≤ 65536 → k ≤ s.size → s.size - k < m → Calls Tryz.prog 28 #[.string s, .int .i64 k] w (RdPost w (rs s k) k m))
    (s : ByteArray) (k : Nat) (w : World) (hs : s.size ≤ 65536) (hk : k ≤ s.size) (hm : s.size - k < m + 1) (hb : begB [40] (rs s k) = true) (hd : dataB (wordL (rs s (k + 1))) = true) (hn : begB [32, 45, 62, 32] (rs s (k + 1 + (wordL (rs s (k + 1))).length)) = false) :
    Calls Tryz.prog 28 #[.string s, .int .i64 k] w (RdPost w (rs s k) k (m + 1)) := by
  obtain ⟨hlt, hl⟩ := rs_open hb
  obtain ⟨e, hP, hE, hle⟩ := word_at s (k + 1) hlt
  have B1 := fun W => ref_begins s ⟨#[40]⟩ k W hs hk (by show (1 : Nat) ≤ 10; omega)
  rw [show (⟨#[40]⟩ : ByteArray).data.toList = [40] from rfl, hb] at B1
  have W1 := fun W => ref_word s (k + 1) W hs hlt
  have D1 := fun W => ref_data ⟨(wordL (rs s (k + 1))).toArray⟩ W (by show (wordL (rs s (k + 1))).toArray.size < _; simp; omega)
  rw [show (⟨(wordL (rs s (k + 1))).toArray⟩ : ByteArray).data.toList = wordL (rs s (k + 1)) by simp, hd] at D1
  have B2 := fun W => ref_begins s ⟨#[32, 45, 62, 32]⟩ (k + 1 + (wordL (rs s (k + 1))).length) W hs hle (by show (4 : Nat) ≤ 10; omega)
  rw [show (⟨#[32, 45, 62, 32]⟩ : ByteArray).data.toList = [32, 45, 62, 32] from rfl, hn] at B2
  have R1 := fun W => rest_any m IH s (k + 1 + (wordL (rs s (k + 1))).length) (wordL (rs s (k + 1))) W hs hle (by omega) (by omega)
  have HP' : Hid (∀ (w0 w1 W' : World) (kd : Int) (nm : ByteArray) (ad : Option Addr) (len cap : Nat) (n : Int) (ok : Bool), Below w.heap.size w W' → w.heap.size < w0.heap.size → w1.heap.size ≤ W'.heap.size → (∀ g, g ≠ w.heap.size → g < w1.heap.size → W'.heap[g]? = w1.heap[g]?) →
      ((ok = true ∧ RtOk w0 w1 (rs s (k + 1 + (wordL (rs s (k + 1))).length)) (wordL (rs s (k + 1))) (k + 1 + (wordL (rs s (k + 1))).length) m (.agg #[.int .i64 kd, .string nm, .slice ad len cap]) n) ∨ (ok = false ∧ RtNo (rs s (k + 1 + (wordL (rs s (k + 1))).length)))) →
      RdPost w (rs s k) k (m + 1) (.returned (.tuple #[.agg #[.int .i64 kd, .string nm, .slice ad len cap], .int .i64 n, .bool ok])) W') := by
    intro w0 w1 W' kd nm ad len cap n ok hbW hz hsz hoth hcase
    refine ⟨hbW, kd, nm, ad, len, cap, n, ok, rfl, ?_⟩
    rcases hcase with ⟨hok, ts, r, t0, t6, tf, tl, tn, tT⟩ | ⟨hok, hno⟩
    · refine .inl ⟨hok, ((4, wordL (rs s (k + 1))), ts), r, ?_, ?_, ?_, ?_, ?_⟩
      · rw [form_succ]
        simp [okB, hd, t6]
        exact tf
      · cases ts with
        | nil => exact absurd rfl t0
        | cons x xs =>
          rw [text_data, hl]
          conv => lhs; rw [e]
          rw [tl]
          simp
      · intro lf
        cases ts with
        | nil => exact absurd rfl t0
        | cons x xs =>
          have := lf.2.1 40 (by rw [text_data]; simp)
          cases this
      · cases ts with
        | nil => exact absurd rfl t0
        | cons x xs =>
          rw [tn, text_data]
          simp
          omega
      · refine TyS.on (S := fun g => w0.heap.size ≤ g ∧ g < w1.heap.size) (fun g q => ⟨by omega, by omega⟩) (fun g q => hoth g (by omega) q.2) _ _ _ tT
    · refine .inr ⟨hok, fun d t r hf hl' hE' => ?_⟩
      rw [hl] at hl'
      obtain ⟨e2, ts, t0, t6, tf, tl⟩ := open_data hf hl' e hE hd hn
      exact hno e2 ts r t0 t6 tf tl
  have hwl : (wordL (rs s (k + 1))).length ≤ 65536 := by omega
  generalize wordL (rs s (k + 1)) = wd at *
  have e1 : ((k + 1 : Nat) : Int) = (k : Int) + 1 := by omega
  have e2 : ((k + 1 + wd.length : Nat) : Int) = (k : Int) + 1 + (wd.length : Int) := by omega
  rw [e1] at W1
  rw [e2] at B2 R1
  clear e hP hE hd hn hb hl IH
  go_enter Tryz.func28, Tryz.ntmps28
  go_upto_region 10 with (first
    | (go_at_call_of 48 (⟨#[40]⟩ : ByteArray); (with_reducible refine Calls.mono (B1 _) ?_); rintro e' w' ⟨rfl, rfl⟩)
    | (go_at_call 49; (with_reducible refine Calls.mono (W1 _) ?_); rintro e' w' ⟨rfl, rfl⟩)
    | (go_at_call 51; (with_reducible refine Calls.mono (D1 _) ?_); rintro e' w' ⟨rfl, rfl⟩)
    | (go_at_call 48; (with_reducible refine Calls.mono (B2 _) ?_); rintro e' w' ⟨rfl, rfl⟩))
  obtain ⟨W0, hW0, hbW0, hsW0, hres⟩ := res_at w
  rw [← hW0]
  have HW0 : Hid (W0.heap.size = w.heap.size + 1) := hsW0
  have R2 := R1 W0
  have HR : Hid (∀ U, Below W0.heap.size W0 U → U.heap[w.heap.size]? = some (.cells #[.int .i64 0, .string ⟨#[]⟩, .slice none 0 0] 25 (0, 0)) ∧ Below w.heap.size w U) := hres
  generalize hz : w.heap.size = z at *
  clear hres hW0 hbW0 hsW0 R1 B1 B2 W1 D1
  have HZ : Hid (w.heap.size = z) := hz
  clear hz
  go_wp2_with (go_at_call 52; (with_reducible refine Calls.mono R2 ?_); intro e' w1 hpost; obtain ⟨hb1, kd, nm, ad, len, cap, n, ok, rfl, hcase⟩ := hpost; obtain ⟨resU, hwU⟩ := HR.out w1 hb1; obtain ⟨r0, r1, r2⟩ := heap_cells resU; have g0 := heap_frozen (o := 0) resU; have g1 := heap_frozen (o := 1) resU; have g2 := heap_frozen (o := 2) resU)
  obtain ⟨W', hW', hz', hoth, hsz, hbz'⟩ := store3 resU (.int .i64 kd) (.string nm) (.slice ad len cap)
  rw [← hW']
  obtain ⟨s0, s1, s2⟩ := heap_cells hz'
  refine bodyPost_ret (v := .tuple #[.agg #[.int .i64 kd, .string nm, .slice ad len cap], .int .i64 n, .bool ok]) (by simp [results, Tryz.results28, go_sem, s0, s1, s2]) rfl ?_
  exact HP'.out W0 w1 W' kd nm ad len cap n ok (hwU.trans hbz') (by have := HW0.out; omega) (by omega) (fun g hg _ => hoth g hg) hcase

theorem six_refd {w : World} {b : Nat} {c0 c1 c2 c3 c4 c5 : Value} {t : TypeId} {fr : Nat × Nat} (h : w.heap[b]? = some (.cells #[c0, c1, c2, c3, c4, c5] t fr)) : w.cell? ⟨b, 0, none⟩ = some c0 ∧ w.cell? ⟨b, 1, none⟩ = some c1 ∧ w.cell? ⟨b, 2, none⟩ = some c2 ∧ w.cell? ⟨b, 3, none⟩ = some c3 ∧ w.cell? ⟨b, 4, none⟩ = some c4 ∧ w.cell? ⟨b, 5, none⟩ = some c5 := by
  refine ⟨?_, ?_, ?_, ?_, ?_, ?_⟩ <;> (simp only [World.cell?, h]; rfl)
/-- A function's type of two that were read, in a row of its own. -/
theorem fun_at {w : World} {S : Nat → Prop} {m g : Nat} {ka kb : Int} {na nb : ByteArray} {ua ub : Value} {a b : Tn m} {t : TypeId} (hg : S g) (h : w.heap[g]? = some (.cells #[.int .i64 ka, .string na, ua, .int .i64 kb, .string nb, ub] t (0, 0)))
    (ha : TyS w S m (.agg #[.int .i64 ka, .string na, ua]) a) (hb : TyS w S m (.agg #[.int .i64 kb, .string nb, ub]) b) : TyS w S (m + 1) (.agg #[.int .i64 3, .string ⟨#[]⟩, .slice (some ⟨g, 0, none⟩) 2 2]) ((3, []), [a, b]) := by
  obtain ⟨h0, h1, h2, h3, h4, h5⟩ := six_refd h
  refine ⟨_, rfl, by simp, by simp, .inr ⟨g, 0, 2, rfl, by simp, by simp, hg, fun j hj => ?_⟩⟩
  match j, hj with
  | 0, _ => exact ⟨ka, na, ua, h0, h1, h2, ha⟩
  | 1, _ => exact ⟨kb, nb, ub, h3, h4, h5, hb⟩
set_option maxHeartbeats 8000000 in
set_option maxRecDepth 10000 in
theorem read_fun (m : Nat) (IH : ∀ (s : ByteArray) (k : Nat) (w : World), s.size ≤ 65536 → k ≤ s.size → s.size - k < m → Calls Tryz.prog 28 #[.string s, .int .i64 k] w (RdPost w (rs s k) k m))
    (s : ByteArray) (k : Nat) (w : World) (hs : s.size ≤ 65536) (hk : k ≤ s.size) (hm : s.size - k < m + 1) (hb : begB [40] (rs s k) = true) (hdf : dataB (wordL (rs s (k + 1))) = true → begB [32, 45, 62, 32] (rs s (k + 1 + (wordL (rs s (k + 1))).length)) = true) :
    Calls Tryz.prog 28 #[.string s, .int .i64 k] w (RdPost w (rs s k) k (m + 1)) := by
  obtain ⟨hlt, hl⟩ := rs_open hb
  obtain ⟨e, hP, hE, hle⟩ := word_at s (k + 1) hlt
  have B1 := fun W => ref_begins s ⟨#[40]⟩ k W hs hk (by show (1 : Nat) ≤ 10; omega)
  rw [show (⟨#[40]⟩ : ByteArray).data.toList = [40] from rfl, hb] at B1
  have W1 := fun W => ref_word s (k + 1) W hs hlt
  have D1 := fun W => ref_data ⟨(wordL (rs s (k + 1))).toArray⟩ W (by show (wordL (rs s (k + 1))).toArray.size < _; simp; omega)
  rw [show (⟨(wordL (rs s (k + 1))).toArray⟩ : ByteArray).data.toList = wordL (rs s (k + 1)) by simp] at D1
  have BA := fun (j : Nat) (hj : j ≤ s.size) W => ref_begins s ⟨#[32, 45, 62, 32]⟩ j W hs hj (by show (4 : Nat) ≤ 10; omega)
  rw [show (⟨#[32, 45, 62, 32]⟩ : ByteArray).data.toList = [32, 45, 62, 32] from rfl] at BA
  have BS := fun (j : Nat) (hj : j ≤ s.size) W => ref_begins s ⟨#[41]⟩ j W hs hj (by show (1 : Nat) ≤ 10; omega)
  rw [show (⟨#[41]⟩ : ByteArray).data.toList = [41] from rfl] at BS
  have B2 := BA _ hle
  have OF : Hid (∀ d (t : Tn d) r, formB d t = true → rs s k = textT d t ++ r → ∃ (e : Nat) (a b : Tn e), formB e a = true ∧ formB e b = true ∧ rs s (k + 1) = textT e a ++ ([32, 45, 62, 32] ++ (textT e b ++ 41 :: r))) := fun d t r hf h => by
    rw [hl] at h
    exact open_fun hf h e hE hP hdf
  have R1 := fun W => IH s (k + 1) W hs hlt (by omega)
  have RB := fun j (h1 : j ≤ s.size) (h2 : k < j) W => IH s j W hs h1 (by omega)
  have hwl : (wordL (rs s (k + 1))).length ≤ 65536 := by omega
  generalize dataB (wordL (rs s (k + 1))) = da at *
  generalize begB [32, 45, 62, 32] (rs s (k + 1 + (wordL (rs s (k + 1))).length)) = fu at *
  generalize wordL (rs s (k + 1)) = wd at *
  have e1 : ((k + 1 : Nat) : Int) = (k : Int) + 1 := by omega
  have e2 : ((k + 1 + wd.length : Nat) : Int) = (k : Int) + 1 + (wd.length : Int) := by omega
  rw [e1] at W1 R1
  rw [e2] at B2
  have HL : Hid (rs s k = 40 :: rs s (k + 1)) := hl
  clear e hP hE hb hl IH
  obtain ⟨W0, hW0, hbW0, hsW0, hres⟩ := res_at w
  have HW0 : Hid (W0.heap.size = w.heap.size + 1) := hsW0
  have HR : Hid (∀ U, Below W0.heap.size W0 U → U.heap[w.heap.size]? = some (.cells #[.int .i64 0, .string ⟨#[]⟩, .slice none 0 0] 25 (0, 0)) ∧ Below w.heap.size w U) := hres
  go_enter Tryz.func28, Tryz.ntmps28
  go_upto_region 9 with (first
    | (go_at_call_of 48 (⟨#[40]⟩ : ByteArray); (with_reducible refine Calls.mono (B1 _) ?_); rintro e' w' ⟨rfl, rfl⟩)
    | (go_at_call 49; (with_reducible refine Calls.mono (W1 _) ?_); rintro e' w' ⟨rfl, rfl⟩)
    | (go_at_call 51; (with_reducible refine Calls.mono (D1 _) ?_); rintro e' w' ⟨rfl, rfl⟩)
    | (go_at_call 48; (with_reducible refine Calls.mono (B2 _) ?_); rintro e' w' ⟨rfl, rfl⟩))
  rw [← hW0]
  generalize hz : w.heap.size = z at *
  have HZ : Hid (w.heap.size = z) := hz
  have HX : Hid (da = true → fu = true) := hdf
  clear hz hres hW0 hsW0 hbW0 B1 W1 D1 B2 hdf
  go_cut [58] from 22 (fun b wc => b = .bool false ∧ wc = W0)
  case first =>
    cases da
    · go_wp2
      go_meet
      exact ⟨rfl, rfl⟩
    · have hfu : fu = true := HX.out rfl
      subst hfu
      go_wp2
      go_meet
      exact ⟨rfl, rfl⟩
  case rest =>
    obtain ⟨rfl, rfl⟩ := hcut
    have RA := R1 wc
    clear R1 hwl
    go_upto_region 12 with (first
      | (go_at_call 28; (with_reducible refine Calls.mono RA ?_); intro e' w1 hpost; obtain ⟨hb1, ka, na, ada, lena, capa, n1, one, rfl, hcase⟩ := hpost))
    obtain ⟨U, hU, hbU, hsU, u0, u1, u2⟩ := cells_box w1 (.int .i64 ka) (.string na) (.slice ada lena capa) 25
    rw [← hU]
    have hbU2 := hb1.trans (hbU.mono hb1.size)
    obtain ⟨resU, hwU⟩ := HR.out U hbU2
    obtain ⟨r0, r1, r2⟩ := heap_cells resU
    have g0 := heap_frozen (o := 0) resU
    have g1 := heap_frozen (o := 1) resU
    have g2 := heap_frozen (o := 2) resU
    have hz1 : z < w1.heap.size := by have := hb1.size; have := HW0.out; omega
    have HS1 : Hid (U.heap.size = w1.heap.size + 1) := hsU
    have HU1 : Hid (∀ g, g < w1.heap.size → U.heap[g]? = w1.heap[g]?) := fun g hg => hbU.block g hg
    have HB1 : Hid (Below wc.heap.size wc U) := hbU2
    have HC1 : Hid (wc.heap.size ≤ w1.heap.size) := hb1.size
    clear hU hsU hb1 hbU hbU2 RA
    generalize hq1 : w1.heap.size = z1 at u0 u1 u2 hz1 ⊢
    have HQ1 : Hid (w1.heap.size = z1) := hq1
    have nz1 : ¬ z1 = z := by omega
    have hzU : z1 < U.heap.size := by have := HS1.out; omega
    clear hq1
    rcases hcase with ⟨rfl, hok⟩ | ⟨rfl, hno⟩
    · obtain ⟨ta, ra, fa, la, Ea, rfl, Ta⟩ := hok
      obtain ⟨hra, hj1⟩ := rs_after la
      have hj1 := hj1 hlt
      have B3 := BA _ hj1
      rw [hra] at B3
      have HTa : Hid (TyS w1 (fun g => wc.heap.size ≤ g ∧ g < w1.heap.size) m (.agg #[.int .i64 ka, .string na, .slice ada lena capa]) ta) := Ta
      generalize hj : k + 1 + (textT m ta).length = j1 at *
      have HJ1 : Hid (k + 1 + (textT m ta).length = j1) := hj
      have HA : Hid (∀ d (t : Tn d) r, formB d t = true → rs s k = textT d t ++ r → ∃ (e : Nat) (b : Tn e), formB e b = true ∧ ra = [32, 45, 62, 32] ++ (textT e b ++ 41 :: r)) := by
        intro d t r hf h
        obtain ⟨e, a, b, f1, f2, hl1⟩ := OF.out d t r hf h
        have hE2 : Ends ([32, 45, 62, 32] ++ (textT e b ++ 41 :: r)) := ends_cons rfl
        have := text_inj2 m ta e a ra ([32, 45, 62, 32] ++ (textT e b ++ 41 :: r)) fa f1 Ea (fun _ => hE2) (by rw [← la, hl1])
        exact ⟨e, b, f2, this.2⟩
      have HLA : Hid (rs s (k + 1) = textT m ta ++ ra ∧ formB m ta = true) := ⟨la, fa⟩
      have hkj : k < j1 := by omega
      clear la Ea Ta hj fa
      cases hbb : begB [32, 45, 62, 32] ra with
      | false =>
        rw [hbb] at B3
        have HN : Hid (RdNo (rs s k)) := by
          intro d t r hf h _
          obtain ⟨e, b, _, hr⟩ := HA.out d t r hf h
          rw [hr, beg_self] at hbb
          cases hbb
        have HWU := hwU
        clear BA BS RB hbb
        go_wp2_with (first | (go_at_call 48; (with_reducible refine Calls.mono (B3 _) ?_); rintro e' w' ⟨rfl, rfl⟩))
        obtain ⟨W', hW', hz', hoth, hsz, hbz'⟩ := store3 resU (.int .i64 0) (.string ⟨#[]⟩) (.slice none 0 0)
        rw [← hW']
        obtain ⟨s0, s1, s2⟩ := heap_cells hz'
        refine bodyPost_ret (v := .tuple #[.agg #[.int .i64 0, .string ⟨#[]⟩, .slice none 0 0], .int .i64 k, .bool false]) (by simp [results, Tryz.results28, go_sem, s0, s1, s2]) rfl ?_
        exact ⟨by rw [HZ.out]; exact HWU.trans hbz', _, _, _, _, _, _, false, rfl, .inr ⟨rfl, HN.out⟩⟩
      | true =>
        rw [hbb] at B3
        obtain ⟨r2', hr2⟩ := beg_arrow hbb
        obtain ⟨hrr, hj2⟩ := rs_after (hra.trans hr2)
        have hj2 := hj2 hj1
        have e4 : j1 + ([32, 45, 62, 32] : List UInt8).length = j1 + 4 := rfl
        rw [e4] at hrr hj2
        have RBB := RB (j1 + 4) hj2 (by omega) U
        rw [hrr] at RBB
        have e5 : ((j1 + 4 : Nat) : Int) = (j1 : Int) + 4 := by omega
        rw [e5] at RBB
        clear BA RB hbb
        go_upto_region 16 with (first
          | (go_at_call 48; (with_reducible refine Calls.mono (B3 _) ?_); rintro e' w' ⟨rfl, hw'⟩; rw [hw']; clear hw' w')
          | (go_at_call 28; (with_reducible refine Calls.mono RBB ?_); intro e' w2 hpost; obtain ⟨hb2, kb, nb, adb, lenb, capb, n2, two, rfl, hcase⟩ := hpost))
        obtain ⟨V, hV, hbV, hsV, v0, v1, v2⟩ := cells_box w2 (.int .i64 kb) (.string nb) (.slice adb lenb capb) 25
        rw [← hV]
        have hbV2 := hb2.trans (hbV.mono hb2.size)
        have hcV : Below wc.heap.size wc V := HB1.out.trans (hbV2.mono HB1.out.size)
        obtain ⟨resV, hwV⟩ := HR.out V hcV
        obtain ⟨p0, p1, p2⟩ := heap_cells resV
        have f0 := heap_frozen (o := 0) resV
        have f1 := heap_frozen (o := 1) resV
        have f2 := heap_frozen (o := 2) resV
        have q0 := (hbV2.cell (p := ⟨z1, 0, none⟩) hzU).trans u0
        have q1 := (hbV2.cell (p := ⟨z1, 1, none⟩) hzU).trans u1
        have q2 := (hbV2.cell (p := ⟨z1, 2, none⟩) hzU).trans u2
        have hz2 : z1 < w2.heap.size := by have := hb2.size; omega
        have HV2 : Hid (∀ g, g < w2.heap.size → V.heap[g]? = w2.heap[g]?) := fun g hg => hbV.block g hg
        have HVU : Hid (∀ g, g < U.heap.size → V.heap[g]? = U.heap[g]?) := fun g hg => hbV2.block g hg
        have HS2 : Hid (V.heap.size = w2.heap.size + 1) := hsV
        have HC2 : Hid (U.heap.size ≤ w2.heap.size) := hb2.size
        generalize hq2 : w2.heap.size = z2 at v0 v1 v2 hz2 ⊢
        have HQ2 : Hid (w2.heap.size = z2) := hq2
        have nz2 : ¬ z2 = z := by omega
        have nz3 : ¬ z2 = z1 := by omega
        have hzV : z2 < V.heap.size := by have := HS2.out; omega
        clear hV hsV hb2 hbV hbV2 hcV hq2 RBB B3 u0 u1 u2 r0 r1 r2 g0 g1 g2 resU hwU
        rcases hcase with ⟨rfl, hok⟩ | ⟨rfl, hno⟩
        · obtain ⟨tb, rb, fb, lb, Eb, rfl, Tb⟩ := hok
          obtain ⟨hrb, hj3⟩ := rs_after (hrr.trans lb)
          have hj3 := hj3 hj2
          have B4 := BS _ hj3
          rw [hrb] at B4
          have HTb : Hid (TyS w2 (fun g => U.heap.size ≤ g ∧ g < w2.heap.size) m (.agg #[.int .i64 kb, .string nb, .slice adb lenb capb]) tb) := Tb
          generalize hj : j1 + 4 + (textT m tb).length = j3 at *
          have HJ3 : Hid (j1 + 4 + (textT m tb).length = j3) := hj
          have HLB : Hid (r2' = textT m tb ++ rb ∧ formB m tb = true ∧ ra = [32, 45, 62, 32] ++ r2') := ⟨lb, fb, hr2⟩
          have HBb : Hid (∀ d (t : Tn d) r, formB d t = true → rs s k = textT d t ++ r → rb = 41 :: r) := by
            intro d t r hf h
            obtain ⟨e, b, f2', hr⟩ := HA.out d t r hf h
            rw [hr2] at hr
            have hr := List.append_cancel_left hr
            have hE2 : Ends (41 :: r) := ends_cons rfl
            exact (text_inj2 m tb e b rb (41 :: r) fb f2' Eb (fun _ => hE2) (by rw [← lb, hr])).2
          clear lb Eb Tb hj fb
          cases hbb : begB [41] rb with
          | false =>
            rw [hbb] at B4
            have HN : Hid (RdNo (rs s k)) := by
              intro d t r hf h _
              rw [HBb.out d t r hf h] at hbb
              simp [begB] at hbb
            clear BS hbb
            go_wp2_with (first | (go_at_call 48; (with_reducible refine Calls.mono (B4 _) ?_); rintro e' w' ⟨rfl, rfl⟩))
            obtain ⟨W', hW', hz', hoth, hsz, hbz'⟩ := store3 resV (.int .i64 0) (.string ⟨#[]⟩) (.slice none 0 0)
            rw [← hW']
            obtain ⟨s0, s1, s2⟩ := heap_cells hz'
            refine bodyPost_ret (v := .tuple #[.agg #[.int .i64 0, .string ⟨#[]⟩, .slice none 0 0], .int .i64 k, .bool false]) (by simp [results, Tryz.results28, go_sem, s0, s1, s2]) rfl ?_
            exact ⟨by rw [HZ.out]; exact hwV.trans hbz', _, _, _, _, _, _, false, rfl, .inr ⟨rfl, HN.out⟩⟩
          | true =>
            rw [hbb] at B4
            obtain ⟨r4, hr4⟩ := beg_one hbb
            have hzV2 : z + 1 ≤ V.heap.size := by omega
            have hA := (Below.refl (z + 1) V).alloc hzV2 (Obj.cells #[.int .i64 ka, .string na, .slice ada lena capa, .int .i64 kb, .string nb, .slice adb lenb capb] 25)
            have resA := (hA.block z (by omega)).trans resV
            have heapA : (V.alloc (Obj.cells #[.int .i64 ka, .string na, .slice ada lena capa, .int .i64 kb, .string nb, .slice adb lenb capb] 25)).heap[V.heap.size]? = some (.cells #[.int .i64 ka, .string na, .slice ada lena capa, .int .i64 kb, .string nb, .slice adb lenb capb] 25 (0, 0)) := by
              show (V.heap.push _)[V.heap.size]? = _
              simp
            obtain ⟨a0, a1, a2⟩ := heap_cells resA
            have c0 := heap_frozen (o := 0) resA
            have c1 := heap_frozen (o := 1) resA
            have c2 := heap_frozen (o := 2) resA
            have HwA : Hid (Below z w (V.alloc (Obj.cells #[.int .i64 ka, .string na, .slice ada lena capa, .int .i64 kb, .string nb, .slice adb lenb capb] 25))) := hwV.trans (hA.mono (by omega))
            have HresA : Hid _ := resA
            have HheapA : Hid _ := heapA
            clear BS hbb hA resA heapA hwV
            go_wp2_with (first | (go_at_call 48; (with_reducible refine Calls.mono (B4 _) ?_); rintro e' w' ⟨rfl, hw'⟩; rw [hw']; clear hw' w'))
            obtain ⟨W', hW', hz', hoth, hsz, hbz'⟩ := store3 HresA.out (.int .i64 3) (.string ⟨#[]⟩) (.slice (some ⟨V.heap.size, 0, none⟩) 2 2)
            rw [← hW']
            obtain ⟨s0, s1, s2⟩ := heap_cells hz'
            refine bodyPost_ret (v := .tuple #[.agg #[.int .i64 3, .string ⟨#[]⟩, .slice (some ⟨V.heap.size, 0, none⟩) 2 2], .int .i64 ((j3 : Int) + 1), .bool true]) (by simp [results, Tryz.results28, go_sem, s0, s1, s2]) rfl ?_
            have hszW : W'.heap.size = V.heap.size + 1 := by rw [hsz]; simp
            have hWV : ∀ g, g ≠ z → g < V.heap.size → W'.heap[g]? = V.heap[g]? := fun g h1 h2 => (hoth g h1).trans (Below.heap_alloc _ _ _ h2)
            have HS1 := HS1.out
            have HC1 := HC1.out
            have HC2 := HC2.out
            have HS2 := HS2.out
            have HW0 := HW0.out
            refine ⟨by rw [HZ.out]; exact HwA.out.trans hbz', _, _, _, _, _, _, true, rfl, .inl ⟨rfl, ((3, []), [ta, tb]), r4, ?_, ?_, ?_, ?_, ?_⟩⟩
            · rw [form_succ]
              simp [okB, HLA.out.2, HLB.out.2.1]
            · rw [HL.out, HLA.out.1, HLB.out.2.2, HLB.out.1, hr4, text_fun]
              simp
            · intro lf
              have := lf.2.1 40 (by rw [text_fun]; simp)
              cases this
            · rw [text_fun]
              have h1 := HJ1.out
              have h3 := HJ3.out
              simp
              omega
            · refine fun_at (g := V.heap.size) ⟨by rw [HZ.out]; omega, by omega⟩ ((hoth _ (by omega)).trans HheapA.out) ?_ ?_
              · refine TyS.on (S := fun g => wc.heap.size ≤ g ∧ g < w1.heap.size) (fun g q => ⟨by rw [HZ.out]; omega, by omega⟩) (fun g q => ?_) _ _ _ HTa.out
                rw [hWV g (by omega) (by omega), HVU.out g (by omega), HU1.out g q.2]
              · refine TyS.on (S := fun g => U.heap.size ≤ g ∧ g < w2.heap.size) (fun g q => ⟨by rw [HZ.out]; omega, by omega⟩) (fun g q => ?_) _ _ _ HTb.out
                rw [hWV g (by omega) (by omega), HV2.out g q.2]
        · have HN : Hid (RdNo (rs s k)) := by
            intro d t r hf h _
            obtain ⟨e, b, f2', hr⟩ := HA.out d t r hf h
            rw [hr2] at hr
            have hr := List.append_cancel_left hr
            exact hno e b (41 :: r) f2' hr fun _ => ends_cons rfl
          clear hno BS
          go_wp2
          obtain ⟨W', hW', hz', hoth, hsz, hbz'⟩ := store3 resV (.int .i64 0) (.string ⟨#[]⟩) (.slice none 0 0)
          rw [← hW']
          obtain ⟨s0, s1, s2⟩ := heap_cells hz'
          refine bodyPost_ret (v := .tuple #[.agg #[.int .i64 0, .string ⟨#[]⟩, .slice none 0 0], .int .i64 k, .bool false]) (by simp [results, Tryz.results28, go_sem, s0, s1, s2]) rfl ?_
          exact ⟨by rw [HZ.out]; exact hwV.trans hbz', _, _, _, _, _, _, false, rfl, .inr ⟨rfl, HN.out⟩⟩
    · have HN : Hid (RdNo (rs s k)) := by
        intro d t r hf h _
        obtain ⟨e, a, b, f1, _, hl1⟩ := OF.out d t r hf h
        exact hno e a _ f1 hl1 fun _ => ends_cons rfl
      have HWU := hwU
      clear hno BA BS RB
      go_wp2
      obtain ⟨W', hW', hz', hoth, hsz, hbz'⟩ := store3 resU (.int .i64 0) (.string ⟨#[]⟩) (.slice none 0 0)
      rw [← hW']
      obtain ⟨s0, s1, s2⟩ := heap_cells hz'
      refine bodyPost_ret (v := .tuple #[.agg #[.int .i64 0, .string ⟨#[]⟩, .slice none 0 0], .int .i64 k, .bool false]) (by simp [results, Tryz.results28, go_sem, s0, s1, s2]) rfl ?_
      exact ⟨by rw [HZ.out]; exact HWU.trans hbz', _, _, _, _, _, _, false, rfl, .inr ⟨rfl, HN.out⟩⟩

theorem read_refd : ∀ (m : Nat) (s : ByteArray) (k : Nat) (w : World), s.size ≤ 65536 → k ≤ s.size → s.size - k < m → Calls Tryz.prog 28 #[.string s, .int .i64 k] w (RdPost w (rs s k) k m)
  | 0, _, _, _, _, _, h => by omega
  | m + 1, s, k, w, hs, hk, hm => by
    cases hb : begB [40] (rs s k) with
    | false => exact read_leaf m s k w hs hk hb
    | true =>
      cases hd : dataB (wordL (rs s (k + 1))) with
      | false => exact read_fun m (read_refd m) s k w hs hk hm hb (fun h => by rw [hd] at h; cases h)
      | true =>
        cases hn : begB [32, 45, 62, 32] (rs s (k + 1 + (wordL (rs s (k + 1))).length)) with
        | false => exact read_data m (read_refd m) s k w hs hk hm hb hd hn
        | true => exact read_fun m (read_refd m) s k w hs hk hm hb (fun _ => hn)
end Go.Proofs.YthcejnpknjepfaaGreat

namespace Go.Proofs.YthcejnpknjepfaaGreat
open Go.RowKit

theorem args_nodes (d : Nat) (ih : ∀ t : Tn d, formB d t = true → (flat d t).length ≤ (textT d t).length) : ∀ ts : List (Tn d), (∀ a ∈ ts, formB d a = true) → (flats d ts).length ≤ (argsT d ts).length
  | [], _ => by simp [flats]
  | t :: ts, h => by
    have h1 := ih t (h t (by simp))
    have h2 := args_nodes d ih ts fun a ha => h a (by simp [ha])
    rw [argsT_cons, flats_cons]
    simp
    omega
theorem nodes_text : ∀ (d : Nat) (t : Tn d), formB d t = true → (flat d t).length ≤ (textT d t).length
  | 0, t, _ => t.elim
  | d + 1, t, h => by
    rcases form_cases h with rfl | ⟨n, hn, rfl⟩ | ⟨a, b, ha, hb, rfl⟩ | ⟨n, ts, hn, hl, hts, rfl⟩
    · rw [text_int, flat_succ, flats_nil]; simp
    · rw [text_var, flat_succ, flats_nil]
      have := List.length_pos_iff.2 (var_plain hn).1
      simp
      omega
    · rw [text_fun, flat_succ, flats_cons, flats_cons, flats_nil]
      have h1 := nodes_text d a ha
      have h2 := nodes_text d b hb
      simp
      omega
    · have := List.length_pos_iff.2 (data_plain hn).1
      cases ts with
      | nil => rw [text_data0, flat_succ, flats_nil]; simp; omega
      | cons t ts =>
        rw [text_data, flat_succ]
        have h2 := args_nodes d (nodes_text d) (t :: ts) hts
        simp
        omega
theorem read_whole {s : ByteArray} {m : Nat} {w w' : World} {x : Value} {n : Int} (h : RdOk w w' (rs s 0) 0 m x n) : (n = s.size ∧ ∃ t : Tn m, formB m t = true ∧ textT m t = s.data.toList ∧ TyS w' (fun g => w.heap.size ≤ g ∧ g < w'.heap.size) m x t) ∨ (n ≠ s.size ∧ ∀ d (t : Tn d), formB d t = true → textT d t ≠ s.data.toList) := by
  obtain ⟨t, r, hf, hl, hE, hn, hT⟩ := h
  have h0 : rs s 0 = s.data.toList := by simp [rs]
  have hlen := congrArg List.length hl
  rw [h0, List.length_append] at hlen
  have hsz : s.data.toList.length = s.size := by simp
  by_cases hr : r = []
  · subst hr
    refine .inl ⟨by rw [hn]; simp at hlen; omega, t, hf, ?_, hT⟩
    rw [← h0, hl, List.append_nil]
  · refine .inr ⟨?_, fun d u hu he => hr ?_⟩
    · have := List.length_pos_iff.2 hr
      rw [hn]
      omega
    · have := text_inj2 m t d u r [] hf hu hE (fun _ => ends_nil) (by rw [← hl, h0, he, List.append_nil])
      exact this.2
set_option maxHeartbeats 8000000 in
set_option maxRecDepth 10000 in
theorem read_ref : Reads 7 := by
  intro l w hl
  generalize hs : (⟨l.toArray⟩ : ByteArray) = s
  have hsl : s.data.toList = l := by rw [← hs]
  have hsz : s.size = l.length := by rw [← hs]; show l.toArray.size = _; simp
  show Calls Tryz.prog 7 #[.string ⟨l.toArray⟩] w _
  rw [hs]
  clear hs
  obtain ⟨W0, hW0, hbW0, hsW0, hres⟩ := res_at w
  have HR : Hid (∀ U, Below W0.heap.size W0 U → U.heap[w.heap.size]? = some (.cells #[.int .i64 0, .string ⟨#[]⟩, .slice none 0 0] 25 (0, 0)) ∧ Below w.heap.size w U) := hres
  have HW0 : Hid (W0.heap.size = w.heap.size + 1) := hsW0
  by_cases hbig : 65536 < s.size
  · have hbig' : (65536 : Int) < (s.size : Int) := by omega
    obtain ⟨resU, hwU⟩ := hres W0 (Below.refl _ _)
    obtain ⟨r0, r1, r2⟩ := heap_cells resU
    have g0 := heap_frozen (o := 0) resU
    have g1 := heap_frozen (o := 1) resU
    have g2 := heap_frozen (o := 2) resU
    have HL : Hid (65536 < l.length) := by show 65536 < l.length; omega
    clear hbig hsl hl hsz hres hbW0 hsW0 HW0
    go_enter Tryz.func7, Tryz.ntmps7
    go_upto_region 1 with fail
    rw [← hW0]
    generalize hz : w.heap.size = z at *
    have HZ : Hid (w.heap.size = z) := hz
    clear hz hW0
    go_wp2
    obtain ⟨W', hW', hz', hoth, hsz', hbz'⟩ := store3 resU (.int .i64 0) (.string ⟨#[]⟩) (.slice none 0 0)
    rw [← hW']
    obtain ⟨s0, s1, s2⟩ := heap_cells hz'
    refine bodyPost_ret (v := .tuple #[.agg #[.int .i64 0, .string ⟨#[]⟩, .slice none 0 0], .int .i64 2]) (by simp [results, Tryz.results7, go_sem, s0, s1, s2]) rfl ?_
    exact ⟨by rw [HZ.out]; exact hwU.trans hbz', _, _, rfl, .inr ⟨by decide, ⟨_, _, rfl⟩, .inl ⟨HL.out, rfl⟩⟩⟩
  · have hbig' : ¬ (65536 : Int) < (s.size : Int) := by omega
    have R1 := read_refd (s.size + 1) s 0 W0 (by omega) (by omega) (by omega)
    have HLs : Hid (s.data.toList = l ∧ l.length ≤ 65536) := ⟨hsl, by omega⟩
    clear hsl hl hsz hres hbW0 hsW0 hbig
    go_enter Tryz.func7, Tryz.ntmps7
    go_upto_region 1 with fail
    rw [← hW0]
    generalize hz : w.heap.size = z at *
    have HZ : Hid (w.heap.size = z) := hz
    clear hz hW0
    go_upto_region 4 with (first
      | (go_at_call 28; (with_reducible refine Calls.mono R1 ?_); intro e' w1 hpost; obtain ⟨hb1, ka, na, ada, lena, capa, n1, one, rfl, hcase⟩ := hpost))
    obtain ⟨U, hU, hbU, hsU, u0, u1, u2⟩ := cells_box w1 (.int .i64 ka) (.string na) (.slice ada lena capa) 25
    rw [← hU]
    have hbU2 := hb1.trans (hbU.mono hb1.size)
    obtain ⟨resU, hwU⟩ := HR.out U hbU2
    obtain ⟨r0, r1, r2⟩ := heap_cells resU
    have g0 := heap_frozen (o := 0) resU
    have g1 := heap_frozen (o := 1) resU
    have g2 := heap_frozen (o := 2) resU
    have hz1 : z < w1.heap.size := by have := hb1.size; have := HW0.out; omega
    have HS1 : Hid (U.heap.size = w1.heap.size + 1) := hsU
    have HU1 : Hid (∀ g, g < w1.heap.size → U.heap[g]? = w1.heap[g]?) := fun g hg => hbU.block g hg
    have HB1 : Hid (Below W0.heap.size W0 U) := hbU2
    clear hU hsU hb1 hbU hbU2 R1
    generalize hq1 : w1.heap.size = z1 at u0 u1 u2 hz1 ⊢
    have HQ1 : Hid (w1.heap.size = z1) := hq1
    have nz1 : ¬ z1 = z := by omega
    have hzU : z1 < U.heap.size := by have := HS1.out; omega
    clear hq1
    have FAIL : Hid ((∀ d (t : Tn d), formB d t = true → textT d t ≠ l) → ∀ W', Below z U W' → ReadPost w l (.returned (.tuple #[zeroT, .int .i64 52])) W') := fun hno W' hb => by
      exact ⟨by rw [HZ.out]; exact hwU.trans hb, _, _, rfl, .inr ⟨by decide, ⟨_, _, rfl⟩, .inr (.inr ⟨HLs.out.2, hno, rfl⟩)⟩⟩
    rcases hcase with ⟨rfl, hok⟩ | ⟨rfl, hno⟩
    · rcases read_whole hok with ⟨rfl, t, hf, ht, hT⟩ | ⟨hne, hno⟩
      · have HTs : Hid (TyS w1 (fun g => W0.heap.size ≤ g ∧ g < w1.heap.size) (s.size + 1) (.agg #[.int .i64 ka, .string na, .slice ada lena capa]) t) := hT
        have hTU : TyAt U U.heap.size (s.size + 1) (.agg #[.int .i64 ka, .string na, .slice ada lena capa]) t := by
          have h1 := HS1.out
          have hS : TyS U (fun g => g < U.heap.size) (s.size + 1) (.agg #[.int .i64 ka, .string na, .slice ada lena capa]) t := TyS.on (S := fun g => W0.heap.size ≤ g ∧ g < w1.heap.size) (fun g q => by omega) (fun g q => HU1.out g q.2) _ _ _ hT
          exact TyS.at (fun g hg => hg) _ _ _ hS
        have hnn := nodes_text _ t hf
        rw [ht, HLs.out.1] at hnn
        have hl6 := HLs.out.2
        have C1 := nodes_any _ _ t U U.heap.size (Nat.le_refl _) hTU (by omega)
        have HF : Hid (formB (s.size + 1) t = true ∧ textT (s.size + 1) t = l) := ⟨hf, by rw [ht, HLs.out.1]⟩
        have HNd : Hid ((flat (s.size + 1) t).length = (flat (s.size + 1) t).length) := rfl
        generalize hnd : (flat (s.size + 1) t).length = nd at C1 hnn
        have HND : Hid ((flat (s.size + 1) t).length = nd) := hnd
        have HTU : Hid (TyAt U U.heap.size (s.size + 1) (.agg #[.int .i64 ka, .string na, .slice ada lena capa]) t) := hTU
        have X1 : ∀ w2, Below U.heap.size U w2 → (w2.cell? ⟨z1, 0, none⟩ = some (.int .i64 ka) ∧ w2.cell? ⟨z1, 1, none⟩ = some (.string na) ∧ w2.cell? ⟨z1, 2, none⟩ = some (.slice ada lena capa)) ∧ w2.heap[z]? = some (.cells #[.int .i64 0, .string ⟨#[]⟩, .slice none 0 0] 25 (0, 0)) := fun w2 hb =>
          ⟨⟨(hb.cell (p := ⟨z1, 0, none⟩) hzU).trans u0, (hb.cell (p := ⟨z1, 1, none⟩) hzU).trans u1, (hb.cell (p := ⟨z1, 2, none⟩) hzU).trans u2⟩, (hb.block z (by omega)).trans resU⟩
        have HwU : Hid (Below z w U) := hwU
        have hzU2 : z + 1 ≤ U.heap.size := by omega
        clear hT hTU hf ht hnd HNd hok FAIL hnn hwU resU r0 r1 r2 g0 g1 g2
        by_cases h5 : 500 < nd
        · have h5' : (500 : Int) < (nd : Int) := by omega
          go_wp2_with (first | (go_at_call 29; (with_reducible refine Calls.mono C1 ?_); rintro e' w2 ⟨rfl, hb2⟩; obtain ⟨⟨y0, y1, y2⟩, resV⟩ := X1 w2 hb2; obtain ⟨r0, r1, r2⟩ := heap_cells resV; have g0 := heap_frozen (o := 0) resV; have g1 := heap_frozen (o := 1) resV; have g2 := heap_frozen (o := 2) resV))
          obtain ⟨W', hW', hz', hoth, hsz', hbz'⟩ := store3 resV (.int .i64 0) (.string ⟨#[]⟩) (.slice none 0 0)
          rw [← hW']
          obtain ⟨s0, s1, s2⟩ := heap_cells hz'
          refine bodyPost_ret (v := .tuple #[.agg #[.int .i64 0, .string ⟨#[]⟩, .slice none 0 0], .int .i64 4]) (by simp [results, Tryz.results7, go_sem, s0, s1, s2]) rfl ?_
          exact ⟨by rw [HZ.out]; exact (HwU.out.trans (hb2.mono (by omega))).trans hbz', _, _, rfl, .inr ⟨by decide, ⟨_, _, rfl⟩, .inr (.inl ⟨HLs.out.2, ⟨_, t, HF.out.1, HF.out.2, by rw [HND.out]; exact h5⟩, rfl⟩)⟩⟩
        · have h5' : ¬ (500 : Int) < (nd : Int) := by omega
          go_wp2_with (first | (go_at_call 29; (with_reducible refine Calls.mono C1 ?_); rintro e' w2 ⟨rfl, hb2⟩; obtain ⟨⟨y0, y1, y2⟩, resV⟩ := X1 w2 hb2; obtain ⟨r0, r1, r2⟩ := heap_cells resV; have g0 := heap_frozen (o := 0) resV; have g1 := heap_frozen (o := 1) resV; have g2 := heap_frozen (o := 2) resV))
          obtain ⟨W', hW', hz', hoth, hsz', hbz'⟩ := store3 resV (.int .i64 ka) (.string na) (.slice ada lena capa)
          rw [← hW']
          obtain ⟨s0, s1, s2⟩ := heap_cells hz'
          refine bodyPost_ret (v := .tuple #[.agg #[.int .i64 ka, .string na, .slice ada lena capa], .int .i64 0]) (by simp [results, Tryz.results7, go_sem, s0, s1, s2]) rfl ?_
          refine ⟨by rw [HZ.out]; exact (HwU.out.trans (hb2.mono (by omega))).trans hbz', _, _, rfl, .inl ⟨rfl, HLs.out.2, _, t, HF.out.1, HF.out.2, by rw [HND.out]; omega, ?_⟩⟩
          have h1 := HS1.out
          have hW0 := HW0.out
          have hb2s := hb2.size
          have hS : TyS W' (fun g => g < W'.heap.size) (s.size + 1) (.agg #[.int .i64 ka, .string na, .slice ada lena capa]) t :=
            TyS.on (S := fun g => W0.heap.size ≤ g ∧ g < w1.heap.size) (fun g q => by omega) (fun g q => by rw [hoth g (by omega), hb2.block g (by omega), HU1.out g q.2]) _ _ _ HTs.out
          exact TyS.at (fun g hg => hg) _ _ _ hS
      · have HN : Hid (∀ d (t : Tn d), formB d t = true → textT d t ≠ l) := by rw [← HLs.out.1]; exact hno
        have hne1 : (n1 != (s.size : Int)) = true := by rw [bne_iff_ne]; exact hne
        have hne2 : (n1 == (s.size : Int)) = false := by rw [beq_eq_false_iff_ne]; exact hne
        clear hno hok
        go_wp2
        obtain ⟨W', hW', hz', hoth, hsz', hbz'⟩ := store3 resU (.int .i64 0) (.string ⟨#[]⟩) (.slice none 0 0)
        rw [← hW']
        obtain ⟨s0, s1, s2⟩ := heap_cells hz'
        refine bodyPost_ret (v := .tuple #[.agg #[.int .i64 0, .string ⟨#[]⟩, .slice none 0 0], .int .i64 52]) (by simp [results, Tryz.results7, go_sem, s0, s1, s2]) rfl ?_
        exact FAIL.out HN.out W' hbz'
    · have HN : Hid (∀ d (t : Tn d), formB d t = true → textT d t ≠ l) := fun d t hf he => by
        refine hno d t [] hf ?_ fun _ => ends_nil
        rw [List.append_nil, he, ← HLs.out.1]
        simp [rs]
      clear hno
      go_wp2
      obtain ⟨W', hW', hz', hoth, hsz', hbz'⟩ := store3 resU (.int .i64 0) (.string ⟨#[]⟩) (.slice none 0 0)
      rw [← hW']
      obtain ⟨s0, s1, s2⟩ := heap_cells hz'
      refine bodyPost_ret (v := .tuple #[.agg #[.int .i64 0, .string ⟨#[]⟩, .slice none 0 0], .int .i64 52]) (by simp [results, Tryz.results7, go_sem, s0, s1, s2]) rfl ?_
      exact FAIL.out HN.out W' hbz'
end Go.Proofs.YthcejnpknjepfaaGreat
