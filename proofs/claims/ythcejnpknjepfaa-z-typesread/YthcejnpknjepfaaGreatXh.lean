/- The reference's reading of a type: contract of rest, over that of read. -/
import Derived.Test.YthcejnpknjepfaaGreatXr
import Derived.Test.YthcejnpknjepfaaGreatOw
import Derived.Test.YthcejnpknjepfaaGreatRa
namespace Go.Proofs.YthcejnpknjepfaaGreat
open Go.RowKit

/-- A type was read: it is the text's beginning. -/
def RdOk (w w' : World) (l : List UInt8) (k m : Nat) (x : Value) (n : Int) : Prop := ∃ (t : Tn m) (r : List UInt8), formB m t = true ∧ l = textT m t ++ r ∧ (Leaf m t → Ends r) ∧ n = (k + (textT m t).length : Nat) ∧ TyS w' (fun g => w.heap.size ≤ g ∧ g < w'.heap.size) m x t
/-- No type is the text's beginning. -/
def RdNo (l : List UInt8) : Prop := ∀ d (t : Tn d) r, formB d t = true → l = textT d t ++ r → (Leaf d t → Ends r) → False
def RdPost (w : World) (l : List UInt8) (k m : Nat) (r : Ending) (w' : World) : Prop :=
  Below w.heap.size w w' ∧ ∃ (kd : Int) (nm : ByteArray) (ad : Option Addr) (len cap : Nat) (n : Int) (ok : Bool), r = .returned (.tuple #[.agg #[.int .i64 kd, .string nm, .slice ad len cap], .int .i64 n, .bool ok]) ∧
    ((ok = true ∧ RdOk w w' l k m (.agg #[.int .i64 kd, .string nm, .slice ad len cap]) n) ∨ (ok = false ∧ RdNo l))
/-- The arguments of a data type were read, and the bracket behind them. -/
def RtOk (w w' : World) (l name : List UInt8) (k m : Nat) (x : Value) (n : Int) : Prop := ∃ (ts : List (Tn m)) (r : List UInt8), ts ≠ [] ∧ ts.length ≤ 6 ∧ (∀ a ∈ ts, formB m a = true) ∧ l = argsT m ts ++ 41 :: r ∧ n = (k + (argsT m ts).length + 1 : Nat) ∧ TyS w' (fun g => w.heap.size ≤ g ∧ g < w'.heap.size) (m + 1) x ((4, name), ts)
def RtNo (l : List UInt8) : Prop := ∀ d (ts : List (Tn d)) r, ts ≠ [] → ts.length ≤ 6 → (∀ a ∈ ts, formB d a = true) → l = argsT d ts ++ 41 :: r → False
def RtPost (w : World) (l name : List UInt8) (k m : Nat) (r : Ending) (w' : World) : Prop :=
  Below w.heap.size w w' ∧ ∃ (kd : Int) (nm : ByteArray) (ad : Option Addr) (len cap : Nat) (n : Int) (ok : Bool), r = .returned (.tuple #[.agg #[.int .i64 kd, .string nm, .slice ad len cap], .int .i64 n, .bool ok]) ∧
    ((ok = true ∧ RtOk w w' l name k m (.agg #[.int .i64 kd, .string nm, .slice ad len cap]) n) ∨ (ok = false ∧ RtNo l))
/-- Between the rounds of rest: what was read so far. -/
structure RtW (w wr : World) (z m k k' : Nat) (s : ByteArray) (name : List UInt8) (v : Value) (es : List El) (ts : List (Tn m)) : Prop where
  bel : Below z w wr
  res : wr.heap[z]? = some (.cells #[.int .i64 0, .string ⟨#[]⟩, .slice none 0 0] 25 (0, 0))
  box : wr.heap[z + 1]? = some (.cells #[.int .i64 4, .string ⟨name.toArray⟩, v] 25 (0, 0))
  row : RowM wr (z + 2) m v es ts
  le : k ≤ k' ∧ k' ≤ s.size
  txt : rs s k = argsT m ts ++ rs s k' ∧ k' = k + (argsT m ts).length
  frm : ∀ a ∈ ts, formB m a = true
  inv : ∀ d (us : List (Tn d)) r, (∀ a ∈ us, formB d a = true) → rs s k = argsT d us ++ 41 :: r → ∃ vs : List (Tn d), (∀ a ∈ vs, formB d a = true) ∧ rs s k' = argsT d vs ++ 41 :: r ∧ us.length = ts.length + vs.length
theorem heap_lt {w : World} {b : Nat} {o : Obj} (h : w.heap[b]? = some o) : b < w.heap.size := by
  rcases Nat.lt_or_ge b w.heap.size with hlt | hge
  · exact hlt
  · rw [Array.getElem?_eq_none hge] at h; cases h
theorem args_long {d : Nat} : ∀ ts : List (Tn d), ts.length ≤ (argsT d ts).length
  | [] => by simp
  | t :: ts => by
    have := args_long ts
    rw [argsT_cons]
    simp
    omega
theorem argsT_snoc {d : Nat} (ts : List (Tn d)) (t : Tn d) : argsT d (ts ++ [t]) = argsT d ts ++ 32 :: textT d t := by simp [argsT]
/-- One argument more was read, and laid behind the others. -/
theorem RtW.more {w wr w1 U w5 : World} {z m k k' : Nat} {s : ByteArray} {name : List UInt8} {v : Value} {es : List El} {ts : List (Tn m)} (T : RtW w wr z m k k' s name v es ts) {kd : Int} {nm : ByteArray} {ad : Option Addr} {len cap : Nat} {n : Int}
    (hb : begB [32] (rs s k') = true) (hb1 : Below wr.heap.size wr w1) (R : RdOk wr w1 (rs s (k' + 1)) (k' + 1) m (.agg #[.int .i64 kd, .string nm, .slice ad len cap]) n) {o o' : Obj} (hU : U = w1.alloc o) {g cap' : Nat}
    (hown : w5.ownsRow (z + 2) 25 3 (.slice (some ⟨g, 0, none⟩) (es.length + 1) cap') (es.length + 1) (es.flatMap elCells ++ [.int .i64 kd, .string nm, .slice ad len cap])) (hg : (U.alloc o').grownBy w5 v.ownBlock) (hat : v.ownBlock = some g ∨ g = U.heap.size + 1) :
    ∃ k2 t, n = (k2 : Nat) ∧ k' < k2 ∧ k2 ≤ s.size ∧ RtW w (w5.setCell ⟨z + 1, 2, none⟩ (.slice (some ⟨g, 0, none⟩) (es.length + 1) cap')) z m k k2 s name (.slice (some ⟨g, 0, none⟩) (es.length + 1) cap') (es ++ [(kd, nm, .slice ad len cap)]) (ts ++ [t]) := by
  obtain ⟨t, r, hf, hl, hE, hn, hT⟩ := R
  obtain ⟨q, hq⟩ := beg_one hb
  have hlen : (rs s k').length = s.size - k' := rs_len s k'
  have hlt : k' < s.size := by rw [hq] at hlen; simp at hlen; omega
  have hc := rs_cons hlt
  have h32 : rs s k' = 32 :: rs s (k' + 1) := by
    rw [hc] at hq ⊢
    rw [(List.cons.inj hq).1]
  have hrs : rs s (k' + 1 + (textT m t).length) = r := by
    rw [← rs_drop, hl, List.drop_left]
  have hle : k' + 1 + (textT m t).length ≤ s.size := by
    have h1 := rs_len s (k' + 1)
    rw [hl] at h1
    simp at h1
    omega
  have hz := heap_lt T.box
  have hz2 : z + 2 ≤ wr.heap.size := by omega
  have hU1 : U.heap.size = w1.heap.size + 1 := by rw [hU]; simp
  have hbU : Below wr.heap.size wr U := by rw [hU]; exact hb1.alloc hb1.size o
  have hUz : wr.heap.size ≤ U.heap.size := hbU.size
  have rowU : RowM U (z + 2) m v es ts := T.row.on hUz fun g _ hlt => hbU.block g hlt
  have ownlt : ∀ k, v.ownBlock = some k → z + 2 ≤ k ∧ k < wr.heap.size := fun k hk => T.row.own.lt k hk
  have heU : TyS U (fun g => z + 2 ≤ g ∧ g < U.heap.size ∧ v.ownBlock ≠ some g) m (elV (kd, nm, .slice ad len cap)) t := by
    refine TyS.on (S := fun g => wr.heap.size ≤ g ∧ g < w1.heap.size) (fun g q => ⟨by omega, by omega, ?side⟩) (fun g q => ?keep) m _ t hT
    case side =>
      intro e
      have := (ownlt g e).2
      omega
    case keep =>
      rw [hU]
      exact Below.heap_alloc _ _ _ q.2
  have row5 := rowU.snoc (e := (kd, nm, .slice ad len cap)) (t := t) (o := o') heU (v' := .slice (some ⟨g, 0, none⟩) (es.length + 1) cap') hown hg (by
    rcases hat with h | h
    · exact .inl h.symm
    · exact .inr ⟨g, rfl, by omega⟩)
  have h5 : ∀ b, b < z + 2 → w5.heap[b]? = wr.heap[b]? := fun b hb => by
    rw [hg.block b (by simp; omega) (fun e => by have := (ownlt b e.symm).1; omega), Below.heap_alloc _ _ _ (by omega)]
    exact hbU.block b (by omega)
  have h5s : U.heap.size + 1 ≤ w5.heap.size := by have := hg.size; simp at this; omega
  refine ⟨k' + 1 + (textT m t).length, t, hn, by omega, hle, ?_⟩
  have hrow6 : RowM (w5.setCell ⟨z + 1, 2, none⟩ (.slice (some ⟨g, 0, none⟩) (es.length + 1) cap')) (z + 2) m (.slice (some ⟨g, 0, none⟩) (es.length + 1) cap') (es ++ [(kd, nm, .slice ad len cap)]) (ts ++ [t]) :=
    row5.on (by simp [World.setCell]) fun b hb _ => Below.heap_setCell _ _ _ _ (by show b ≠ z + 1; omega)
  refine ⟨?_, ?_, ?_, hrow6, ⟨by have := T.le; omega, hle⟩, ⟨?_, ?_⟩, ?_, ?_⟩
  · have : Below z w w5 := by
      refine T.bel.trans ⟨?_, ?_, ?_, ?_, fun b hb => h5 b (by omega)⟩
      · rw [hg.os, hU]; exact hb1.os
      · rw [hg.tape, hU]; exact hb1.tape
      · rw [hg.output, hU]; exact hb1.output
      · omega
    exact this.setCell (by show z ≤ z + 1; omega) _
  · rw [Below.heap_setCell _ _ _ _ (by show z ≠ z + 1; omega), h5 z (by omega)]
    exact T.res
  · have hb5 : w5.heap[z + 1]? = some (.cells #[.int .i64 4, .string ⟨name.toArray⟩, v] 25 (0, 0)) := (h5 (z + 1) (by omega)).trans T.box
    exact (setCell_block hb5).trans rfl
  · rw [argsT_snoc, hrs, T.txt.1, h32, hl]
    simp
  · rw [argsT_snoc, List.length_append, List.length_cons, T.txt.2]
    omega
  · intro a ha
    rcases List.mem_append.1 ha with ha | ha
    · exact T.frm a ha
    · rw [List.mem_singleton.1 ha]; exact hf
  · intro d us r' h1 h2
    obtain ⟨vs, f1, f2, f3⟩ := T.inv d us r' h1 h2
    rw [h32] at f2
    obtain ⟨xs, g1, g2, g3⟩ := args_step hl hf hE f1 f2
    exact ⟨xs, g1, by rw [hrs]; exact g2, by rw [f3, g3, List.length_append]; simp; omega⟩
set_option maxHeartbeats 8000000 in
set_option maxRecDepth 10000 in
theorem rest_any (m : Nat) (IH : ∀ (s : ByteArray) (k : Nat) (w : World), s.size ≤ 65536 → k ≤ s.size → s.size - k < m → Calls Tryz.prog 28 #[.string s, .int .i64 k] w (RdPost w (rs s k) k m))
    (s : ByteArray) (k : Nat) (name : List UInt8) (w : World) (hs : s.size ≤ 65536) (hk : k ≤ s.size) (hm : s.size - k ≤ m) (hn : name.length ≤ 65536) :
    Calls Tryz.prog 52 #[.string s, .int .i64 k, strV name] w (RtPost w (rs s k) name k m) := by
  have T0 : RtW w ((w.alloc (Obj.cells #[.int .i64 0, .string ⟨#[]⟩, .slice none 0 0] 25)).alloc (Obj.cells #[.int .i64 4, .string ⟨name.toArray⟩, .slice none 0 0] 25)) w.heap.size m k k s name (.slice none 0 0) [] [] := by
    refine ⟨((Below.refl _ _).alloc (Nat.le_refl _) _).alloc (by simp) _, ?_, ?_, RowM.nil _ _ _, ⟨Nat.le_refl _, hk⟩, ⟨rfl, rfl⟩, by simp, fun d us r h1 h2 => ⟨us, h1, h2, by simp⟩⟩
    · rw [Below.heap_alloc _ _ _ (by simp)]
      show (w.heap.push _)[w.heap.size]? = _
      simp
    · show ((w.heap.push _).push _)[w.heap.size + 1]? = _
      rw [Array.getElem?_push, if_pos (by simp)]
  have BG := fun (k : Nat) (hk : k ≤ s.size) (c : List UInt8) (hc : c.length ≤ 10) W => ref_begins s ⟨c.toArray⟩ k W hs hk (by show c.toArray.size ≤ 10; simpa using hc)
  go_enter Tryz.func52, Tryz.ntmps52
  go_wp2
  generalize hz : w.heap.size = z at T0 ⊢
  have HZ : Hid (w.heap.size = z) := hz
  generalize (w.alloc (Obj.cells #[.int .i64 0, .string ⟨#[]⟩, .slice none 0 0] 25)).alloc (Obj.cells #[.int .i64 4, .string ⟨name.toArray⟩, .slice none 0 0] 25) = W0 at T0 ⊢
  obtain ⟨i0, hi, hz0, hz1, hz2⟩ := info_parts Tryz.info25
  clear hz
  go_loopw [1] (fun a wr => ∃ (k' : Nat) (v : Value) (es : List El) (ts : List (Tn m)), a = .int .i64 k' ∧ Hid (RtW w wr z m k k' s name v es ts)) (fun a _ => s.size - (intOf a).toNat)
  case atStart => exact ⟨k, _, _, _, by go_num, T0⟩
  case round =>
    obtain ⟨k', v, es, ts, rfl, HT⟩ := hrel
    have T := HT.out
    obtain ⟨x0, x1, x2⟩ := heap_cells T.box
    have fz := heap_frozen (o := 2) T.box
    have hkk := T.le
    have B1 := BG k' hkk.2 [32] (by simp) wr
    have hbz := heap_lt T.box
    obtain ⟨ad, cap, rfl⟩ : ∃ ad cap, v = .slice ad es.length cap := by
      rcases T.row.own.2 with ⟨h1, h2⟩ | ⟨g', cap', cur, h1, _⟩
      · exact ⟨none, 0, by rw [h1, h2]⟩
      · exact ⟨_, _, h1⟩
    have hel : es.length ≤ 65536 := by
      have h1 := args_long ts
      have h2 := T.txt.2
      have h3 := T.row.len
      omega
    cases hb : begB [32] (rs s k') with
    | true =>
      rw [hb] at B1
      have hlt : k' < s.size := by
        obtain ⟨q, hq⟩ := beg_one hb
        have := rs_len s k'
        rw [hq] at this
        simp at this
        omega
      have R1 := IH s (k' + 1) wr hs (by omega) (by omega)
      have HB : Hid (begB [32] (rs s k') = true) := hb
      have e1 : ((k' + 1 : Nat) : Int) = (k' : Int) + 1 := by omega
      rw [e1] at R1
      clear IH BG hb T0
      go_upto_region 5 with (first
        | (go_at_call 48; (with_reducible refine Calls.mono B1 ?_); rintro e' w' ⟨rfl, hw'⟩; rw [hw']; clear hw' w')
        | (go_at_call 28; (with_reducible refine Calls.mono R1 ?_); intro e' w1 hpost; obtain ⟨hb1, kd, nm, ad1, len1, cap1, n1, ok, rfl, hcase⟩ := hpost))
      obtain ⟨U, hU, hbU, hsU, u0, u1, u2⟩ := cells_box w1 (.int .i64 kd) (.string nm) (.slice ad1 len1 cap1) 25
      rw [← hU]
      have HUe : Hid (U = w1.alloc (Obj.cells #[.int .i64 kd, .string nm, .slice ad1 len1 cap1] 25)) := hU
      have hbU2 : Below wr.heap.size wr U := hb1.trans (hbU.mono hb1.size)
      have y0 := (hbU2.cell (p := ⟨z + 1, 0, none⟩) hbz).trans x0
      have y1 := (hbU2.cell (p := ⟨z + 1, 1, none⟩) hbz).trans x1
      have y2 := (hbU2.cell (p := ⟨z + 1, 2, none⟩) hbz).trans x2
      have hzU : z + 2 ≤ U.heap.size := by have := hbU2.size; omega
      have HS1 : Hid (U.heap.size = w1.heap.size + 1) := hsU
      generalize hq1 : w1.heap.size = q1 at u0 u1 u2 ⊢
      have HQ1 : Hid (w1.heap.size = q1) := hq1
      have hq1U : q1 < U.heap.size := by omega
      clear hU hsU hq1 B1 R1 x0 x1 x2 fz
      rcases hcase with ⟨rfl, hok⟩ | ⟨rfl, hno⟩
      · have HO : Hid (RdOk wr w1 (rs s (k' + 1)) (k' + 1) m (.agg #[.int .i64 kd, .string nm, .slice ad1 len1 cap1]) n1) := hok
        have HB1 : Hid (Below wr.heap.size wr w1) := hb1
        have ownU : U.ownsRow (z + 2) 25 3 (.slice ad es.length cap) es.length (es.flatMap elCells) := (T.row.on hbU2.size fun g _ hlt => hbU2.block g hlt).own
        have boxU : U.heap[z + 1]? = some (.cells #[.int .i64 4, .string ⟨name.toArray⟩, .slice ad es.length cap] 25 (0, 0)) := (hbU2.block (z + 1) hbz).trans T.box
        clear hok hb1 hbU hbU2 T
        go_wp2_with (at_builtin; refine wpList_append_lies _ rfl _ _ 23 rfl (z + 2) 25 i0 _ 3 48 Tryz.underlying23 hi hz0 hz1 hz2 rfl (by decide) (.slice ad es.length cap) es.length (es.flatMap elCells) rfl (ownU.alloc _) ⟨U.heap.size, 0, none⟩ 1 1 [.int .i64 kd, .string nm, .slice ad1 len1 cap1] rfl rfl (World.news_of_block (cs := #[.int .i64 kd, .string nm, .slice ad1 len1 cap1]) (t := 25) (fr := (0, 0)) (heap_alloc_new U _)) (by simp [Value.oneCell']) (by omega) (by unfold maxLen; omega) (by omega) (by simp; omega) (U.heap.size + 1) (by simp) ?_; intro g cap' w5 hown1 hgrow hat hlt5; have b5 : w5.heap[z + 1]? = some (.cells #[.int .i64 4, .string ⟨name.toArray⟩, .slice ad es.length cap] 25 (0, 0)) := (hgrow.block (z + 1) (by simp; omega) (fun e => by have := (ownU.lt _ e.symm).1; omega)).trans ((Below.heap_alloc _ _ _ (by omega)).trans boxU); have c5 := (heap_cells b5).2.2; have f5 := heap_frozen (o := 2) b5)
        obtain ⟨k2, t2, rfl, hk2, hk3, T2⟩ := HT.out.more HB.out HB1.out HO.out HUe.out hown1 hgrow (by simpa using hat)
        go_roundw
        case rel => exact ⟨k2, _, _, _, rfl, T2⟩
        case measure => simp [intOf]; omega
      · have resU : U.heap[z]? = some (.cells #[.int .i64 0, .string ⟨#[]⟩, .slice none 0 0] 25 (0, 0)) := (hbU2.block z (by omega)).trans T.res
        have HN : Hid (RtNo (rs s k)) := by
          intro d us r h0 h6 hf hl
          obtain ⟨vs, f1, f2, f3⟩ := T.inv d us r hf hl
          obtain ⟨q, hq⟩ := beg_one HB.out
          have h32 : rs s k' = 32 :: rs s (k' + 1) := by
            rw [rs_cons hlt] at hq ⊢
            rw [(List.cons.inj hq).1]
          rw [h32] at f2
          exact args_fail hno f1 f2
        have HBel : Hid (Below z w U) := T.bel.trans (hbU2.mono (by omega))
        obtain ⟨r0, r1, r2⟩ := heap_cells resU
        have g0 := heap_frozen (o := 0) resU
        have g1 := heap_frozen (o := 1) resU
        have g2 := heap_frozen (o := 2) resU
        clear hno T hbU2 hb1 hbU
        go_wp2
        obtain ⟨W', hW', hz', hoth, hsz, hbz'⟩ := store3 resU (.int .i64 0) (.string ⟨#[]⟩) (.slice none 0 0)
        rw [← hW']
        obtain ⟨s0, s1, s2⟩ := heap_cells hz'
        refine bodyPost_ret (v := .tuple #[.agg #[.int .i64 0, .string ⟨#[]⟩, .slice none 0 0], .int .i64 k', .bool false]) (by simp [results, Tryz.results52, go_sem, s0, s1, s2]) rfl ?_
        exact ⟨by rw [HZ.out]; exact HBel.out.trans hbz', _, _, _, _, _, _, false, rfl, .inr ⟨rfl, HN.out⟩⟩
    | false =>
      rw [hb] at B1
      have B2 := BG k' hkk.2 [41] (by simp) wr
      obtain ⟨r0, r1, r2⟩ := heap_cells T.res
      have g0 := heap_frozen (o := 0) T.res
      have g1 := heap_frozen (o := 1) T.res
      have g2 := heap_frozen (o := 2) T.res
      have HB : Hid (begB [32] (rs s k') = false) := hb
      clear IH BG hb T0
      generalize hsh : begB [41] (rs s k') = sh at B2
      have HSh : Hid (begB [41] (rs s k') = sh) := hsh
      clear hsh T
      go_upto_region 10 with (first
        | (go_at_call_of 48 (⟨#[32]⟩ : ByteArray); (with_reducible refine Calls.mono B1 ?_); rintro e' w' ⟨rfl, hw'⟩; rw [hw']; clear hw' w')
        | (go_at_call 48; (with_reducible refine Calls.mono B2 ?_); rintro e' w' ⟨rfl, hw'⟩; rw [hw']; clear hw' w'))
      have nz : ¬ z + 1 = z := by omega
      have nz' : ¬ z = z + 1 := by omega
      have HF : Hid (∀ okv : Bool, okv = (sh && decide (0 < es.length) && decide (es.length ≤ 6)) → ∀ W', W'.heap.size = wr.heap.size → (∀ g, g ≠ z → W'.heap[g]? = wr.heap[g]?) → Below z wr W' → RtPost w (rs s k) name k m (.returned (.tuple #[.agg #[.int .i64 4, strV name, .slice ad es.length cap], .int .i64 ((k' : Int) + 1), .bool okv])) W') := by
        intro okv hok W' hs' hoth hbz'
        have T := HT.out
        refine ⟨by rw [HZ.out]; exact T.bel.trans hbz', _, _, _, _, _, _, okv, rfl, ?_⟩
        have hlen := T.row.len
        cases okv with
        | true =>
          refine .inl ⟨rfl, ts, (rs s k').drop 1, ?_, ?_, T.frm, ?_, ?_, ?_⟩
          · intro e0
            rw [e0] at hlen
            simp [hlen] at hok
          · have h0 := hok.symm
            simp only [Bool.and_eq_true, decide_eq_true_eq] at h0
            omega
          · have h0 := hok.symm
            simp only [Bool.and_eq_true, decide_eq_true_eq] at h0
            have h1 := HSh.out
            rw [h0.1.1] at h1
            obtain ⟨q, hq⟩ := beg_one h1
            rw [T.txt.1, hq]
            rfl
          · rw [T.txt.2]
            push_cast
            rfl
          · have hrow : RowM W' (z + 2) m (.slice ad es.length cap) es ts := T.row.on (by omega) fun g h1 _ => hoth g (by omega)
            refine TyS.on (S := fun g => z + 2 ≤ g ∧ g < W'.heap.size) (fun g q => ⟨by have := HZ.out; omega, q.2⟩) (fun _ _ => rfl) _ _ _ (hrow.tree 4 name (by omega) (by omega))
        | false =>
          refine .inr ⟨rfl, fun d us r h0 h6 hf hl => ?_⟩
          obtain ⟨vs, f1, f2, f3⟩ := T.inv d us r hf hl
          obtain ⟨rfl, e2⟩ := args_end HB.out f2
          have hsh : sh = true := by
            rw [← HSh.out, e2]
            exact beg_self [41] r
          have hpos : 0 < us.length := List.length_pos_iff.2 h0
          simp at f3
          rw [hsh] at hok
          simp at hok
          omega
      have hwr : IntKind.i64.wrap ((k' : Int) + 1) = (k' : Int) + 1 := by rw [IntKind.wrap_i64]; omega
      by_cases h0 : 0 < es.length
      · have h0' : (0 : Int) < (es.length : Int) := by omega
        by_cases h6 : es.length ≤ 6
        · have h6' : (es.length : Int) ≤ 6 := by omega
          cases sh
          · have HF3 : Hid _ := HF.out false (by simp)
            clear HF
            go_region
            go_wp2
            obtain ⟨W', hW', hz', hoth, hsz, hbz'⟩ := store3 HT.out.res (.int .i64 4) (strV name) (.slice ad es.length cap)
            rw [← hW']
            obtain ⟨s0, s1, s2⟩ := heap_cells hz'
            refine bodyPost_ret (v := .tuple #[.agg #[.int .i64 4, strV name, .slice ad es.length cap], .int .i64 ((k' : Int) + 1), .bool false]) (by simp [results, Tryz.results52, go_sem, s0, s1, s2]) rfl ?_
            exact HF3.out W'.drew hsz hoth hbz'.drew
          · have HF3 : Hid _ := HF.out true (by simp [h0, h6])
            clear HF
            go_region
            go_wp2
            obtain ⟨W', hW', hz', hoth, hsz, hbz'⟩ := store3 HT.out.res (.int .i64 4) (strV name) (.slice ad es.length cap)
            rw [← hW']
            obtain ⟨s0, s1, s2⟩ := heap_cells hz'
            refine bodyPost_ret (v := .tuple #[.agg #[.int .i64 4, strV name, .slice ad es.length cap], .int .i64 ((k' : Int) + 1), .bool true]) (by simp [results, Tryz.results52, go_sem, s0, s1, s2]) rfl ?_
            exact HF3.out W'.drew hsz hoth hbz'.drew
        · have h6' : ¬ (es.length : Int) ≤ 6 := by omega
          cases sh
          · have HF3 : Hid _ := HF.out false (by simp)
            clear HF
            go_region
            go_wp2
            obtain ⟨W', hW', hz', hoth, hsz, hbz'⟩ := store3 HT.out.res (.int .i64 4) (strV name) (.slice ad es.length cap)
            rw [← hW']
            obtain ⟨s0, s1, s2⟩ := heap_cells hz'
            refine bodyPost_ret (v := .tuple #[.agg #[.int .i64 4, strV name, .slice ad es.length cap], .int .i64 ((k' : Int) + 1), .bool false]) (by simp [results, Tryz.results52, go_sem, s0, s1, s2]) rfl ?_
            exact HF3.out W'.drew hsz hoth hbz'.drew
          · have HF3 : Hid _ := HF.out false (by simp [h6])
            clear HF
            go_region
            go_wp2
            obtain ⟨W', hW', hz', hoth, hsz, hbz'⟩ := store3 HT.out.res (.int .i64 4) (strV name) (.slice ad es.length cap)
            rw [← hW']
            obtain ⟨s0, s1, s2⟩ := heap_cells hz'
            refine bodyPost_ret (v := .tuple #[.agg #[.int .i64 4, strV name, .slice ad es.length cap], .int .i64 ((k' : Int) + 1), .bool false]) (by simp [results, Tryz.results52, go_sem, s0, s1, s2]) rfl ?_
            exact HF3.out W'.drew hsz hoth hbz'.drew
      · have h0' : ¬ (0 : Int) < (es.length : Int) := by omega
        cases sh
        · have HF3 : Hid _ := HF.out false (by simp)
          clear HF
          go_region
          go_wp2
          obtain ⟨W', hW', hz', hoth, hsz, hbz'⟩ := store3 HT.out.res (.int .i64 4) (strV name) (.slice ad es.length cap)
          rw [← hW']
          obtain ⟨s0, s1, s2⟩ := heap_cells hz'
          refine bodyPost_ret (v := .tuple #[.agg #[.int .i64 4, strV name, .slice ad es.length cap], .int .i64 ((k' : Int) + 1), .bool false]) (by simp [results, Tryz.results52, go_sem, s0, s1, s2]) rfl ?_
          exact HF3.out W'.drew hsz hoth hbz'.drew
        · have HF3 : Hid _ := HF.out false (by simp [h0])
          clear HF
          go_region
          go_wp2
          obtain ⟨W', hW', hz', hoth, hsz, hbz'⟩ := store3 HT.out.res (.int .i64 4) (strV name) (.slice ad es.length cap)
          rw [← hW']
          obtain ⟨s0, s1, s2⟩ := heap_cells hz'
          refine bodyPost_ret (v := .tuple #[.agg #[.int .i64 4, strV name, .slice ad es.length cap], .int .i64 ((k' : Int) + 1), .bool false]) (by simp [results, Tryz.results52, go_sem, s0, s1, s2]) rfl ?_
          exact HF3.out W'.drew hsz hoth hbz'.drew
end Go.Proofs.YthcejnpknjepfaaGreat
