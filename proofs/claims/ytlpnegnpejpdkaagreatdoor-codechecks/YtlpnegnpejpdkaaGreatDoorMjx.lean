/- byteReader: the code of a global is read. byteReader: the code of a global, the walk. Tables that are made: every list in a block of its own. textWriter: names in quotes. -/
import Derived.Test.YtlpnegnpejpdkaaGreatDoorMix
import Derived.Test.YtlpnegnpejpdkaaGreatDoorKn
import Derived.Test.YtlpnegnpejpdkaaGreatDoorMax
import Derived.Test.YtlpnegnpejpdkaaGreatDoorMfx
import Derived.Test.YtlpnegnpejpdkaaGreatDoorKz
namespace Go.Proofs.YtlpnegnpejpdkaaGreatDoor
open Go.RowKit

def insC (x : Ins) : List Value := [.int .i64 x.1, .int .i64 x.2.1, .int .i64 x.2.2]
/-- A code of n instructions of which the first ones stand. -/
def codeC (done : List Ins) (n : Nat) : List Value := done.flatMap insC ++ List.replicate ((n - done.length) * 3) (.int .i64 0)
theorem insC_len (l : List Ins) : (l.flatMap insC).length = l.length * 3 := by
  induction l with
  | nil => rfl
  | cons a r ih => rw [List.flatMap_cons, List.length_append, ih, List.length_cons]; show 3 + _ = _; omega
theorem codeC_len {done : List Ins} {n : Nat} (h : done.length ≤ n) : (codeC done n).length = n * 3 := by
  unfold codeC
  rw [List.length_append, insC_len, List.length_replicate]
  omega
theorem codeC_set {done : List Ins} {n : Nat} (h : done.length < n) (x : Ins) : (((codeC done n).set (done.length * 3) (.int .i64 x.1)).set (done.length * 3 + 1) (.int .i64 x.2.1)).set (done.length * 3 + 2) (.int .i64 x.2.2) = codeC (done ++ [x]) n := by
  have e : (n - done.length) * 3 = (n - (done ++ [x]).length) * 3 + 1 + 1 + 1 := by rw [List.length_append]; simp only [List.length_cons, List.length_nil]; omega
  unfold codeC
  rw [e, List.replicate_succ, List.replicate_succ, List.replicate_succ, List.flatMap_append]
  have hl := insC_len done
  generalize done.flatMap insC = A at *
  generalize List.replicate _ (Value.int .i64 0) = B
  rw [← hl]
  simp [insC]
theorem Tryz.info53 : ∃ i : TypeInfo, Tryz.prog.info? 53 = some i ∧ i.zero = some (.agg #[.int .i64 0, .int .i64 0, .int .i64 0]) ∧ i.size = 3 ∧ i.bytes = 24 := by
  obtain ⟨ti, h1, h2, h3, h4⟩ := info_parts (show (Tryz.prog.info? 53).map (fun i => (i.zero, i.size, i.bytes)) = some (some (.agg #[.int .i64 0, .int .i64 0, .int .i64 0]), 3, 24) by kernel_rfl)
  exact ⟨ti, h1, h2, h3, h4⟩
theorem made_code (k : Nat) : madeCells #[.int .i64 0, .int .i64 0, .int .i64 0] k = (List.replicate k (.int .i64 0)).toArray := by
  apply Array.ext
  · rw [size_madeCells]; simp
  · intro j h1 h2
    have h3 : j % 3 = 0 ∨ j % 3 = 1 ∨ j % 3 = 2 := by omega
    rcases h3 with h | h | h <;> simp [madeCells, h]
theorem make_code (n : Nat) (hn : n ≤ 8000) (w : World) : (Instr.makeSlice 49 (.int .i64 (n : Int)) (.int .i64 (n : Int))).run Tryz.prog w = .ok (.slice (some ⟨w.heap.size, 0, none⟩) n n) (w.alloc (.cells (codeC [] n).toArray 53)) := by
  obtain ⟨i, hi, hz, hk, hb⟩ := Tryz.info53
  have := run_makeSlice (P := Tryz.prog) w 49 53 i _ (by kernel_rfl) hi hz .i64 .i64 n n (by omega) (Int.le_refl _) (by rw [hk]; simp; omega) (by rw [hb]; omega) (by omega)
  rw [hk, Int.toNat_natCast] at this
  have e : madeCells (Value.agg #[.int .i64 0, .int .i64 0, .int .i64 0]).cells (n * 3) = (codeC [] n).toArray := made_code (n * 3)
  rw [e] at this
  exact this
/-- A row of instructions in its own block. -/
theorem code_own {w : World} {C n B : Nat} {l : List Ins} (hC : w.heap[C]? = some (.cells (codeC l n).toArray 53 (0, 0))) (hn : n = l.length) (hB : B ≤ C) (h8 : n ≤ 8000) : Own EIns 53 B w (fun _ => False) (.slice (some ⟨C, 0, none⟩) n n) l := by
  subst hn
  have e : codeC l l.length = (l.map insC).flatten := by unfold codeC; rw [Nat.sub_self, Nat.zero_mul, List.replicate_zero, List.append_nil, List.flatMap]
  refine ⟨⟨l.map insC, ⟨by simp, fun i a b => by rw [List.getElem_map]; rfl⟩, ?_, .inr ⟨C, l.length, _, rfl, hB, hC, Nat.le_refl _, by unfold maxLen; omega, ?_, ?_⟩⟩, fun _ h => h.elim⟩
  · rw [← e]; exact codeC_len (Nat.le_refl _)
  · show (codeC l l.length).toArray.size = _
    rw [List.size_toArray]; exact codeC_len (Nat.le_refl _)
  · show (codeC l l.length).take (l.length * 3) = _
    rw [← e, List.take_of_length_le (Nat.le_of_eq (codeC_len (Nat.le_refl _)))]
end Go.Proofs.YtlpnegnpejpdkaaGreatDoor

namespace Go.Proofs.YtlpnegnpejpdkaaGreatDoor
open Go.RowKit

def codeR (ln : Nat) (l : Byt) : Option (List Ins × Byt) := bindR (cntR (min 8000 ln) l) fun k r => timesR insR k r
/-- What a reader's call leaves that answers a code. -/
def RC (w : World) (R ln : Nat) (x : Option (List Ins × Byt)) (r : Ending) (w' : World) : Prop := match x with
  | some (c, m) => ∃ v, r = .returned v ∧ Hid (Own EIns 53 w.heap.size w' (fun _ => False) v c ∧ Rd w' R ((ln - c.length : Nat) : Int) m ∧ Rk w R w')
  | none => r = thrown 171 ∧ Hid (Rk w R w')
theorem times_len {α : Type} {f : Byt → Option (α × Byt)} : ∀ (n : Nat) (l r : Byt) (s : List α), timesR f n l = some (s, r) → s.length = n
  | 0, l, r, s, h => by cases h; rfl
  | n + 1, l, r, s, h => by
    obtain ⟨a, q, h1, h2⟩ := bind_some h
    obtain ⟨t, p, h3, h4⟩ := bind_some h2
    cases h4
    rw [List.length_cons, times_len n q _ t h3]
/-- The reader's other number is turned. -/
theorem Rd.left {w : World} {R : Nat} {left : Int} {l : Byt} (h : Rd w R left l) (n : Int) : Rd (w.setCell ⟨R, 1, none⟩ (.int .i64 n)) R n l ∧ Rk w R (w.setCell ⟨R, 1, none⟩ (.int .i64 n)) := by
  obtain ⟨g, o, cap, h1, h2, h3, h4⟩ := h
  have hb := (Below.refl R w).setCell (p := ⟨R, 1, none⟩) (Nat.le_refl _) (.int .i64 n)
  exact ⟨⟨g, o, cap, (setCell_block h1).trans rfl, h2, h3, fun i hi => (hb.cell (p := ⟨g, o + i, none⟩) h3).trans (h4 i hi)⟩, hb, fun y _ hy => Below.heap_setCell _ _ _ _ hy⟩
/-- Between code's rounds. -/
structure CW (w wr : World) (R C k ln : Nat) (T : Option (List Ins × Byt)) (done : List Ins) (m : Byt) : Prop where
  c : wr.heap[C]? = some (.cells (codeC done k).toArray 53 (0, 0))
  rd : Rd wr R ((ln - k : Nat) : Int) m
  rk : Rk w R wr
  lt : R < w.heap.size ∧ w.heap.size ≤ C
  t : T = bindR (timesR insR (k - done.length) m) fun s r => some (done ++ s, r)
theorem CW.call {w wr w' : World} {R C k ln : Nat} {T : Option (List Ins × Byt)} {done : List Ins} {m : Byt} (h : CW w wr R C k ln T done m) (hk : Rk wr R w') : w'.heap[C]? = some (.cells (codeC done k).toArray 53 (0, 0)) ∧ Rk w R w' := by
  obtain ⟨h1, h2, h3, ⟨h4, h5⟩, h6⟩ := h
  have := lt_heap h1
  exact ⟨(hk.2 C this (by omega)).trans h1, h3.trans (by omega) hk⟩
theorem CW.next {w wr w' : World} {R C k ln : Nat} {T : Option (List Ins × Byt)} {done : List Ins} {m m' : Byt} (h : CW w wr R C k ln T done m) (hk : Rk wr R w') (hr : Rd w' R ((ln - k : Nat) : Int) m') {x : Ins} (hx : insR m = some (x, m')) (hd : done.length < k) :
    CW w (((w'.setCell ⟨C, done.length * 3, none⟩ (.int .i64 x.1)).setCell ⟨C, done.length * 3 + 1, none⟩ (.int .i64 x.2.1)).setCell ⟨C, done.length * 3 + 2, none⟩ (.int .i64 x.2.2)) R C k ln T (done ++ [x]) m' := by
  obtain ⟨hc, hk2⟩ := h.call hk
  obtain ⟨h1, h2, h3, ⟨h4, h5⟩, h6⟩ := h
  have hb := (((Below.refl C w').setCell (p := ⟨C, done.length * 3, none⟩) (Nat.le_refl _) (.int .i64 x.1)).setCell (p := ⟨C, done.length * 3 + 1, none⟩) (Nat.le_refl _) (.int .i64 x.2.1)).setCell (p := ⟨C, done.length * 3 + 2, none⟩) (Nat.le_refl _) (.int .i64 x.2.2)
  have hs : ∀ g, g ≠ C → (((w'.setCell ⟨C, done.length * 3, none⟩ (.int .i64 x.1)).setCell ⟨C, done.length * 3 + 1, none⟩ (.int .i64 x.2.1)).setCell ⟨C, done.length * 3 + 2, none⟩ (.int .i64 x.2.2)).heap[g]? = w'.heap[g]? := fun g hg => by
    rw [Below.heap_setCell _ _ _ _ hg, Below.heap_setCell _ _ _ _ hg, Below.heap_setCell _ _ _ _ hg]
  refine ⟨?_, hr.on (hb.mono (by omega)) (hs R (by omega)), ⟨hk2.1.trans (hb.mono (by omega)), fun y hy hR => (hs y (by omega)).trans (hk2.2 y hy hR)⟩, ⟨h4, h5⟩, ?_⟩
  · rw [setCell_block ((setCell_block ((setCell_block hc).trans rfl)).trans rfl)]
    rw [List.setIfInBounds_toArray, List.setIfInBounds_toArray, List.setIfInBounds_toArray, codeC_set hd]
  · rw [h6]
    have e : k - done.length = (k - (done ++ [x]).length) + 1 := by rw [List.length_append]; simp only [List.length_cons, List.length_nil]; omega
    rw [e]
    show bindR (bindR (insR m) fun a r => bindR (timesR insR _ r) fun s r => some (a :: s, r)) _ = _
    rw [hx]
    show bindR (bindR (timesR insR _ m') fun s r => some (x :: s, r)) _ = _
    cases timesR insR (k - (done ++ [x]).length) m' with
    | none => rfl
    | some p => show some (done ++ (x :: p.1), p.2) = some ((done ++ [x]) ++ p.1, p.2); rw [List.append_assoc]; rfl
theorem CW.stop {w wr : World} {R C k ln : Nat} {T : Option (List Ins × Byt)} {done : List Ins} {m : Byt} (h : CW w wr R C k ln T done m) (hx : insR m = none) (hd : done.length < k) : T = none := by
  rw [h.t]
  have e : k - done.length = (k - done.length - 1) + 1 := by omega
  rw [e]
  show bindR (bindR (insR m) fun a r => bindR (timesR insR _ r) fun s r => some (a :: s, r)) _ = _
  rw [hx]
  rfl
theorem code_cells {w : World} {C k i : Nat} {l : List Ins} (h : w.heap[C]? = some (.cells (codeC l k).toArray 53 (0, 0))) (hd : l.length ≤ k) (hi : i < k) : (∃ u, w.cell? ⟨C, i * 3, none⟩ = some u) ∧ (∃ u, w.cell? ⟨C, i * 3 + 1, none⟩ = some u) ∧ (∃ u, w.cell? ⟨C, i * 3 + 2, none⟩ = some u) ∧ w.frozen? ⟨C, i * 3, none⟩ = false ∧ w.frozen? ⟨C, i * 3 + 1, none⟩ = false ∧ w.frozen? ⟨C, i * 3 + 2, none⟩ = false := by
  have hl := codeC_len hd
  have hc : ∀ j, j < k * 3 → ∃ u, w.cell? ⟨C, j, none⟩ = some u := fun j hj => ⟨(codeC l k)[j]'(by omega), heap_cl h (by rw [List.getElem?_toArray]; exact List.getElem?_eq_getElem _)⟩
  exact ⟨hc _ (by omega), hc _ (by omega), hc _ (by omega), heap_frozen h, heap_frozen h, heap_frozen h⟩
theorem CW.done {w wr : World} {R C k ln : Nat} {T : Option (List Ins × Byt)} {done : List Ins} {m : Byt} (h : CW w wr R C k ln T done m) (hd : done.length = k) (h8 : k ≤ 8000) : T = some (done, m) ∧ Own EIns 53 w.heap.size wr (fun _ => False) (.slice (some ⟨C, 0, none⟩) k k) done ∧ Rd wr R ((ln - done.length : Nat) : Int) m ∧ Rk w R wr := by
  refine ⟨?_, code_own h.c hd.symm h.lt.2 h8, by rw [hd]; exact h.rd, h.rk⟩
  rw [h.t, hd, Nat.sub_self]
  show some (done ++ [], m) = _
  rw [List.append_nil]
set_option maxHeartbeats 16000000 in
set_option maxRecDepth 10000 in
theorem rcode {w : World} {rd : Option Addr} {rcap R ln : Nat} {l : Byt} (hR : RowsAt w rd rcap) (h : Rd w R (ln : Int) l) (h1R : 1 < R) (hgR : ∀ g o, rd = some ⟨g, o, none⟩ → g < R) (hll : l.length < 9223372036854775808) (hln : ln ≤ 200000) :
    Calls Tryz.prog 102 #[.pointer (some ⟨R, 0, none⟩)] w fun r w' => RC w R ln (codeR ln l) r w' := by
  have hRl := h.lt
  obtain ⟨F, hF⟩ : ∃ F : Ending → World → Prop, F = fun r w' => RC w R ln (codeR ln l) r w' := ⟨_, rfl⟩
  rw [← hF]
  have HFN : Hid (∀ r w', codeR ln l = none → r = thrown 171 → Rk w R w' → F r w') := fun r w' h1 h2 h3 => by rw [hF]; show RC w R ln (codeR ln l) r w'; rw [h1]; exact ⟨h2, h3⟩
  have HFS : Hid (∀ r w' v c m, codeR ln l = some (c, m) → r = .returned v → Own EIns 53 w.heap.size w' (fun _ => False) v c ∧ Rd w' R ((ln - c.length : Nat) : Int) m ∧ Rk w R w' → F r w') := fun r w' v c m h1 h2 h3 => by rw [hF]; show RC w R ln (codeR ln l) r w'; rw [h1]; exact ⟨v, h2, h3⟩
  have HRW : Hid (∀ w2 : World, Below R w w2 → w.heap.size ≤ w2.heap.size → RowsAt w2 rd rcap) := fun w2 hb hs => hR.under h1R hgR hb hs
  have CG := fun W => giveUp_any 171 W
  unfold thrown at CG
  have CN := rcnt h (min 8000 ln) hll
  obtain ⟨g, o, cap, hRb, _⟩ := id h
  have p1 : w.cell? ⟨R, 1, none⟩ = some (.int .i64 (ln : Int)) := heap_cl hRb rfl
  have e0 : codeR ln l = bindR (cntR (min 8000 ln) l) fun k r => timesR insR k r := rfl
  obtain ⟨M, hM⟩ : ∃ M, M = min 8000 ln := ⟨_, rfl⟩
  rw [← hM] at CN e0
  have H0 : Hid (codeR ln l = bindR (cntR M l) fun k r => timesR insR k r) := e0
  have HM : Hid (M = min 8000 ln) := hM
  clear hF hRb h hR e0 hM
  have hMe : (M : Int) = min 8000 (ln : Int) := by have := HM.out; omega
  rw [hMe] at CN
  clear hMe
  cases hn : cntR M l with
  | none =>
    rw [hn] at CN
    replace CN : Calls Tryz.prog 99 #[.pointer (some ⟨R, 0, none⟩), .int .i64 (min 8000 (ln : Int))] w fun r w' => r = .panicked [{ v := .iface 28 (.int .i64 171), recovered := false }] ∧ Hid (Rk w R w') := CN
    go_enter Tryz.func102, Tryz.ntmps102
    go_wp2_with (go_at_call 99; (with_reducible refine Calls.mono CN ?_); rintro e2 w2 ⟨rfl, HH⟩)
    exact ⟨rfl, HFN.out _ _ (by rw [H0.out, hn]; rfl) rfl HH.out⟩
  | some p =>
    obtain ⟨k, m⟩ := p
    rw [hn] at CN
    replace CN : Calls Tryz.prog 99 #[.pointer (some ⟨R, 0, none⟩), .int .i64 (min 8000 (ln : Int))] w fun r w' => r = .returned (.int .i64 k) ∧ Hid (Rd w' R (ln : Int) m ∧ Rk w R w') := CN
    have hkM : k ≤ 8000 ∧ k ≤ ln := by have := (cnt_is hn).2.1; have := HM.out; omega
    have HT : Hid (codeR ln l = timesR insR k m) := by show _ = _; rw [H0.out, hn]; rfl
    obtain ⟨T, hT⟩ : ∃ T, T = codeR ln l := ⟨_, rfl⟩
    rw [← hT] at HT HFN HFS
    have qmk := make_code k hkM.1
    clear hn hT H0 HM
    go_enter Tryz.func102, Tryz.ntmps102
    go_upto_region 2 with (go_at_call 99; (with_reducible refine Calls.mono CN ?_); rintro e2 w2 ⟨rfl, HH⟩)
    have hs2 : w.heap.size ≤ w2.heap.size := HH.out.2.size (Nat.le_of_lt hRl)
    obtain ⟨C, hC⟩ : ∃ C, C = w2.heap.size := ⟨_, rfl⟩
    obtain ⟨W, hW⟩ : ∃ W, W = w2.alloc (.cells (codeC [] k).toArray 53) := ⟨_, rfl⟩
    have hbW : Below w2.heap.size w2 W := by rw [hW]; exact (Below.refl _ _).alloc (Nat.le_refl _) _
    have hRW : R < w2.heap.size := by omega
    have HW : Hid (Rd W R (ln : Int) m ∧ Rk w R W ∧ W.heap[C]? = some (.cells (codeC [] k).toArray 53 (0, 0))) := ⟨HH.out.1.on (hbW.mono (Nat.le_of_lt hRW)) (hbW.block R hRW), HH.out.2.trans hs2 ⟨hbW.mono (Nat.le_of_lt hRW), fun y hy _ => hbW.block y hy⟩, by rw [hW, hC]; exact new_blk _ _⟩
    rw [← hW, ← hC]
    have hCC : w.heap.size ≤ C := by omega
    obtain ⟨g', o', cap', hRb, _⟩ := HW.out.1
    have p2 : W.cell? ⟨R, 1, none⟩ = some (.int .i64 (ln : Int)) := heap_cl hRb rfl
    have f2 : W.frozen? ⟨R, 1, none⟩ = false := heap_frozen hRb
    clear hW hC hbW hRW HH hRb qmk CN p1 hs2
    go_upto_region 3 with fail
    have HK := HW.out.1.left ((ln : Int) - (k : Int))
    rw [show (ln : Int) - (k : Int) = ((ln - k : Nat) : Int) by omega] at HK
    have HCW : Hid (CW w (W.setCell ⟨R, 1, none⟩ (.int .i64 ((ln - k : Nat) : Int))) R C k ln T [] m) := ⟨(HK.2.2 C (lt_heap HW.out.2.2) (by omega)).trans HW.out.2.2, HK.1, HW.out.2.1.trans (by have := lt_heap HW.out.2.2; omega) HK.2, ⟨hRl, hCC⟩, by
      rw [HT.out]
      show timesR insR k m = bindR (timesR insR k m) fun s r => some ([] ++ s, r)
      cases timesR insR k m with
      | none => rfl
      | some p => rfl⟩
    rw [show (ln : Int) - (k : Int) = ((ln - k : Nat) : Int) by omega]
    generalize W.setCell ⟨R, 1, none⟩ (.int .i64 ((ln - k : Nat) : Int)) = W2 at *
    clear HK HT HW p2 f2
    have HCE : Hid (R ≠ C) := by show _ ≠ _; omega
    go_upto_region 4 with fail
    go_loopw [25] (fun iv wr => ∃ (done : List Ins) (n : Byt), done.length ≤ k ∧ iv = .int .i64 (done.length : Nat) ∧ Hid (CW w wr R C k ln T done n)) (fun iv _ => k - (intOf iv).toNat)
    case atStart => exact ⟨[], m, by simp, by go_num, HCW.out⟩
    case round =>
      clear HCW
      obtain ⟨done, n, hdk, rfl, HC⟩ := hrel
      obtain ⟨i, hi⟩ : ∃ i, i = done.length := ⟨_, rfl⟩
      have HI : Hid (i = done.length) := hi
      rw [← hi] at hdk ⊢
      clear hi
      by_cases hik : i < k
      · have j1 : (0 : Int) ≤ (i : Int) := by omega
        have j2 : (i : Int) < (k : Int) := by omega
        have CN := rnum HC.out.rd
        cases hn : numR 0 0 n with
        | none =>
          rw [hn] at CN
          replace CN : Calls Tryz.prog 101 #[.pointer (some ⟨R, 0, none⟩)] wr fun r w' => r = .panicked [{ v := .iface 28 (.int .i64 171), recovered := false }] ∧ Hid (Rk wr R w') := CN
          go_wp2_with (go_at_call 101; (with_reducible refine Calls.mono CN ?_); rintro e5 w5 ⟨rfl, H5⟩)
          exact ⟨rfl, HFN.out _ _ (HC.out.stop (by rw [insR_rest, hn]; rfl) (by rw [← HI.out]; exact hik)) rfl (HC.out.call H5.out).2⟩
        | some p =>
          obtain ⟨op, n1⟩ := p
          rw [hn] at CN
          replace CN : Calls Tryz.prog 101 #[.pointer (some ⟨R, 0, none⟩)] wr fun r w' => r = .returned (.int .i64 op) ∧ Hid (Rd w' R ((ln - k : Nat) : Int) n1 ∧ Rk wr R w') := CN
          have CO := fun W => isOp_any (op : Int) W
          cases hop : isOpP (op : Int) with
          | false =>
            rw [hop] at CO
            go_wp2_with (first | (go_at_call 101; (with_reducible refine Calls.mono CN ?_); rintro e5 w5 ⟨rfl, H5⟩) | (go_at_call 67; (with_reducible refine Calls.mono (CO _) ?_); rintro e6 w6 ⟨rfl, hw⟩; obtain rfl := hw.symm; clear hw) | (go_at_call 90; (with_reducible refine Calls.mono (CG _) ?_); rintro e7 w7 ⟨rfl, hw⟩; obtain rfl := hw.symm; clear hw))
            exact ⟨rfl, HFN.out _ _ (HC.out.stop (by rw [insR_rest, hn]; show (if isOpP (op : Int) = false then none else _) = _; rw [if_pos hop]) (by rw [← HI.out]; exact hik)) rfl (HC.out.call H5.out.2).2⟩
          | true =>
            rw [hop] at CO
            go_upto_region 9 with (first | (go_at_call 101; (with_reducible refine Calls.mono CN ?_); rintro e5 w5 ⟨rfl, H5⟩) | (go_at_call 67; (with_reducible refine Calls.mono (CO _) ?_); rintro e6 w6 ⟨rfl, hw⟩; obtain rfl := hw.symm; clear hw))
            have hk5 := (HC.out.call H5.out.2).2
            have CI := rins (HRW.out w5 hk5.1 (hk5.size (Nat.le_of_lt hRl))) H5.out.1 h1R hgR op hop
            have HIR : Hid (insR n = restR (op : Int) n1) := by show _ = _; rw [insR_rest, hn]; show (if isOpP (op : Int) = false then none else _) = _; rw [if_neg (by rw [hop]; decide)]
            have hs5 : w.heap.size ≤ wr.heap.size := HC.out.rk.size (Nat.le_of_lt hRl)
            cases hx : restR (op : Int) n1 with
            | none =>
              rw [hx] at CI HIR
              replace CI : Calls Tryz.prog 116 #[.int .i64 (op : Int), .func (.func 121) #[.pointer (some ⟨R, 0, none⟩)] #[]] w5 fun r w' => r = .panicked [{ v := .iface 28 (.int .i64 171), recovered := false }] ∧ Hid (Rk w5 R w') := CI
              clear hk5
              go_wp2_with (go_at_call 116; (with_reducible refine Calls.mono CI ?_); rintro e8 w8 ⟨rfl, H8⟩)
              exact ⟨rfl, HFN.out _ _ (HC.out.stop HIR.out (by rw [← HI.out]; exact hik)) rfl (HC.out.call (H5.out.2.trans (H5.out.2.size (by omega)) H8.out)).2⟩
            | some p =>
              obtain ⟨x, n2⟩ := p
              rw [hx] at CI HIR
              replace CI : Calls Tryz.prog 116 #[.int .i64 (op : Int), .func (.func 121) #[.pointer (some ⟨R, 0, none⟩)] #[]] w5 fun r w' => r = .returned (.agg #[.int .i64 x.1, .int .i64 x.2.1, .int .i64 x.2.2]) ∧ Hid (Rd w' R ((ln - k : Nat) : Int) n2 ∧ Rk w5 R w') := CI
              clear hk5
              go_wp2_with (go_at_call 116; (with_reducible refine Calls.mono CI ?_); rintro e8 w8 ⟨rfl, H8⟩; have HK8 : Hid (Rk wr R w8) := H5.out.2.trans (H5.out.2.size (by omega)) H8.out.2; have hC8 := (HC.out.call HK8.out).1; obtain ⟨⟨u0, c0⟩, ⟨u1, c1⟩, ⟨u2, c2⟩, f0, f1, f2⟩ := code_cells hC8 (i := i) (by rw [← HI.out]; exact hdk) hik; clear hC8)
              go_roundw
              case rel =>
                refine ⟨done ++ [x], n2, by rw [List.length_append]; simp only [List.length_cons, List.length_nil]; have := HI.out; omega, by rw [List.length_append]; simp only [List.length_cons, List.length_nil]; rw [← HI.out]; go_num, ?_⟩
                have := HC.out.next HK8.out H8.out.1 HIR.out (by rw [← HI.out]; exact hik)
                rw [← HI.out] at this
                exact this
              case measure => simp [intOf]; omega
      · have e5 : ¬ ((i : Int) < (k : Int)) := by omega
        have HD := HC.out.done (by rw [← HI.out]; omega) hkM.1
        go_wp2
        exact HFS.out _ _ _ _ _ HD.1 rfl HD.2
end Go.Proofs.YtlpnegnpejpdkaaGreatDoor

namespace Go.Proofs.YtlpnegnpejpdkaaGreatDoor
open Go.RowKit

/-- The same, and where the row then lies. -/
theorem step_append_N2 {α : Type} {E : Elt α} {ops : Array Oper} {o : Oper} {a : Act} {K : Act → World → Prop} {Q : Exit → Act → World → Prop} {P : Prop} {w1 w2 : World} {S : Nat → Prop} {B t e b : Nat} (T : Ty t e E.k b) (hgd : o.guard = none) (s x : Operand)
    (ho : o.op = .call { callee := .builtin .append, args := #[s, x], argTypes := #[t, t] }) {v : Value} {l : List α} {cs : List Value} {p : α} {cap : Nat} (hs : a.eval s = v) (hown : OwnN E e B S w1 v l) (hS : ∀ y, S y → y < B) (hB : B ≤ w1.heap.size) (hb : Below w1.heap.size w1 w2) (H : Nat) (hx : a.eval x = .slice (some ⟨H, 0, none⟩) 1 cap) (hH : w2.heap.size = H) (hC : E.C w2 (Nwr S B w2 v) cs p) (hl : l.length + 1 ≤ 100000000)
    (h : ∀ g cap' w', OwnN E e B S w' (.slice (some ⟨g, 0, none⟩) (l.length + 1) cap') (l ++ [p]) → Hid (Below B w1 w' ∧ (∀ y, y < w2.heap.size → v.ownBlock ≠ some y → w'.heap[y]? = w2.heap[y]?) ∧ (v.ownBlock = some g ∨ w2.heap.size ≤ g) ∧ w2.heap.size ≤ w'.heap.size) → K (a.put o.dst (.slice (some ⟨g, 0, none⟩) (l.length + 1) cap')) w') :
    if Region.wanted o (yielded ops a.tmps) = true then Oper.wp Tryz.prog o a (w2.alloc (.cells cs.toArray e)) K Q else P := by
  subst hH
  obtain ⟨i, z, hi, hz, hk, hby, hzs⟩ := T.info
  have hB2 : B ≤ w2.heap.size := Nat.le_trans hB hb.size
  have hb2 : Below w2.heap.size w2 (w2.alloc (.cells cs.toArray e)) := (Below.refl _ _).alloc (Nat.le_refl _) _
  have hbb : Below w1.heap.size w1 (w2.alloc (.cells cs.toArray e)) := hb.trans (hb2.mono hb.size)
  have h2 := hown.on hS hB hbb
  obtain ⟨css, hcs, hro⟩ := id h2.row
  have hC2 := E.on (Keeps.of hb2 (Nwr.lt hS hB2)) (S' := Nwr S B (w2.alloc (.cells cs.toArray e)) v) (fun y hy => hy.imp id fun h => ⟨h.1, Nat.lt_of_lt_of_le h.2.1 hb2.size, h.2.2⟩) hC
  have hsm := T.small
  have hlen : cs.length = 1 * E.k := by rw [E.len hC, Nat.one_mul]
  have hbytes : (l.length + 1) * b ≤ 140737488355328 := by
    have := Nat.mul_le_mul hl hsm
    omega
  have hnb := new_blk w2 (.cells cs.toArray e)
  refine step_append_lies _ hgd s x t ho B e i z E.k b T.slice hi hz hk hby hzs T.pos v l.length css.flatten hs hro ⟨w2.heap.size, 0, none⟩ 1 cap cs hx hlen (World.news_of_block (cs := cs.toArray) hnb) (E.one hC) (by omega) (by unfold maxLen; omega) hbytes (Nat.le_trans hB2 hb2.size) _ rfl ?_
  intro g' cap' w' h1 h3 h4 h5
  have hSl := Nwr.lt (v := v) hS (Nat.le_trans hB2 hb2.size)
  have hk' : Keeps (Nwr S B (w2.alloc (.cells cs.toArray e)) v) (w2.alloc (.cells cs.toArray e)) w' := fun y hy => h3.block y (hSl y hy) fun e => h2.out y hy e.symm
  have hgB : B ≤ g' := (h1.lt g' rfl).1
  have hbw : Below B w1 w' := ((hb.mono hB).trans (hb2.mono hB2)).grown h3 (Nat.le_trans hB2 hb2.size) fun k hk => (h2.lt k hk).1
  refine h g' cap' w' ?_ ⟨hbw, fun y hy hne => (h3.block y (Nat.lt_of_lt_of_le hy hb2.size) fun e => hne e.symm).trans (hb2.block y hy), h4.imp (fun e => e) fun e => by rw [e]; exact hb2.size, Nat.le_trans hb2.size h3.size⟩
  · refine ⟨⟨css ++ [cs], ?_, ?_⟩, fun y hy e => ?_⟩
    · have hup : ∀ y, Nwr S B (w2.alloc (.cells cs.toArray e)) v y → Nwr S B w' (.slice (some ⟨g', 0, none⟩) (l.length + 1) cap') y := fun y hy => hy.imp id fun h => ⟨h.1, Nat.lt_of_lt_of_le h.2.1 h3.size, fun e => by
        injection e with e
        have e : g' = y := e
        rcases h4 with h4 | h4
        · exact h.2.2 (by rw [h4, e])
        · have := h.2.1
          omega⟩
      exact (hcs.on hk' hup).append (Css.one (E.on hk' hup hC2))
    · rw [List.flatten_append, List.length_append]
      simpa using h1
    · rcases hy with hy | hy
      · injection e with e
        have e : g' = y := e
        have := hS y hy
        omega
      · exact hy.2.2 e
theorem Tryz.ty22 : Ty 22 48 EShp.k 24 := by
  obtain ⟨i, hi, h0, h1, h2⟩ := info_parts (show (Tryz.prog.info? 48).map (fun i => (i.zero, i.size, i.bytes)) = some (some (.agg #[.string ⟨#[]⟩, .int .i64 0]), 2, 24) by kernel_rfl)
  exact ⟨by kernel_rfl, ⟨i, _, hi, h0, h1, h2, rfl⟩, by decide, by decide⟩
/-- A global as it lies in its row: the slice of its code as it is. -/
def EGr : Elt (Byt × Int × Value) where
  k := 3
  C _ _ cs x := cs = [.string ⟨x.1.toArray⟩, .int .i64 x.2.1, x.2.2] ∧ x.1.length < 140737488355328 ∧ x.2.2.oneCell' = true
  len := by rintro _ _ _ _ ⟨rfl, _⟩; rfl
  one := by
    rintro _ _ _ _ ⟨rfl, _, h⟩ u hu
    simp only [List.mem_cons, List.not_mem_nil, or_false] at hu
    rcases hu with rfl | rfl | rfl
    · rfl
    · rfl
    · exact h
  on := fun _ _ h => h
theorem Tryz.ty23 : Ty 23 51 EGr.k 48 := by
  obtain ⟨i, hi, h0, h1, h2⟩ := info_parts (show (Tryz.prog.info? 51).map (fun i => (i.zero, i.size, i.bytes)) = some (some (.agg #[.string ⟨#[]⟩, .int .i64 0, .slice none 0 0]), 3, 48) by kernel_rfl)
  exact ⟨by kernel_rfl, ⟨i, _, hi, h0, h1, h2, rfl⟩, by decide, by decide⟩
/-- Two slices in blocks apart. -/
def Apt (u v : Value) : Prop := ∀ b, u.ownBlock = some b → v.ownBlock ≠ some b
theorem Own.keep {α : Type} {E : Elt α} {e B : Nat} {w w' : World} {v : Value} {l : List α} (h : Own E e B w (fun _ => False) v l) (hk : ∀ y, B ≤ y → y < w.heap.size → w'.heap[y]? = w.heap[y]?) : Own E e B w' (fun _ => False) v l :=
  h.on (fun _ h => h.elim) fun g e => hk g (h.lt g e).1 (h.lt g e).2
theorem OwnN.keep {α : Type} {E : Elt α} {e B : Nat} {w w' : World} {v : Value} {l : List α} (h : OwnN E e B (fun _ => False) w v l) (hk : ∀ y, B ≤ y → y < w.heap.size → w'.heap[y]? = w.heap[y]?) (hs : w.heap.size ≤ w'.heap.size) : OwnN E e B (fun _ => False) w' v l := by
  have h1 : Own E e B w' (Nwr (fun _ => False) B w v) v l := Own.on h (fun y hy => by
    rcases hy with hy | hy
    · exact hy.elim
    · exact hk y hy.1 hy.2.1) fun g e => hk g (h.lt g e).1 (h.lt g e).2
  refine h1.up (fun y hy => hy.imp id fun h => ⟨h.1, Nat.lt_of_lt_of_le h.2.1 hs, h.2.2⟩) fun y hy e => ?_
  rcases hy with hy | hy
  · exact hy.elim
  · exact hy.2.2 e
/-- A table that was made: every list in a block of its own, from B on. -/
structure TabR (w : World) (B : Nat) (sv gv : Value) (raws : List (Byt × Int × Value)) (t : Tab) : Prop where
  shp : OwnN EShp 48 B (fun _ => False) w sv t.1
  glb : OwnN EGr 51 B (fun _ => False) w gv raws
  len : raws.length = t.2.length
  cod : ∀ i (h : i < raws.length) (h' : i < t.2.length), raws[i].1 = t.2[i].1 ∧ raws[i].2.1 = t.2[i].2.1 ∧ Own EIns 53 B w (fun _ => False) raws[i].2.2 t.2[i].2.2
  apt : (sv :: gv :: raws.map fun r => r.2.2).Pairwise Apt
theorem TabR.keep {w w' : World} {B : Nat} {sv gv : Value} {raws : List (Byt × Int × Value)} {t : Tab} (h : TabR w B sv gv raws t) (hk : ∀ y, B ≤ y → y < w.heap.size → w'.heap[y]? = w.heap[y]?) (hs : w.heap.size ≤ w'.heap.size) : TabR w' B sv gv raws t :=
  ⟨h.shp.keep hk hs, h.glb.keep hk hs, h.len, fun i a b => ⟨(h.cod i a b).1, (h.cod i a b).2.1, (h.cod i a b).2.2.keep hk⟩, h.apt⟩
/-- A slice that lies below is apart from one that lies behind. -/
theorem apt_of {u v : Value} {n : Nat} (hu : ∀ b, u.ownBlock = some b → b < n) (hv : ∀ b, v.ownBlock = some b → n ≤ b) : Apt u v := fun b h1 h2 => by
  have := hu b h1
  have := hv b h2
  omega
theorem TabR.lt {w : World} {B : Nat} {sv gv : Value} {raws : List (Byt × Int × Value)} {t : Tab} (h : TabR w B sv gv raws t) : ∀ v ∈ (sv :: gv :: raws.map fun r => r.2.2), ∀ b, v.ownBlock = some b → b < w.heap.size := by
  intro v hv b e
  simp only [List.mem_cons, List.mem_map] at hv
  rcases hv with rfl | rfl | ⟨r, hr, rfl⟩
  · exact (h.shp.lt b e).2
  · exact (h.glb.lt b e).2
  · obtain ⟨i, hi, rfl⟩ := List.getElem_of_mem hr
    exact ((h.cod i hi (by rw [← h.len]; exact hi)).2.2.lt b e).2
/-- One global more: its code is new, and then the row grows. -/
theorem TabR.put {w0 w w' : World} {B : Nat} {sv gv gv' : Value} {raws : List (Byt × Int × Value)} {t : Tab} {nm : Byt} {ar : Int} {cv : Value} {c : List Ins} (h : TabR w B sv gv raws t) (h0 : ∀ v ∈ (sv :: gv :: raws.map fun r => r.2.2), ∀ b, v.ownBlock = some b → b < w0.heap.size) (hB : B ≤ w0.heap.size) (hc : Own EIns 53 w0.heap.size w (fun _ => False) cv c)
    (hg : OwnN EGr 51 B (fun _ => False) w' gv' (raws ++ [(nm, ar, cv)])) (hk : ∀ y, y < w.heap.size → gv.ownBlock ≠ some y → w'.heap[y]? = w.heap[y]?) (G : gv'.ownBlock = gv.ownBlock ∨ ∃ g, gv'.ownBlock = some g ∧ w.heap.size ≤ g) : TabR w' B sv gv' (raws ++ [(nm, ar, cv)]) (t.1, t.2 ++ [(nm, ar, c)]) := by
  have hap := h.apt
  rw [List.pairwise_cons, List.pairwise_cons] at hap
  obtain ⟨a1, a2, a3⟩ := hap
  have hsg : Apt sv gv := a1 gv (by simp)
  have keep : ∀ {v : Value}, Apt v gv ∨ Apt gv v → (∀ b, v.ownBlock = some b → b < w.heap.size) → ∀ b, v.ownBlock = some b → w'.heap[b]? = w.heap[b]? := fun hv hl b e => hk b (hl b e) fun e2 => by
    rcases hv with hv | hv
    · exact hv b e e2
    · exact hv b e2 e
  have hlt := h.lt
  have hcl : ∀ b, cv.ownBlock = some b → w0.heap.size ≤ b ∧ b < w.heap.size := hc.lt
  have hgc : Apt gv cv := apt_of (h0 gv (by simp)) fun b e => (hcl b e).1
  -- the new row is apart from what lies below
  have hnew : ∀ v : Value, (Apt v gv ∨ Apt gv v) → (∀ b, v.ownBlock = some b → b < w.heap.size) → Apt v gv' ∧ Apt gv' v := fun v hv hl => by
    refine ⟨fun b e e2 => ?_, fun b e2 e => ?_⟩
    all_goals
      rcases G with G | ⟨g, G, hgw⟩
      · rw [G] at e2
        rcases hv with hv | hv
        · exact hv b e e2
        · exact hv b e2 e
      · have := hl b e
        rw [G] at e2
        injection e2 with e2
        omega
  refine ⟨?_, hg, by simp [h.len], fun i a b => ?_, ?_⟩
  · have h1 : Own EShp 48 B w' (fun _ => False) sv t.1 := by
      obtain ⟨css, q1, q2⟩ := h.shp.row
      have h2 : Own EShp 48 B w (fun _ => False) sv t.1 := ⟨⟨css, ⟨q1.1, fun i a b => q1.2 i a b⟩, q2⟩, fun _ h => h.elim⟩
      exact h2.on (fun _ h => h.elim) (keep (.inl hsg) (hlt sv (by simp)))
    refine ⟨?_, fun y hy e => ?_⟩
    · obtain ⟨css, q1, q2⟩ := h1.row
      exact ⟨css, ⟨q1.1, fun i a b => q1.2 i a b⟩, q2⟩
    · rcases hy with hy | hy
      · exact hy.elim
      · exact hy.2.2 e
  · by_cases hi : i < raws.length
    · have hi2 : i < t.2.length := by rw [← h.len]; exact hi
      have := h.cod i hi hi2
      simp only [List.getElem_append_left hi, List.getElem_append_left hi2]
      have hm : raws[i].2.2 ∈ raws.map fun r => r.2.2 := List.mem_map.2 ⟨raws[i], List.getElem_mem hi, rfl⟩
      exact ⟨this.1, this.2.1, this.2.2.on (fun _ h => h.elim) (keep (.inr (a2 _ hm)) (hlt _ (by simp only [List.mem_cons]; exact .inr (.inr hm))))⟩
    · have e1 : i = raws.length := by rw [List.length_append] at a; simp only [List.length_cons, List.length_nil] at a; omega
      subst e1
      have e2 := h.len
      have x1 : (raws ++ [(nm, ar, cv)])[raws.length] = (nm, ar, cv) := by simp
      have x2 : (t.1, t.2 ++ [(nm, ar, c)]).2[raws.length] = (nm, ar, c) := by simp [e2]
      rw [x1, x2]
      exact ⟨rfl, rfl, (hc.on (fun _ h => h.elim) (keep (.inr hgc) fun b e => (hcl b e).2)).below hB⟩
  · rw [List.map_append]
    have hcv : ∀ v ∈ (sv :: gv :: raws.map fun r => r.2.2), Apt v cv := fun v hv => apt_of (h0 v hv) fun b e => (hcl b e).1
    refine List.pairwise_cons.2 ⟨fun v hv => ?_, List.pairwise_cons.2 ⟨fun v hv => ?_, List.pairwise_append.2 ⟨a3, by simp, fun u hu v hv => ?_⟩⟩⟩
    · simp only [List.mem_cons, List.mem_append, List.map_cons, List.map_nil, List.not_mem_nil, or_false] at hv
      rcases hv with rfl | hv | rfl
      · exact (hnew sv (.inl hsg) (hlt sv (by simp))).1
      · exact a1 v (by simp [hv])
      · exact hcv sv (by simp)
    · simp only [List.mem_append, List.map_cons, List.map_nil, List.mem_cons, List.not_mem_nil, or_false] at hv
      rcases hv with hv | rfl
      · exact (hnew v (.inr (a2 v hv)) (hlt v (by simp only [List.mem_cons]; exact .inr (.inr hv)))).2
      · exact (hnew v (.inr hgc) fun b e => (hcl b e).2).2
    · simp only [List.map_cons, List.map_nil, List.mem_cons, List.not_mem_nil, or_false] at hv
      subst hv
      exact hcv u (by simp only [List.mem_cons]; exact .inr (.inr hu))
/-- Between table's rounds. -/
structure TW (w wr : World) (R X : Nat) (sv gv : Value) (raws : List (Byt × Int × Value)) (t : Tab) (left : Nat) (m : Byt) : Prop where
  x : wr.heap[X]? = some (.cells #[sv, gv] 25 (0, 0))
  z : wr.heap[w.heap.size]? = some (.cells #[.slice none 0 0, .slice none 0 0] 25 (0, 0))
  tab : TabR wr (X + 1) sv gv raws t
  rd : Rd wr R (left : Int) m
  rk : Rk w R wr
  lt : R < w.heap.size ∧ X = w.heap.size + 1
  ml : m.length < 9223372036854775808
theorem TW.size {w wr : World} {R X : Nat} {sv gv : Value} {raws : List (Byt × Int × Value)} {t : Tab} {left : Nat} {m : Byt} (h : TW w wr R X sv gv raws t left m) : X < wr.heap.size := lt_heap h.x
/-- A call of the reader's between. -/
theorem TW.call {w wr w' : World} {R X : Nat} {sv gv : Value} {raws : List (Byt × Int × Value)} {t : Tab} {left left' : Nat} {m m' : Byt} (h : TW w wr R X sv gv raws t left m) (hr : Rd w' R (left' : Int) m') (hk : Rk wr R w') (hm : m'.length ≤ m.length) : TW w w' R X sv gv raws t left' m' := by
  have hX := h.size
  obtain ⟨hR, hXe⟩ := h.lt
  have hs : wr.heap.size ≤ w'.heap.size := hk.size (by omega)
  exact ⟨(hk.2 X hX (by omega)).trans h.x, (hk.2 _ (lt_heap h.z) (by omega)).trans h.z, h.tab.keep (fun y hy hy2 => hk.2 y hy2 (by omega)) hs, hr, h.rk.trans (by omega) hk, h.lt, by have := h.ml; omega⟩
theorem TW.thrown {w wr w' : World} {R X : Nat} {sv gv : Value} {raws : List (Byt × Int × Value)} {t : Tab} {left : Nat} {m : Byt} (h : TW w wr R X sv gv raws t left m) (hk : Rk wr R w') : Rk w R w' := h.rk.trans (by have := h.size; have := h.lt; omega) hk
theorem TW.drew {w wr : World} {R X : Nat} {sv gv : Value} {raws : List (Byt × Int × Value)} {t : Tab} {left : Nat} {m : Byt} (h : TW w wr R X sv gv raws t left m) : TW w wr.drew R X sv gv raws t left m :=
  h.call (w' := wr.drew) (h.rd.on ((Below.refl _ _).drew) rfl) ⟨(Below.refl _ _).drew, fun _ _ _ => rfl⟩ (Nat.le_refl _)
/-- What a store into the table's own variable leaves. -/
theorem TW.turn {w wr w2 w' : World} {R X : Nat} {sv gv sv' gv' : Value} {raws raws' : List (Byt × Int × Value)} {t t' : Tab} {left : Nat} {m : Byt} (h : TW w wr R X sv gv raws t left m) (hb : Below (X + 1) wr w2) (ht : TabR w2 (X + 1) sv' gv' raws' t') (hx : w'.heap[X]? = some (.cells #[sv', gv'] 25 (0, 0))) (hbx : Below X w2 w') (hxs : ∀ y, y ≠ X → w'.heap[y]? = w2.heap[y]?) (hss : w2.heap.size ≤ w'.heap.size) : TW w w' R X sv' gv' raws' t' left m := by
  have hX := h.size
  obtain ⟨hR, hXe⟩ := h.lt
  refine ⟨hx, (hxs _ (by omega)).trans ((hb.block _ (by omega)).trans h.z), ht.keep (fun y hy _ => hxs y (by omega)) hss, (h.rd.on (hb.mono (by omega)) (hb.block R (by omega))).on (hbx.mono (by omega)) (hxs R (by omega)), ?_, h.lt, h.ml⟩
  exact ⟨h.rk.1.trans ((hb.mono (by omega)).trans (hbx.mono (by omega))), fun y hy hR => (hxs y (by omega)).trans ((hb.block y (by omega)).trans (h.rk.2 y hy hR))⟩

theorem times_go {α β : Type} {f : Byt → Option (α × Byt)} {K : List α → Byt → Option (β × Byt)} {T : Option (β × Byt)} {k : Nat} {done : List α} {m m' : Byt} {x : α} (h : T = bindR (timesR f (k + 1) m) fun s r => K (done ++ s) r) (hx : f m = some (x, m')) : T = bindR (timesR f k m') fun s r => K ((done ++ [x]) ++ s) r := by
  rw [h]
  show bindR (bindR (f m) fun a r => bindR (timesR f k r) fun s r => some (a :: s, r)) _ = _
  rw [hx]
  show bindR (bindR (timesR f k m') fun s r => some (x :: s, r)) _ = _
  cases timesR f k m' with
  | none => rfl
  | some p => show K (done ++ (x :: p.1)) p.2 = K ((done ++ [x]) ++ p.1) p.2; rw [List.append_assoc]; rfl
theorem times_no {α β : Type} {f : Byt → Option (α × Byt)} {K : List α → Byt → Option (β × Byt)} {T : Option (β × Byt)} {k : Nat} {m : Byt} (h : T = bindR (timesR f (k + 1) m) K) (hx : f m = none) : T = none := by
  rw [h]
  show bindR (bindR (f m) fun a r => bindR (timesR f k r) fun s r => some (a :: s, r)) _ = _
  rw [hx]
  rfl
theorem glbs_go {β : Type} {K : List Glb → Byt → Option (β × Byt)} {T : Option (β × Byt)} {k left : Nat} {done : List Glb} {m m' : Byt} {x : Glb} (h : T = bindR (glbsR (k + 1) left m) fun s r => K (done ++ s) r) (hx : glbR left m = some (x, m')) : T = bindR (glbsR k (left - x.2.2.length) m') fun s r => K ((done ++ [x]) ++ s) r := by
  rw [h]
  show bindR (bindR (glbR left m) fun a r => bindR (glbsR k (left - a.2.2.length) r) fun s r => some (a :: s, r)) _ = _
  rw [hx]
  show bindR (bindR (glbsR k (left - x.2.2.length) m') fun s r => some (x :: s, r)) _ = _
  cases glbsR k (left - x.2.2.length) m' with
  | none => rfl
  | some p => show K (done ++ (x :: p.1)) p.2 = K ((done ++ [x]) ++ p.1) p.2; rw [List.append_assoc]; rfl
theorem glbs_no {β : Type} {K : List Glb → Byt → Option (β × Byt)} {T : Option (β × Byt)} {k left : Nat} {m : Byt} (h : T = bindR (glbsR (k + 1) left m) K) (hx : glbR left m = none) : T = none := by
  rw [h]
  show bindR (bindR (glbR left m) fun a r => bindR (glbsR k (left - a.2.2.length) r) fun s r => some (a :: s, r)) _ = _
  rw [hx]
  rfl
theorem shp_step (m : Byt) : shpR m = bindR (nameR m) fun s r => bindR (numR 0 0 r) fun n r => some ((s, (n : Int)), r) := rfl
theorem glb_step (left : Nat) (m : Byt) : glbR left m = bindR (nameR m) fun s r => bindR (numR 0 0 r) fun n r => bindR (codeR left r) fun c r => some ((s, (n : Int), c), r) := by
  unfold glbR codeR
  congr 1
  funext s r
  congr 1
  funext n r
  cases cntR (min 8000 left) r with
  | none => rfl
  | some p => rfl
theorem num_less {l r : Byt} {n : Nat} (h : numR 0 0 l = some (n, r)) : r.length ≤ l.length := by rw [(numW_is h).1, List.length_append]; omega
theorem cnt_less {l r : Byt} {n most : Nat} (h : cntR most l = some (n, r)) : r.length ≤ l.length := by rw [(cnt_is h).1, List.length_append]; omega
theorem name_less {l r s : Byt} (h : nameR l = some (s, r)) : r.length ≤ l.length := by rw [(name_is h).1, List.length_append]; omega
theorem code_less {l r : Byt} {left : Nat} {c : List Ins} (h : codeR left l = some (c, r)) : r.length ≤ l.length ∧ c.length ≤ left := by
  obtain ⟨k, m, h1, h2⟩ := bind_some h
  obtain ⟨e1, e2⟩ := times_is (g := insW) k m r c (fun a l r ha _ => ins_is ha) h2
  have h3 := cnt_less h1
  rw [e2, List.length_append] at h3
  have := (cnt_is h1).2.1
  omega
end Go.Proofs.YtlpnegnpejpdkaaGreatDoor

namespace Go.Proofs.YtlpnegnpejpdkaaGreatDoor
open Go.RowKit

def markB (b : UInt8) : Bool := decide (b.toNat = 34) || decide (b.toNat = 92)
def markQ (b : UInt8) : Byt := if markB b then [92, b] else [b]
def quotQ (s : Byt) : Byt := s.flatMap markQ
def nameT (s : Byt) : Byt := [32, 34] ++ quotQ s ++ [34]
theorem quot_snoc (s : Byt) (b : UInt8) : quotQ (s ++ [b]) = quotQ s ++ markQ b := by simp [quotQ]
theorem quot_len (s : Byt) : (quotQ s).length ≤ 2 * s.length := by
  induction s with
  | nil => exact Nat.le_refl _
  | cons a r ih =>
    show (markQ a ++ quotQ r).length ≤ _
    rw [List.length_append, List.length_cons]
    have : (markQ a).length ≤ 2 := by unfold markQ; split <;> simp
    omega
set_option maxRecDepth 10000 in
theorem marked_any (b : UInt8) (w : World) : Calls Tryz.prog 125 #[.int .u8 (b.toNat : Nat)] w fun r w' => r = .returned (.bool (markB b)) ∧ w' = w := by
  have HB : Hid (markB b = (decide (b.toNat = 34) || decide (b.toNat = 92))) := rfl
  generalize markB b = m at *
  generalize b.toNat = n at *
  by_cases h1 : n = 34
  · have e1 : ((n : Int) == 34) = true := by simp [h1]
    have HM : Hid (m = true) := by show _ = _; rw [HB.out, decide_eq_true h1]; rfl
    clear HB h1
    go_enter Tryz.func125, Tryz.ntmps125
    go_wp2
    go_ret
    exact ⟨by rw [HM.out]; rfl, rfl⟩
  · have e1 : ((n : Int) == 34) = false := by simp; omega
    by_cases h2 : n = 92
    · have e2 : ((n : Int) == 92) = true := by simp [h2]
      have HM : Hid (m = true) := by show _ = _; rw [HB.out, decide_eq_false h1, decide_eq_true h2]; rfl
      clear HB h1 h2
      go_enter Tryz.func125, Tryz.ntmps125
      go_wp2
      go_ret
      exact ⟨by rw [HM.out]; rfl, rfl⟩
    · have e2 : ((n : Int) == 92) = false := by simp; omega
      have HM : Hid (m = false) := by show _ = _; rw [HB.out, decide_eq_false h1, decide_eq_false h2]; rfl
      clear HB h1 h2
      go_enter Tryz.func125, Tryz.ntmps125
      go_wp2
      go_ret
      exact ⟨by rw [HM.out]; rfl, rfl⟩
/-- One byte more was appended, and the writer's row is stored. -/
theorem tx_one {w w' : World} {P : Nat} {sv gv v v' : Value} {L : Byt} {b : UInt8} (hP : w.heap[P]? = some (.cells #[sv, gv, v] 69 (0, 0))) (O : OwnN EByt 5 (P + 1) (fun _ => False) w' v' (L ++ [b])) (hb : Below (P + 1) w w') (hk : ∀ y, y < w.heap.size → v.ownBlock ≠ some y → w'.heap[y]? = w.heap[y]?) (hs : w.heap.size ≤ w'.heap.size) (G : v'.ownBlock = v.ownBlock ∨ ∃ g, v'.ownBlock = some g ∧ w.heap.size ≤ g) :
    TX (w'.setCell ⟨P, 2, none⟩ v') P sv gv (L ++ [b]) v'.ownBlock ∧ TO w P v.ownBlock (w'.setCell ⟨P, 2, none⟩ v') v'.ownBlock := by
  have hPw := (hb.block P (Nat.lt_succ_self P)).trans hP
  have hb2 := (Below.refl P w').setCell (p := ⟨P, 2, none⟩) (Nat.le_refl P) v'
  have hkk : ∀ y, y ≠ P → (w'.setCell ⟨P, 2, none⟩ v').heap[y]? = w'.heap[y]? := fun y hy => Below.heap_setCell _ _ _ _ hy
  refine ⟨⟨v', (setCell_block hPw).trans rfl, O.keep (fun y hy _ => hkk y (by omega)) (by rw [World.size_setCell]; exact Nat.le_refl _), rfl⟩, ⟨G, (hb.mono (Nat.le_succ P)).trans hb2, by rw [World.size_setCell]; exact hs, fun y hy hyP hne => (hkk y hyP).trans (hk y hy hne)⟩⟩
set_option maxHeartbeats 16000000 in
set_option maxRecDepth 10000 in
theorem tname_any {w : World} {P : Nat} {sv gv : Value} {l n : Byt} {O : Option Nat} (h : TX w P sv gv l O) (hl : l.length ≤ 60000000) (hn : n.length ≤ 4096) : Calls Tryz.prog 107 #[.pointer (some ⟨P, 0, none⟩), .string ⟨n.toArray⟩] w fun r w' => TP w P sv gv l O (nameT n) r w' := by
  obtain ⟨s, hs0⟩ : ∃ s : ByteArray, s = ⟨n.toArray⟩ := ⟨_, rfl⟩
  have hsz : s.size = n.length := by rw [hs0]; show n.toArray.size = _; rw [List.size_toArray]
  have HN : Hid (n.length = s.size ∧ ∀ j (h : j < s.size) (h' : j < n.length), n[j] = s[j]) := ⟨hsz.symm, fun j h h' => by
    subst hs0
    show n[j] = n.toArray[j]
    simp⟩
  rw [← hs0]
  have hss : s.size ≤ 4096 := by omega
  clear hs0 hsz hn
  have CP := put_any h [32, 34] (by show _ + 2 ≤ _; omega)
  go_enter Tryz.func107, Tryz.ntmps107
  go_upto_region 1 with (go_at_call 106; (with_reducible refine Calls.mono CP ?_); rintro e2 w2 ⟨rfl, H2⟩)
  go_upto_region 2 with fail
  clear CP h
  go_loopw [9] (fun iv wr => ∃ (j : Nat) (O' : Option Nat), j ≤ s.size ∧ iv = .int .i64 j ∧ Hid (TX wr P sv gv (l ++ ([32, 34] ++ quotQ (n.take j))) O' ∧ TO w P O wr O')) (fun iv _ => s.size - (intOf iv).toNat)
  case atStart =>
    obtain ⟨O', k1, k2⟩ := H2.out
    exact ⟨0, O', by omega, by go_num, k1, k2⟩
  case round =>
    clear H2
    obtain ⟨j, O1, hj, rfl, HJ⟩ := hrel
    by_cases hlt : j < s.size
    · have i1 : (0 : Int) ≤ (j : Int) := by omega
      have i2 : (j : Int) < (s.size : Int) := by omega
      have HQ : Hid (quotQ (n.take (j + 1)) = quotQ (n.take j) ++ markQ s[j]) := by
        have hj' : j < n.length := by have := HN.out.1; omega
        show _ = _
        rw [List.take_succ_eq_append_getElem hj', quot_snoc, HN.out.2 j hlt hj']
      have CM := fun W => marked_any s[j] W
      cases hmk : markB s[j] with
      | true =>
        rw [hmk] at CM
        have CB := put_any HJ.out.1 [92] (by
          rw [List.length_append, List.length_append]
          have := quot_len (n.take j)
          rw [List.length_take] at this
          have h3 : [32, 34].length = 2 := rfl
          have h4 : ([92] : Byt).length = 1 := rfl
          omega)
        have HMQ : Hid (markQ s[j] = [92] ++ [s[j]]) := by show _ = _; unfold markQ; rw [hmk]; rfl
        clear hmk
        go_upto_region 6 with (first | (go_at_call 125; (with_reducible refine Calls.mono (CM _) ?_); rintro e3 w3 ⟨rfl, hw⟩; obtain rfl := hw.symm; clear hw) | (go_at_call 106; (with_reducible refine Calls.mono CB ?_); rintro e4 w4 ⟨rfl, H4⟩))
        obtain ⟨M, hM⟩ : ∃ M, M = l ++ ([32, 34] ++ quotQ (n.take j)) ++ [92] := ⟨_, rfl⟩
        have HM : Hid (∃ O2, TX w4 P sv gv M O2 ∧ TO w P O w4 O2) := by
          obtain ⟨O2, k1, k2⟩ := H4.out
          exact ⟨O2, by rw [hM]; exact k1, HJ.out.2.trans k2⟩
        have HME : Hid (M ++ [s[j]] = l ++ ([32, 34] ++ quotQ (n.take (j + 1)))) := by
          show _ = _
          rw [HQ.out, HMQ.out, hM]
          simp only [List.append_assoc]
        have hMl : M.length + 1 ≤ 100000000 := by
          rw [hM, List.length_append, List.length_append, List.length_append]
          have := quot_len (n.take j)
          rw [List.length_take] at this
          have h3 : [32, 34].length = 2 := rfl
          have h4 : ([92] : Byt).length = 1 := rfl
          have := HN.out.1
          omega
        clear hM H4 HJ CB HMQ HQ CM
        obtain ⟨O2, ⟨v, hP, hO, rfl⟩, hTO⟩ := HM.out
        obtain ⟨ad, cap, rfl⟩ := hO.len
        have hbD := (Below.refl w4.heap.size w4).drew
        obtain ⟨D, hD⟩ : ∃ D, D = w4.drew := ⟨_, rfl⟩
        have HPD : Hid (D.heap[P]? = some (.cells #[sv, gv, .slice ad M.length cap] 69 (0, 0))) := by rw [hD]; exact hP
        have HOD : Hid (OwnN EByt 5 (P + 1) (fun _ => False) D (.slice ad M.length cap) M) := by rw [hD]; exact hO.on (fun _ h => h.elim) (lt_heap hP) hbD
        have HTD : Hid (TO w P O D (Value.slice ad M.length cap).ownBlock) := by rw [hD]; exact hTO.trans ⟨.inl rfl, (Below.refl _ _).drew, Nat.le_refl _, fun _ _ _ _ => rfl⟩
        have hS0 : (fun w' : World => w'.cell? ⟨P, 2, none⟩ = some (.slice ad M.length cap)) D := heap_cl HPD.out rfl
        clear HM hTO hP hO hbD
        refine wp_region_M (S := (fun w' : World => w'.cell? ⟨P, 2, none⟩ = some (.slice ad M.length cap))) (L := 12) (n := 13) (by kernel_rfl) rfl (by kernel_rfl) ?_
        rw [← hD]
        clear hD
        refine wpAnyK_go (i := 0) (m' := 1) (some 18) (v := .pointer (some ⟨P, 0, none⟩)) rfl rfl (by kernel_rfl) (by kernel_rfl) (by kernel_rfl) (by kernel_rfl) (by kernel_rfl) (fun _ _ _ h => h) (Or.inl ⟨by rfl, ?_⟩) hS0 ?_
        · intro w' hSw
          go_simp
        try simp only [Act.put, List.setIfInBounds_toArray, List.set_cons_zero, List.set_cons_succ]
        refine wpAnyK_go (i := 1) (m' := 3) (some 19) (v := .pointer (some ⟨P, 0, none⟩)) rfl rfl (by kernel_rfl) (by kernel_rfl) (by kernel_rfl) (by kernel_rfl) (by kernel_rfl) (fun _ _ _ h => h) (Or.inl ⟨by rfl, ?_⟩) hS0 ?_
        · intro w' hSw
          go_simp
        try simp only [Act.put, List.setIfInBounds_toArray, List.set_cons_zero, List.set_cons_succ]
        refine wpAnyK_go (i := 2) (m' := 7) (some 20) (v := .pointer (some ⟨P, 0, none⟩)) rfl rfl (by kernel_rfl) (by kernel_rfl) (by kernel_rfl) (by kernel_rfl) (by kernel_rfl) (fun _ _ _ h => h) (Or.inl ⟨by rfl, ?_⟩) hS0 ?_
        · intro w' hSw
          go_simp
        try simp only [Act.put, List.setIfInBounds_toArray, List.set_cons_zero, List.set_cons_succ]
        refine wpAnyK_go (i := 3) (m' := 15) (some 21) (v := .pointer (some ⟨P, 2, none⟩)) rfl rfl (by kernel_rfl) (by kernel_rfl) (by kernel_rfl) (by kernel_rfl) (by kernel_rfl) (fun _ _ _ h => h) (Or.inl ⟨by rfl, ?_⟩) hS0 ?_
        · intro w' hSw
          go_simp
        try simp only [Act.put, List.setIfInBounds_toArray, List.set_cons_zero, List.set_cons_succ]
        refine wpAnyK_go (i := 4) (m' := 31) (some 22) (v := .slice ad M.length cap) rfl rfl (by kernel_rfl) (by kernel_rfl) (by kernel_rfl) (by kernel_rfl) (by kernel_rfl) (fun _ _ _ h => h) (Or.inl ⟨by rfl, ?_⟩) hS0 ?_
        · intro w' hSw
          have p0 := hSw
          go_simp
        try simp only [Act.put, List.setIfInBounds_toArray, List.set_cons_zero, List.set_cons_succ]
        refine wpAnyK_go (i := 5) (m' := 63) (some 23) (v := .string s) rfl rfl (by kernel_rfl) (by kernel_rfl) (by kernel_rfl) (by kernel_rfl) (by kernel_rfl) (fun _ _ _ h => h) (Or.inl ⟨by rfl, ?_⟩) hS0 ?_
        · intro w' hSw
          go_simp
        try simp only [Act.put, List.setIfInBounds_toArray, List.set_cons_zero, List.set_cons_succ]
        refine wpAnyK_go (i := 6) (m' := 127) (some 24) (v := .int .i64 (j : Int)) rfl rfl (by kernel_rfl) (by kernel_rfl) (by kernel_rfl) (by kernel_rfl) (by kernel_rfl) (fun _ _ _ h => h) (Or.inl ⟨by rfl, ?_⟩) hS0 ?_
        · intro w' hSw
          go_simp
        try simp only [Act.put, List.setIfInBounds_toArray, List.set_cons_zero, List.set_cons_succ]
        refine wpAnyK_go (i := 7) (m' := 255) (some 25) (v := .int .u8 (s[j].toNat : Nat)) rfl rfl (by kernel_rfl) (by kernel_rfl) (by kernel_rfl) (by kernel_rfl) (by kernel_rfl) (fun _ _ _ h => h) (Or.inl ⟨by rfl, ?_⟩) hS0 ?_
        · intro w' hSw
          go_simp
        try simp only [Act.put, List.setIfInBounds_toArray, List.set_cons_zero, List.set_cons_succ]
        refine wpAnyK_only (i := 8) (m' := 511) (by kernel_rfl) rfl (by kernel_rfl) fun K hK => ?_
        go_simp
        have hb5 : Below D.heap.size D (D.alloc (.cells #[.int .u8 (s[j].toNat : Nat)] 5)) := (Below.refl _ _).alloc (Nat.le_refl _) _
        refine hK.out _ _ (fun _ => heap_cl ((hb5.block P (lt_heap HPD.out)).trans HPD.out) rfl) ?_
        clear hK K hb5
        try simp only [Act.put, List.setIfInBounds_toArray, List.set_cons_zero, List.set_cons_succ]
        refine wpAnyK_only (i := 9) (m' := 1023) (by kernel_rfl) rfl (by kernel_rfl) fun K hK => ?_
        refine step_append_N2 (E := EByt) (B := P + 1) (S := fun _ => False) (w1 := D) (w2 := D) (cs := [.int .u8 (s[j].toNat : Nat)]) (p := s[j]) (l := M) (v := .slice ad M.length cap) Tryz.ty40 rfl _ _ rfl rfl HOD.out (fun _ h => h.elim) (lt_heap HPD.out) (Below.refl _ _) D.heap.size rfl rfl rfl (by omega) ?_
        intro g c6 w6 O6 H6
        have hX6 : w6.heap[P]? = some (.cells #[sv, gv, .slice ad M.length cap] 69 (0, 0)) := (H6.out.1.block P (Nat.lt_succ_self _)).trans HPD.out
        have HW6 := tx_one HPD.out O6 H6.out.1 H6.out.2.1 H6.out.2.2.2 (H6.out.2.2.1.imp (fun e => e.symm) fun e => ⟨g, rfl, e⟩)
        have HR6 : Hid (∃ O', TX (w6.setCell ⟨P, 2, none⟩ (.slice (some ⟨g, 0, none⟩) (M.length + 1) c6)) P sv gv (l ++ ([32, 34] ++ quotQ (n.take (j + 1)))) O' ∧ TO w P O (w6.setCell ⟨P, 2, none⟩ (.slice (some ⟨g, 0, none⟩) (M.length + 1) c6)) O') := ⟨_, by rw [← HME.out]; exact HW6.1, HTD.out.trans HW6.2⟩
        refine hK.out _ _ (fun _ => heap_cl hX6 rfl) ?_
        clear hK K HW6 H6 O6 HTD HOD HPD
        try simp only [Act.put, List.setIfInBounds_toArray]
        refine wpAnyK_only (i := 10) (m' := 2047) (by kernel_rfl) rfl (by kernel_rfl) fun K hK => ?_
        go_simp
        refine hK.out _ _ (fun _ => heap_cl hX6 rfl) ?_
        clear hK K
        try simp only [Act.put, List.setIfInBounds_toArray, List.set_cons_zero, List.set_cons_succ]
        refine wpAnyK_only (i := 11) (m' := 4095) (by kernel_rfl) rfl (by kernel_rfl) fun K hK => ?_
        go_simp
        refine hK.out _ _ (fun _ => heap_cl hX6 rfl) ?_
        clear hK K
        have f6 : w6.frozen? ⟨P, 2, none⟩ = false := heap_frozen hX6
        have p6 : w6.cell? ⟨P, 2, none⟩ = some (.slice ad M.length cap) := heap_cl hX6 rfl
        refine wpAnyK_only (i := 12) (m' := 8191) (by kernel_rfl) rfl (by kernel_rfl) fun K hK => ?_
        go_simp
        refine hK.out _ _ (fun h => absurd rfl h) ?_
        clear hK K hX6 f6 p6
        refine wpAnyK_done (by kernel_rfl) ?_ _
        generalize w6.setCell ⟨P, 2, none⟩ (.slice (some ⟨g, 0, none⟩) (M.length + 1) c6) = w8 at *
        go_wp2
        go_roundw
        case rel =>
          obtain ⟨O', k1, k2⟩ := HR6.out
          exact ⟨j + 1, O', hlt, by go_num, k1, k2⟩
        case measure => simp [intOf]; omega
      | false =>
        rw [hmk] at CM
        have HMQ : Hid (markQ s[j] = [s[j]]) := by show _ = _; unfold markQ; rw [hmk]; rfl
        clear hmk
        go_upto_region 6 with (go_at_call 125; (with_reducible refine Calls.mono (CM _) ?_); rintro e3 w3 ⟨rfl, hw⟩; obtain rfl := hw.symm; clear hw)
        obtain ⟨M, hM⟩ : ∃ M, M = l ++ ([32, 34] ++ quotQ (n.take j)) := ⟨_, rfl⟩
        have HM : Hid (∃ O2, TX wr P sv gv M O2 ∧ TO w P O wr O2) := ⟨O1, by rw [hM]; exact HJ.out.1, HJ.out.2⟩
        have HME : Hid (M ++ [s[j]] = l ++ ([32, 34] ++ quotQ (n.take (j + 1)))) := by
          show _ = _
          rw [HQ.out, HMQ.out, hM]
          simp only [List.append_assoc]
        have hMl : M.length + 1 ≤ 100000000 := by
          rw [hM, List.length_append, List.length_append]
          have := quot_len (n.take j)
          rw [List.length_take] at this
          have h3 : [32, 34].length = 2 := rfl
          have := HN.out.1
          omega
        clear hM HJ HMQ HQ CM
        obtain ⟨O2, ⟨v, hP, hO, rfl⟩, hTO⟩ := HM.out
        obtain ⟨ad, cap, rfl⟩ := hO.len
        have hbD := (Below.refl wr.heap.size wr).drew
        obtain ⟨D, hD⟩ : ∃ D, D = wr.drew := ⟨_, rfl⟩
        have HPD : Hid (D.heap[P]? = some (.cells #[sv, gv, .slice ad M.length cap] 69 (0, 0))) := by rw [hD]; exact hP
        have HOD : Hid (OwnN EByt 5 (P + 1) (fun _ => False) D (.slice ad M.length cap) M) := by rw [hD]; exact hO.on (fun _ h => h.elim) (lt_heap hP) hbD
        have HTD : Hid (TO w P O D (Value.slice ad M.length cap).ownBlock) := by rw [hD]; exact hTO.trans ⟨.inl rfl, (Below.refl _ _).drew, Nat.le_refl _, fun _ _ _ _ => rfl⟩
        have hS0 : (fun w' : World => w'.cell? ⟨P, 2, none⟩ = some (.slice ad M.length cap)) D := heap_cl HPD.out rfl
        clear HM hTO hP hO hbD
        refine wp_region_M (S := (fun w' : World => w'.cell? ⟨P, 2, none⟩ = some (.slice ad M.length cap))) (L := 12) (n := 13) (by kernel_rfl) rfl (by kernel_rfl) ?_
        rw [← hD]
        clear hD
        refine wpAnyK_go (i := 0) (m' := 1) (some 18) (v := .pointer (some ⟨P, 0, none⟩)) rfl rfl (by kernel_rfl) (by kernel_rfl) (by kernel_rfl) (by kernel_rfl) (by kernel_rfl) (fun _ _ _ h => h) (Or.inl ⟨by rfl, ?_⟩) hS0 ?_
        · intro w' hSw
          go_simp
        try simp only [Act.put, List.setIfInBounds_toArray, List.set_cons_zero, List.set_cons_succ]
        refine wpAnyK_go (i := 1) (m' := 3) (some 19) (v := .pointer (some ⟨P, 0, none⟩)) rfl rfl (by kernel_rfl) (by kernel_rfl) (by kernel_rfl) (by kernel_rfl) (by kernel_rfl) (fun _ _ _ h => h) (Or.inl ⟨by rfl, ?_⟩) hS0 ?_
        · intro w' hSw
          go_simp
        try simp only [Act.put, List.setIfInBounds_toArray, List.set_cons_zero, List.set_cons_succ]
        refine wpAnyK_go (i := 2) (m' := 7) (some 20) (v := .pointer (some ⟨P, 0, none⟩)) rfl rfl (by kernel_rfl) (by kernel_rfl) (by kernel_rfl) (by kernel_rfl) (by kernel_rfl) (fun _ _ _ h => h) (Or.inl ⟨by rfl, ?_⟩) hS0 ?_
        · intro w' hSw
          go_simp
        try simp only [Act.put, List.setIfInBounds_toArray, List.set_cons_zero, List.set_cons_succ]
        refine wpAnyK_go (i := 3) (m' := 15) (some 21) (v := .pointer (some ⟨P, 2, none⟩)) rfl rfl (by kernel_rfl) (by kernel_rfl) (by kernel_rfl) (by kernel_rfl) (by kernel_rfl) (fun _ _ _ h => h) (Or.inl ⟨by rfl, ?_⟩) hS0 ?_
        · intro w' hSw
          go_simp
        try simp only [Act.put, List.setIfInBounds_toArray, List.set_cons_zero, List.set_cons_succ]
        refine wpAnyK_go (i := 4) (m' := 31) (some 22) (v := .slice ad M.length cap) rfl rfl (by kernel_rfl) (by kernel_rfl) (by kernel_rfl) (by kernel_rfl) (by kernel_rfl) (fun _ _ _ h => h) (Or.inl ⟨by rfl, ?_⟩) hS0 ?_
        · intro w' hSw
          have p0 := hSw
          go_simp
        try simp only [Act.put, List.setIfInBounds_toArray, List.set_cons_zero, List.set_cons_succ]
        refine wpAnyK_go (i := 5) (m' := 63) (some 23) (v := .string s) rfl rfl (by kernel_rfl) (by kernel_rfl) (by kernel_rfl) (by kernel_rfl) (by kernel_rfl) (fun _ _ _ h => h) (Or.inl ⟨by rfl, ?_⟩) hS0 ?_
        · intro w' hSw
          go_simp
        try simp only [Act.put, List.setIfInBounds_toArray, List.set_cons_zero, List.set_cons_succ]
        refine wpAnyK_go (i := 6) (m' := 127) (some 24) (v := .int .i64 (j : Int)) rfl rfl (by kernel_rfl) (by kernel_rfl) (by kernel_rfl) (by kernel_rfl) (by kernel_rfl) (fun _ _ _ h => h) (Or.inl ⟨by rfl, ?_⟩) hS0 ?_
        · intro w' hSw
          go_simp
        try simp only [Act.put, List.setIfInBounds_toArray, List.set_cons_zero, List.set_cons_succ]
        refine wpAnyK_go (i := 7) (m' := 255) (some 25) (v := .int .u8 (s[j].toNat : Nat)) rfl rfl (by kernel_rfl) (by kernel_rfl) (by kernel_rfl) (by kernel_rfl) (by kernel_rfl) (fun _ _ _ h => h) (Or.inl ⟨by rfl, ?_⟩) hS0 ?_
        · intro w' hSw
          go_simp
        try simp only [Act.put, List.setIfInBounds_toArray, List.set_cons_zero, List.set_cons_succ]
        refine wpAnyK_only (i := 8) (m' := 511) (by kernel_rfl) rfl (by kernel_rfl) fun K hK => ?_
        go_simp
        have hb5 : Below D.heap.size D (D.alloc (.cells #[.int .u8 (s[j].toNat : Nat)] 5)) := (Below.refl _ _).alloc (Nat.le_refl _) _
        refine hK.out _ _ (fun _ => heap_cl ((hb5.block P (lt_heap HPD.out)).trans HPD.out) rfl) ?_
        clear hK K hb5
        try simp only [Act.put, List.setIfInBounds_toArray, List.set_cons_zero, List.set_cons_succ]
        refine wpAnyK_only (i := 9) (m' := 1023) (by kernel_rfl) rfl (by kernel_rfl) fun K hK => ?_
        refine step_append_N2 (E := EByt) (B := P + 1) (S := fun _ => False) (w1 := D) (w2 := D) (cs := [.int .u8 (s[j].toNat : Nat)]) (p := s[j]) (l := M) (v := .slice ad M.length cap) Tryz.ty40 rfl _ _ rfl rfl HOD.out (fun _ h => h.elim) (lt_heap HPD.out) (Below.refl _ _) D.heap.size rfl rfl rfl (by omega) ?_
        intro g c6 w6 O6 H6
        have hX6 : w6.heap[P]? = some (.cells #[sv, gv, .slice ad M.length cap] 69 (0, 0)) := (H6.out.1.block P (Nat.lt_succ_self _)).trans HPD.out
        have HW6 := tx_one HPD.out O6 H6.out.1 H6.out.2.1 H6.out.2.2.2 (H6.out.2.2.1.imp (fun e => e.symm) fun e => ⟨g, rfl, e⟩)
        have HR6 : Hid (∃ O', TX (w6.setCell ⟨P, 2, none⟩ (.slice (some ⟨g, 0, none⟩) (M.length + 1) c6)) P sv gv (l ++ ([32, 34] ++ quotQ (n.take (j + 1)))) O' ∧ TO w P O (w6.setCell ⟨P, 2, none⟩ (.slice (some ⟨g, 0, none⟩) (M.length + 1) c6)) O') := ⟨_, by rw [← HME.out]; exact HW6.1, HTD.out.trans HW6.2⟩
        refine hK.out _ _ (fun _ => heap_cl hX6 rfl) ?_
        clear hK K HW6 H6 O6 HTD HOD HPD
        try simp only [Act.put, List.setIfInBounds_toArray]
        refine wpAnyK_only (i := 10) (m' := 2047) (by kernel_rfl) rfl (by kernel_rfl) fun K hK => ?_
        go_simp
        refine hK.out _ _ (fun _ => heap_cl hX6 rfl) ?_
        clear hK K
        try simp only [Act.put, List.setIfInBounds_toArray, List.set_cons_zero, List.set_cons_succ]
        refine wpAnyK_only (i := 11) (m' := 4095) (by kernel_rfl) rfl (by kernel_rfl) fun K hK => ?_
        go_simp
        refine hK.out _ _ (fun _ => heap_cl hX6 rfl) ?_
        clear hK K
        have f6 : w6.frozen? ⟨P, 2, none⟩ = false := heap_frozen hX6
        have p6 : w6.cell? ⟨P, 2, none⟩ = some (.slice ad M.length cap) := heap_cl hX6 rfl
        refine wpAnyK_only (i := 12) (m' := 8191) (by kernel_rfl) rfl (by kernel_rfl) fun K hK => ?_
        go_simp
        refine hK.out _ _ (fun h => absurd rfl h) ?_
        clear hK K hX6 f6 p6
        refine wpAnyK_done (by kernel_rfl) ?_ _
        generalize w6.setCell ⟨P, 2, none⟩ (.slice (some ⟨g, 0, none⟩) (M.length + 1) c6) = w8 at *
        go_wp2
        go_roundw
        case rel =>
          obtain ⟨O', k1, k2⟩ := HR6.out
          exact ⟨j + 1, O', hlt, by go_num, k1, k2⟩
        case measure => simp [intOf]; omega
    · have e3 : ¬ ((j : Int) < (s.size : Int)) := by omega
      have hjn : n.take j = n := by rw [List.take_of_length_le (by have := HN.out.1; omega)]
      rw [hjn] at HJ
      have CE := put_any HJ.out.1 [34] (by
        rw [List.length_append, List.length_append]
        have := quot_len n
        have h3 : [32, 34].length = 2 := rfl
        have h4 : ([34] : Byt).length = 1 := rfl
        have := HN.out.1
        omega)
      have HTO : Hid (TO w P O wr O1) := HJ.out.2
      clear HJ hjn
      go_wp2_with (go_at_call 106; (with_reducible refine Calls.mono CE ?_); rintro e4 w4 ⟨rfl, H4⟩)
      refine bodyPost_end (v := .tuple #[]) (by simp [results, Tryz.results107, go_sem]) rfl ?_
      obtain ⟨O2, k1, k2⟩ := H4.out
      refine ⟨rfl, O2, ?_, HTO.out.trans k2⟩
      have e : l ++ nameT n = l ++ ([32, 34] ++ quotQ n) ++ [34] := by unfold nameT; simp only [List.append_assoc]
      rw [e]
      exact k1
end Go.Proofs.YtlpnegnpejpdkaaGreatDoor
