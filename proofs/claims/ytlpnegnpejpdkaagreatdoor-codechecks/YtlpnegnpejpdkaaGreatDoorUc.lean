/- IndexAny at the three signs that end a word: texts of at most eight bytes, of any bytes. -/
import Derived.Test.YtlpnegnpejpdkaaGreatDoorUb
import Derived.RangeFuncRecord
namespace Go.Proofs.YtlpnegnpejpdkaaGreatDoor
open Go.RowKit

theorem any_none (ch : List UInt8) : ∀ l : List UInt8, (∀ b ∈ l, ch.contains b = false) → Lib.indexAny l ch = -1
  | [], _ => rfl
  | b :: l, h => by
    have h1 := h b (by simp)
    have h2 := any_none ch l (fun x hx => h x (by simp [hx]))
    unfold Lib.indexAny
    rw [h1, h2]
    rfl
theorem any_at (ch : List UInt8) : ∀ (l : List UInt8) (p : Nat) (hp : p < l.length), (∀ j (h : j < l.length), j < p → ch.contains l[j] = false) → ch.contains l[p] = true → Lib.indexAny l ch = p
  | [], p, hp, _, _ => by simp at hp
  | b :: l, 0, _, _, h => by
    have h : ch.contains b = true := h
    unfold Lib.indexAny
    rw [h]
    rfl
  | b :: l, p + 1, hp, hn, h => by
    have h1 : ch.contains b = false := hn 0 (by simp) (by omega)
    have h2 := any_at ch l p (by simpa using hp) (fun j hj hlt => hn (j + 1) (by simpa using hj) (by omega)) h
    unfold Lib.indexAny
    rw [h1, h2]
    have : (((p : Nat) : Int) == -1) = false := by simp
    simp [this]
theorem decode_wide (s : ByteArray) (pos : Nat) (h : pos < s.size) (ha : ¬ (s.get! (pos + 0)).toNat < 128) (k : Nat) (hk : k < (Utf8.decode s pos).2) : pos + k < s.size ∧ ¬ (s.get! (pos + k)).toNat < 128 := by
  have h0 : k = 0 → pos + k < s.size ∧ ¬ (s.get! (pos + k)).toNat < 128 := fun e => by subst e; exact ⟨h, ha⟩
  simp only [Utf8.decode, ha, if_false] at hk
  repeat' split at hk
  all_goals simp only [Bool.and_eq_true, decide_eq_true_eq, beq_iff_eq] at *
  all_goals first
    | exact h0 (by omega)
    | (have hk4 : k = 0 ∨ k = 1 ∨ k = 2 ∨ k = 3 := by omega
       rcases hk4 with rfl | rfl | rfl | rfl
       · exact h0 rfl
       · first | omega | exact ⟨by omega, by omega⟩
       · first | omega | exact ⟨by omega, by omega⟩
       · first | omega | exact ⟨by omega, by omega⟩)
theorem next_gen {P : Program} (w : World) (b : Nat) (s : ByteArray) (pos : Nat) (ty : TypeId) (hb : w.heap[b]? = some (.stringIter s pos)) (h : pos < s.size) :
    (Instr.next (.pointer (some ⟨b, 0, none⟩)) true ty).run P w = .ok (.tuple #[.bool true, .int .i64 pos, .int .i32 (Utf8.decode s pos).1]) (w.putObj b (.stringIter s (pos + (Utf8.decode s pos).2))) := by
  simp only [Instr.next, getObj, setObj, Sem.run_bind, Sem.run, hb, Result.andThen, h, if_true]
  simp [goInt, World.putObj]
theorem next_done {P : Program} (w : World) (b : Nat) (s : ByteArray) (pos : Nat) (ty : TypeId) (hb : w.heap[b]? = some (.stringIter s pos)) (h : ¬ pos < s.size) :
    (Instr.next (.pointer (some ⟨b, 0, none⟩)) true ty).run P w = .ok (.tuple #[.bool false]) w := by
  simp [Instr.next, getObj, Sem.run, hb, h]
theorem get_list (l : List UInt8) (j : Nat) (h : j < l.length) : (ByteArray.get! ⟨l.toArray⟩ j) = l[j] := by
  simp [ByteArray.get!, h]
/-- Between the rounds: the iterator is at pos, and no sign stands ahead of it. -/
structure AnW (w wr : World) (l : List UInt8) (pos : Nat) : Prop where
  le : pos ≤ l.length
  it : wr.heap[w.heap.size]? = some (.stringIter ⟨l.toArray⟩ pos)
  bel : Below w.heap.size w wr
  no : ∀ j (h : j < l.length), j < pos → [32, 9, 10, 13, 34].contains l[j] = false
theorem AnW.step {w wr wr' : World} {l : List UInt8} {pos n : Nat} (h : AnW w wr l pos) (hle : pos + n ≤ l.length) (hno : ∀ j (h : j < l.length), pos ≤ j → j < pos + n → [32, 9, 10, 13, 34].contains l[j] = false) (hb : Below (w.heap.size + 1) (wr.putObj w.heap.size (.stringIter ⟨l.toArray⟩ (pos + n))) wr') : AnW w wr' l (pos + n) := by
  have hlt : w.heap.size < wr.heap.size := by
    rcases Nat.lt_or_ge w.heap.size wr.heap.size with h1 | h1
    · exact h1
    · have := h.it
      rw [Array.getElem?_eq_none h1] at this
      cases this
  refine ⟨hle, ?_, ?_, fun j hj hlt => ?_⟩
  · rw [hb.block _ (by omega)]
    exact World.putObj_heap_same hlt
  · have h1 : Below w.heap.size wr (wr.putObj w.heap.size (.stringIter ⟨l.toArray⟩ (pos + n))) := ⟨rfl, rfl, rfl, by simp [World.putObj], fun k hk => World.putObj_heap_other (by omega)⟩
    exact h.bel.trans (h1.trans (hb.mono (by omega)))
  · by_cases hp : j < pos
    · exact h.no j hj hp
    · exact hno j hj (by omega) hlt
theorem byte3 (b : UInt8) : ([32, 9, 10, 13, 34].contains b = true → decide (Lib.indexByte [32, 9, 10, 13, 34] b ≥ 0) = true) ∧ ([32, 9, 10, 13, 34].contains b = false → Lib.indexByte [32, 9, 10, 13, 34] b = -1) := by
  by_cases h1 : b = 32
  · subst h1; decide
  · by_cases h2 : b = 9
    · subst h2; decide
    · by_cases h3 : b = 10
      · subst h3; decide
      · by_cases h4 : b = 13
        · subst h4; decide
        · by_cases h5 : b = 34
          · subst h5; decide
          · refine ⟨fun h => ?_, fun _ => ?_⟩
            · simp [h1, h2, h3, h4, h5] at h
            · simp [Lib.indexByte, Ne.symm h1, Ne.symm h2, Ne.symm h3, Ne.symm h4, Ne.symm h5]
set_option maxHeartbeats 8000000 in
set_option maxRecDepth 10000 in
theorem any_short (l : List UInt8) (hl : l.length ≤ 8) (w : World) : Calls Tryz.prog 111 #[.string ⟨l.toArray⟩, .string ⟨#[32, 9, 10, 13, 34]⟩] w fun e w' => e = .returned (.int .i64 (Lib.indexAny l [32, 9, 10, 13, 34])) ∧ Below w.heap.size w w' := by
  have CA : ∀ W, Calls Tryz.prog 129 #[.int .i64 l.length] W fun e w' => e = .returned (.bool false) ∧ w' = W := fun W => by
    have := Tryz.strings_shouldUseASCIISet l.length W
    have hd : decide ((8 : Int) < l.length) = false := by simp; omega
    simpa [hd] using this
  have hsz : (⟨l.toArray⟩ : ByteArray).size = l.length := by show l.toArray.size = _; simp
  have HS : Hid ((⟨l.toArray⟩ : ByteArray).size = l.length) := hsz
  have A0 : AnW w (w.iter ⟨l.toArray⟩ 0) l 0 := ⟨Nat.zero_le _, World.iter_heap _ _ _, (Below.refl _ _).alloc (Nat.le_refl _) _, fun j _ h => absurd h (by omega)⟩
  go_enter Tryz.func111, Tryz.ntmps111
  go_wp2_with (first | (go_at_call 129; (with_reducible refine Calls.mono (CA _) ?_); rintro e' w1 ⟨rfl, rfl⟩))
  clear CA hsz
  skip
  go_loopw [9] (fun _ wr => ∃ pos, AnW w1 wr l pos) (fun _ wr => l.length - wr.iterPos w1.heap.size)
  case atStart => exact ⟨0, A0⟩
  case round =>
    obtain ⟨pos, A⟩ := hrel
    have hsz := HS.out
    by_cases hlt : pos < l.length
    · have hlt' : pos < (⟨l.toArray⟩ : ByteArray).size := by omega
      have hnx := fun ty => next_gen (P := Tryz.prog) wr w1.heap.size ⟨l.toArray⟩ pos ty A.it hlt'
      have HW : Hid (∀ n W, Below (w1.heap.size + 1) (wr.putObj w1.heap.size (.stringIter ⟨l.toArray⟩ (pos + n))) W → pos + n ≤ l.length → (∀ j (h : j < l.length), pos ≤ j → j < pos + n → [32, 9, 10, 13, 34].contains l[j] = false) → AnW w1 W l (pos + n)) := fun n W hb h1 h2 => A.step h1 h2 hb
      have HM : Hid (∀ n W, 1 ≤ n → AnW w1 W l (pos + n) → l.length - W.iterPos w1.heap.size < l.length - wr.iterPos w1.heap.size) := fun n W hn hA => by
        simp only [World.iterPos, hA.it, A.it]
        omega
      have HZ : Hid (w1.heap.size + 1 ≤ wr.heap.size) := by
        rcases Nat.lt_or_ge w1.heap.size wr.heap.size with h1 | h1
        · exact h1
        · have := A.it
          rw [Array.getElem?_eq_none h1] at this
          cases this
      have HN : Hid (∀ j (h : j < l.length), j < pos → [32, 9, 10, 13, 34].contains l[j] = false) := A.no
      have HB : Hid (Below w1.heap.size w1 wr) := A.bel
      have hbyte : (⟨l.toArray⟩ : ByteArray)[pos]'hlt' = l[pos] := by
        show l.toArray[pos] = _
        simp
      by_cases ha : l[pos].toNat < 128
      · rw [decode_ascii _ pos hlt' (by rw [hbyte]; exact ha), hbyte] at hnx
        have CR : ∀ W, Calls Tryz.prog 128 #[.string ⟨#[32, 9, 10, 13, 34]⟩, .int .i32 (l[pos].toNat : Nat)] W fun e w' => e = .returned (.int .i64 (Lib.indexByte [32, 9, 10, 13, 34] l[pos])) ∧ w' = W := fun W => by
          have := Tryz.strings_IndexRune_ascii ⟨#[32, 9, 10, 13, 34]⟩ (l[pos].toNat : Nat) W (by omega) (by omega)
          simpa using this
        obtain ⟨y1, y2⟩ := byte3 l[pos]
        have HC : Hid ([32, 9, 10, 13, 34].contains l[pos] = true → Lib.indexAny l [32, 9, 10, 13, 34] = pos) := fun h => any_at _ l pos hlt HN.out h
        have HC2 : Hid ([32, 9, 10, 13, 34].contains l[pos] = false → ∀ j (h : j < l.length), pos ≤ j → j < pos + 1 → [32, 9, 10, 13, 34].contains l[j] = false) := fun h j hj h1 h2 => by
          have : j = pos := by omega
          subst this
          exact h
        generalize hcb : [32, 9, 10, 13, 34].contains l[pos] = cb at y1 y2 HC HC2
        generalize Lib.indexByte [32, 9, 10, 13, 34] l[pos] = X at CR y1 y2
        generalize ((l[pos].toNat : Nat) : Int) = rr at hnx CR
        clear hbyte hsz A
        cases cb with
        | true =>
          have y := y1 rfl
          have HE : Hid (Lib.indexAny l [32, 9, 10, 13, 34] = pos) := HC.out rfl
          clear y1 y2 HC HC2 hcb
          go_wp2_with (first | (go_at_call 128; (with_reducible refine Calls.mono (CR _) ?_); rintro e' w2 ⟨rfl, rfl⟩))
          go_ret
          refine ⟨by rw [HE.out]; rfl, ?_⟩
          exact HB.out.trans ⟨rfl, rfl, rfl, by simp [World.putObj], fun k hk => World.putObj_heap_other (by omega)⟩
        | false =>
          have y := y2 rfl
          subst y
          have HE : Hid (∀ j (h : j < l.length), pos ≤ j → j < pos + 1 → [32, 9, 10, 13, 34].contains l[j] = false) := HC2.out rfl
          clear y1 y2 HC HC2 hcb
          go_wp2_with (first | (go_at_call 128; (with_reducible refine Calls.mono (CR _) ?_); rintro e' w2 ⟨rfl, rfl⟩))
          go_roundw
          case rel => exact ⟨pos + 1, HW.out 1 _ (Below.refl _ _) (by omega) HE.out⟩
          case measure => exact HM.out 1 _ (Nat.le_refl _) (HW.out 1 _ (Below.refl _ _) (by omega) HE.out)
      · have hd := decode_high ⟨l.toArray⟩ pos hlt' (by rw [hbyte]; omega)
        have hle := decode_le ⟨l.toArray⟩ pos
        have hwd := decode_wide ⟨l.toArray⟩ pos hlt' (by rw [get_at _ pos hlt', hbyte]; exact ha)
        generalize Utf8.decode ⟨l.toArray⟩ pos = dd at hd hle hwd hnx
        obtain ⟨rr, n⟩ := dd
        have CR := fun W => rune_high (rr : Nat) (by have := hd.1; omega) (by omega) W
        have hn1 : 1 ≤ n := hd.2
        have hen : pos + n ≤ l.length := by
          have := (hwd (n - 1) (by show n - 1 < n; omega)).1
          omega
        have HC2 : Hid (∀ j (h : j < l.length), pos ≤ j → j < pos + n → [32, 9, 10, 13, 34].contains l[j] = false) := fun j hj h1 h2 => by
          have := (hwd (j - pos) (by show j - pos < n; omega)).2
          rw [show pos + (j - pos) = j by omega, get_list l j hj] at this
          generalize l[j] = b at this
          have e1 : b ≠ 32 := fun e => this (by rw [e]; decide)
          have e2 : b ≠ 9 := fun e => this (by rw [e]; decide)
          have e3 : b ≠ 10 := fun e => this (by rw [e]; decide)
          have e4 : b ≠ 13 := fun e => this (by rw [e]; decide)
          have e5 : b ≠ 34 := fun e => this (by rw [e]; decide)
          simp [e1, e2, e3, e4, e5]
        clear hwd hd hle hbyte hsz A
        replace hnx : ∀ ty, (Instr.next (.pointer (some ⟨w1.heap.size, 0, none⟩)) true ty).run Tryz.prog wr = .ok (.tuple #[.bool true, .int .i64 pos, .int .i32 (rr : Nat)]) (wr.putObj w1.heap.size (.stringIter ⟨l.toArray⟩ (pos + n))) := hnx
        generalize ((rr : Nat) : Int) = ri at hnx CR
        go_wp2_with (first | (go_at_call 128; (with_reducible refine Calls.mono (CR _) ?_); rintro e' w2 ⟨rfl, b2⟩))
        have b2' : Below (w1.heap.size + 1) (wr.putObj w1.heap.size (.stringIter ⟨l.toArray⟩ (pos + n))) w2 := b2.mono (by have := HZ.out; simp [World.putObj]; omega)
        go_roundw
        case rel => exact ⟨pos + n, HW.out n _ b2' hen HC2.out⟩
        case measure => exact HM.out n _ hn1 (HW.out n _ b2' hen HC2.out)
    · have hnx := fun ty => next_done (P := Tryz.prog) wr w1.heap.size ⟨l.toArray⟩ pos ty A.it (by omega)
      have hr := any_none [32, 9, 10, 13, 34] l (fun b hb => by
        obtain ⟨j, hj, rfl⟩ := List.mem_iff_getElem.1 hb
        exact A.no j hj (by omega))
      go_wp2
      go_ret
      exact ⟨by rw [hr]; rfl, A.bel⟩
end Go.Proofs.YtlpnegnpejpdkaaGreatDoor
