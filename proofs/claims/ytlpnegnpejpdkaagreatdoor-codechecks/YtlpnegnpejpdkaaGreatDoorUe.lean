/- textReader: words. -/
import Derived.Test.YtlpnegnpejpdkaaGreatDoorUd
import Derived.Test.YtlpnegnpejpdkaaGreatDoorMhx
namespace Go.Proofs.YtlpnegnpejpdkaaGreatDoor
open Go.RowKit

def skipP (l : Byt) : Byt := l.dropWhile blankB
def wordB (b : UInt8) : Bool := !endB b
def wordP (l : Byt) : Byt × Byt := ((skipP l).takeWhile wordB, (skipP l).dropWhile wordB)
/-- A text reader in block R. -/
def TB (w : World) (R : Nat) (l : Byt) (sv gv ma mb fv : Value) : Prop := w.heap[R]? = some (.cells #[.string ⟨l.toArray⟩, sv, gv, ma, mb, fv] 86 (0, 0))
theorem TB.on {w w' : World} {R : Nat} {l : Byt} {sv gv ma mb fv : Value} (h : TB w R l sv gv ma mb fv) (hb : Below w.heap.size w w') : TB w' R l sv gv ma mb fv ∧ Rk w R w' := ⟨(hb.block R (lt_heap h)).trans h, hb.mono (Nat.le_of_lt (lt_heap h)), fun y hy _ => hb.block y hy⟩
theorem TB.rest {w : World} {R : Nat} {l m : Byt} {sv gv ma mb fv : Value} (h : TB w R l sv gv ma mb fv) : TB (w.setCell ⟨R, 0, none⟩ (.string ⟨m.toArray⟩)) R m sv gv ma mb fv ∧ Rk w R (w.setCell ⟨R, 0, none⟩ (.string ⟨m.toArray⟩)) :=
  ⟨(setCell_block h).trans rfl, (Below.refl R w).setCell (p := ⟨R, 0, none⟩) (Nat.le_refl _) _, fun _ _ hy => Below.heap_setCell _ _ _ _ hy⟩
theorem TB.trans {a b c : World} {R : Nat} {l : Byt} {sv gv ma mb fv : Value} (h0 : TB a R l sv gv ma mb fv) (h : Rk a R b) (k : Rk b R c) : Rk a R c := h.trans (h.size (Nat.le_of_lt (lt_heap h0))) k
theorem mem_take {p : UInt8 → Bool} : ∀ (l : Byt) (x : UInt8), x ∈ l.takeWhile p → p x = true
  | [], _, h => by cases h
  | a :: r, x, h => by
    rw [List.takeWhile_cons] at h
    split at h
    · rename_i ha
      rcases List.mem_cons.1 h with rfl | h
      · exact ha
      · exact mem_take r x h
    · cases h
theorem head_drop {p : UInt8 → Bool} : ∀ (l : Byt) (h : l.dropWhile p ≠ []), p ((l.dropWhile p).head h) = false
  | [], h => absurd rfl h
  | a :: r, h => by
    cases ha : p a with
    | true =>
      have e : (a :: r).dropWhile p = r.dropWhile p := by rw [List.dropWhile_cons, if_pos ha]
      have := head_drop r (by rw [← e]; exact h)
      simpa [e] using this
    | false =>
      have e : (a :: r).dropWhile p = a :: r := by rw [List.dropWhile_cons, if_neg (by rw [ha]; decide)]
      simp [e, ha]
theorem any_take (l : Byt) : (Lib.indexAny l [32, 9, 10, 13, 34] = -1 ∧ l.takeWhile wordB = l) ∨ (Lib.indexAny l [32, 9, 10, 13, 34] = (l.takeWhile wordB).length ∧ (l.takeWhile wordB).length < l.length) := by
  have hle := (List.takeWhile_prefix (p := wordB) (l := l)).length_le
  by_cases h : (l.takeWhile wordB).length = l.length
  · refine .inl ⟨any_none _ _ fun b hb => ?_, (List.takeWhile_prefix wordB).eq_of_length h⟩
    rw [← (List.takeWhile_prefix wordB).eq_of_length h] at hb
    have := mem_take _ _ hb
    simpa [wordB, endB] using this
  · have hlt : (l.takeWhile wordB).length < l.length := by omega
    refine .inr ⟨any_at _ l _ hlt (fun j hj hjl => ?_) ?_, hlt⟩
    · have h1 : (l.takeWhile wordB)[j]? = l[j]? := by
        obtain ⟨t, ht⟩ := List.takeWhile_prefix (p := wordB) (l := l)
        conv => rhs; rw [← ht]
        rw [List.getElem?_append_left hjl]
      have h2 : l[j] ∈ l.takeWhile wordB := List.mem_of_getElem? (by rw [h1]; exact List.getElem?_eq_getElem hj)
      have := mem_take _ _ h2
      simpa [wordB, endB] using this
    · have h1 := List.takeWhile_append_dropWhile (p := wordB) (l := l)
      have hne : l.dropWhile wordB ≠ [] := fun e => by
        rw [e, List.append_nil] at h1
        rw [h1] at h
        exact h rfl
      have h2 : l[(l.takeWhile wordB).length] = (l.dropWhile wordB).head hne := by
        have : l[(l.takeWhile wordB).length]? = some ((l.dropWhile wordB).head hne) := by
          conv => lhs; arg 1; rw [← h1]
          rw [List.getElem?_append_right (Nat.le_refl _), Nat.sub_self, ← List.head?_eq_getElem?, List.head?_eq_some_head hne]
        rw [List.getElem?_eq_getElem hlt] at this
        exact Option.some.inj this
      have h3 := head_drop (p := wordB) l hne
      rw [h2]
      generalize (l.dropWhile wordB).head hne = x at *
      show endB x = true
      have h4 : (!endB x) = false := h3
      simpa using h4
set_option maxHeartbeats 8000000 in
set_option maxRecDepth 10000 in
theorem skip_any {w : World} {R : Nat} {l : Byt} {sv gv ma mb fv : Value} (h : TB w R l sv gv ma mb fv) : Calls Tryz.prog 110 #[.pointer (some ⟨R, 0, none⟩)] w fun r w' => r = .returned (.tuple #[]) ∧ Hid (TB w' R (skipP l) sv gv ma mb fv ∧ Rk w R w') := by
  have CT := fun W => trimleft_any l W
  obtain ⟨m, hm⟩ : ∃ m, m = skipP l := ⟨_, rfl⟩
  rw [show l.dropWhile blankB = m from hm.symm] at CT
  rw [← hm]
  have p0 : w.cell? ⟨R, 0, none⟩ = some (.string ⟨l.toArray⟩) := heap_cl h rfl
  have H : Hid (TB w R l sv gv ma mb fv) := h
  clear h hm
  generalize hS : (⟨l.toArray⟩ : ByteArray) = S at *
  generalize hM : (⟨m.toArray⟩ : ByteArray) = M at *
  have HM : Hid (M = ⟨m.toArray⟩) := hM.symm
  clear hM hS
  go_enter Tryz.func110, Tryz.ntmps110
  go_wp2_with (go_at_call 127; (with_reducible refine Calls.mono (CT _) ?_); rintro e2 w2 ⟨rfl, H2⟩; obtain ⟨k1, k2⟩ := H.out.on H2; have HK : Hid (TB w2 R l sv gv ma mb fv ∧ Rk w R w2) := ⟨k1, k2⟩; have p2 : w2.cell? ⟨R, 0, none⟩ = some (.string ⟨l.toArray⟩) := heap_cl k1 rfl; have f2 : w2.frozen? ⟨R, 0, none⟩ = false := heap_frozen k1; clear k1 k2)
  refine bodyPost_end (v := .tuple #[]) (by simp [results, Tryz.results110, go_sem]) rfl ?_
  rw [HM.out]
  obtain ⟨k3, k4⟩ := HK.out.1.rest (m := m)
  exact ⟨rfl, k3, H.out.trans HK.out.2 k4⟩
set_option maxHeartbeats 8000000 in
set_option maxRecDepth 10000 in
theorem word_any {w : World} {R : Nat} {l : Byt} {sv gv ma mb fv : Value} (h : TB w R l sv gv ma mb fv) (hl : l.length ≤ 8388608) : Calls Tryz.prog 87 #[.pointer (some ⟨R, 0, none⟩)] w fun r w' => r = .returned (.string ⟨(wordP l).1.toArray⟩) ∧ Hid (TB w' R (wordP l).2 sv gv ma mb fv ∧ Rk w R w') := by
  have CS := skip_any h
  have hml : (skipP l).length ≤ 8388608 := Nat.le_trans (List.dropWhile_suffix _).length_le hl
  have e1 : (wordP l).1 = (skipP l).takeWhile wordB := rfl
  have e2 : (wordP l).2 = (skipP l).dropWhile wordB := rfl
  rw [e1, e2]
  generalize skipP l = m at *
  have CA := fun W => sign_any m W (by omega)
  have hta := List.takeWhile_append_dropWhile (p := wordB) (l := m)
  have hcase := any_take m
  generalize m.takeWhile wordB = a at *
  generalize m.dropWhile wordB = b at *
  generalize Lib.indexAny m [32, 9, 10, 13, 34] = ix at *
  have HTA : Hid (a ++ b = m) := hta
  have H0 : Hid (TB w R l sv gv ma mb fv) := h
  clear h e1 e2 hl
  obtain ⟨S, hS⟩ : ∃ S : ByteArray, S = ⟨m.toArray⟩ := ⟨_, rfl⟩
  obtain ⟨A, hA⟩ : ∃ A : ByteArray, A = ⟨a.toArray⟩ := ⟨_, rfl⟩
  have hSs : S.size = a.length + b.length := by rw [hS]; show m.toArray.size = _; rw [List.size_toArray, ← hta, List.length_append]
  have qx1 : S.extract 0 a.length = A := by rw [hS, hA, Lib.extract_mk, ← hta]; simp
  have qx2 : S.extract a.length (a.length + b.length) = ⟨b.toArray⟩ := by rw [hS, Lib.extract_mk, ← hta]; simp
  obtain ⟨B, hB⟩ : ∃ B : ByteArray, B = ⟨b.toArray⟩ := ⟨_, rfl⟩
  rw [← hB] at qx2
  rw [← hA]
  rw [← hS] at CA
  have HS : Hid (S = ⟨m.toArray⟩ ∧ B = ⟨b.toArray⟩) := ⟨hS, hB⟩
  clear hS hA hB hta
  go_enter Tryz.func87, Tryz.ntmps87
  go_upto_region 2 with (go_at_call 110; (with_reducible refine Calls.mono CS ?_); rintro e2 w2 ⟨rfl, H2⟩)
  have p2 : w2.cell? ⟨R, 0, none⟩ = some (.string S) := by rw [HS.out.1]; exact heap_cl H2.out.1 rfl
  rcases hcase with ⟨rfl, ham⟩ | ⟨rfl, hlt⟩
  · have hb0 : b = [] := by
      have := HTA.out
      rw [← ham] at this
      simpa using this
    clear ham
    have HB0 : Hid (b = []) := hb0
    rw [hb0, List.length_nil, Nat.add_zero] at hSs qx2
    clear hb0
    go_wp2_with (go_at_call 111; (with_reducible refine Calls.mono (CA _) ?_); rintro e3 w3 ⟨rfl, H3⟩; obtain ⟨k1, k2⟩ := H2.out.1.on H3; have HK : Hid (TB w3 R m sv gv ma mb fv ∧ Rk w R w3) := ⟨k1, H0.out.trans H2.out.2 k2⟩; have p3 : w3.cell? ⟨R, 0, none⟩ = some (.string S) := by {rw [HS.out.1]; exact heap_cl k1 rfl}; have f3 : w3.frozen? ⟨R, 0, none⟩ = false := heap_frozen k1; clear k1 k2)
    go_ret
    obtain ⟨k3, k4⟩ := HK.out.1.rest (m := b)
    rw [show ByteArray.empty = ⟨b.toArray⟩ by rw [HB0.out]; rfl]
    exact ⟨rfl, k3, H0.out.trans HK.out.2 k4⟩
  · have hlt2 : a.length < a.length + b.length := by rw [← HTA.out, List.length_append] at hlt; exact hlt
    clear hlt
    go_wp2_with (go_at_call 111; (with_reducible refine Calls.mono (CA _) ?_); rintro e3 w3 ⟨rfl, H3⟩; obtain ⟨k1, k2⟩ := H2.out.1.on H3; have HK : Hid (TB w3 R m sv gv ma mb fv ∧ Rk w R w3) := ⟨k1, H0.out.trans H2.out.2 k2⟩; have p3 : w3.cell? ⟨R, 0, none⟩ = some (.string S) := by {rw [HS.out.1]; exact heap_cl k1 rfl}; have f3 : w3.frozen? ⟨R, 0, none⟩ = false := heap_frozen k1; clear k1 k2)
    go_ret
    obtain ⟨k3, k4⟩ := HK.out.1.rest (m := b)
    rw [HS.out.2]
    exact ⟨rfl, k3, H0.out.trans HK.out.2 k4⟩
end Go.Proofs.YtlpnegnpejpdkaaGreatDoor
