/- TypesBack answers true, whatever type and text it is handed, if Print, Read and awake answer as the document says. The program's looks at names: contracts of isNameSign, isWord, isVariable. The reference's names: contracts of small, capital, sign, signs, Variable, upper, DataName. -/
import Derived.Test.YtikpipenhamdbaaGreatMacx
import Derived.Test.YtikpipenhamdbaaGreatMadx
import Derived.Deep.RegionHeld3
import Derived.Deep.Cut
import Derived.BigQuiet
import Derived.Test.YtikpipenhamdbaaGreatMaax
import Derived.Test.YtikpipenhamdbaaGreatMabx
import Derived.WalkKit
import Derived.WalkSpells
import Derived.WalkLawsBesides
import Derived.WalkMore
namespace Go.Proofs.YtikpipenhamdbaaGreat
open Go.RowKit

theorem zero_at (w : World) (B : Nat) (ad : Option Addr) (cap : Nat) : TyAt w B 1 (.agg #[.int .i64 0, .string ⟨#[]⟩, .slice ad 0 cap]) ((0, []), []) := ⟨.slice ad 0 cap, rfl, by simp, by simp, .inl ⟨rfl, ad, cap, rfl⟩⟩
/-- What Read answers of a text. -/
def ReadPost (w : World) (l : List UInt8) (r : Ending) (w' : World) : Prop :=
 Below w.heap.size w w' ∧ ∃ x e, r = .returned (.tuple #[x, .int .i64 e]) ∧
  ((e = 0 ∧ l.length ≤ 65536 ∧ ∃ d t, formB d t = true ∧ textT d t = l ∧ (flat d t).length ≤ 500 ∧ TyAt w' w'.heap.size d x t) ∨
    (e ≠ 0 ∧ (∃ ad cap, x = .agg #[.int .i64 0, .string ⟨#[]⟩, .slice ad 0 cap]) ∧ ((65536 < l.length ∧ e = 2) ∨ (l.length ≤ 65536 ∧ (∃ d t, formB d t = true ∧ textT d t = l ∧ 500 < (flat d t).length) ∧ e = 4) ∨ (l.length ≤ 65536 ∧ (∀ d t, formB d t = true → textT d t ≠ l) ∧ e = 52))))
/-- A function that reads as the document says. -/
def Reads (f : Nat) : Prop := ∀ (l : List UInt8) (w : World), l.length < 140737488355328 → Calls Tryz.prog f #[strV l] w (ReadPost w l)
/-- A function that prints as the document says. -/
def Prints (f : Nat) : Prop := ∀ (d : Nat) (x : Value) (t : Tn d) (w : World) (B : Nat), B ≤ w.heap.size → TyAt w B d x t → (flat d t).length ≤ 4194304 → Calls Tryz.prog f #[x] w fun r w' => r = .returned (printV d t) ∧ Below w.heap.size w w'
/-- The document's examples are answered. -/
def Wakes : Prop := ∀ w : World, Calls Tryz.prog 7 #[] w fun r w' => r = .returned (.bool true) ∧ Below w.heap.size w w'
theorem ends_nil : Ends [] := fun c h => by simp at h
/-- The type that Read answered: a tree of at most 500 nodes, in any case. -/
theorem ReadPost.tree {w w' : World} {l : List UInt8} {r : Ending} (h : ReadPost w l r w') : Below w.heap.size w w' ∧ ∃ (k : Int) (n : ByteArray) (ad : Option Addr) (len cap : Nat) (e : Int) (d : Nat) (t : Tn d), r = .returned (.tuple #[.agg #[.int .i64 k, .string n, .slice ad len cap], .int .i64 e]) ∧ TyAt w' w'.heap.size d (.agg #[.int .i64 k, .string n, .slice ad len cap]) t ∧ (flat d t).length ≤ 500 ∧
  (e = 0 → formB d t = true ∧ textT d t = l ∧ l.length ≤ 65536) ∧ (∀ d' (t' : Tn d'), formB d' t' = true → textT d' t' = l → (flat d' t').length ≤ 500 → l.length ≤ 65536 → e = 0) := by
 obtain ⟨hb, x, e, hr, h⟩ := h
 refine ⟨hb, ?_⟩
 rcases h with ⟨he, hl, d, t, h1, h2, h3, h4⟩ | ⟨he, hx, h⟩
 ·obtain ⟨d, rfl⟩ : ∃ e, d = e + 1 := by
   cases d with
   | zero => exact h4.elim
   | succ e => exact ⟨e, rfl⟩
  obtain ⟨v, hx, q1, q2, q3⟩ := id h4
  subst hx
  obtain ⟨ad, cap, rfl⟩ := q3.len
  exact ⟨_, _, ad, _, cap, e, d + 1, t, hr, h4, h3, fun _ => ⟨h1, h2, hl⟩, fun _ _ _ _ _ _ => he⟩
 ·obtain ⟨ad, cap, rfl⟩ := hx
  refine ⟨0, ⟨#[]⟩, ad, 0, cap, e, 1, ((0, []), []), hr, zero_at _ _ _ _, by rw [flat_succ, flats_nil]; simp, fun h0 => absurd h0 he, fun d' t' f1 f2 f3 f4 => ?_⟩
  rcases h with ⟨h1, _⟩ | ⟨_, ⟨d2, t2, g1, g2, g3⟩, _⟩ | ⟨_, h1, _⟩
  ·omega
  ·have := (text_inj d' t' d2 t2 [] [] f1 g1 ends_nil ends_nil (by rw [f2, g2])).1
   rw [this] at f3
   omega
  ·exact absurd f2 (h1 d' t' f1)
end Go.Proofs.YtikpipenhamdbaaGreat

namespace Go.Proofs.YtikpipenhamdbaaGreat
open Go.RowKit

set_option maxHeartbeats 4000000 in
set_option maxRecDepth 10000 in
theorem sign_any (c : UInt8) (w : World) : Calls Tryz.prog 86 #[.int .u8 c.toNat] w fun e w' => e = .returned (.bool (signB c)) ∧ w' = w := by
 have HE : Hid (((decide (97 ≤ c.toNat) && decide (c.toNat ≤ 122)) || (decide (65 ≤ c.toNat) && decide (c.toNat ≤ 90)) || (decide (48 ≤ c.toNat) && decide (c.toNat ≤ 57)) || decide (c.toNat = 95) || decide (c.toNat = 39)) = signB c) := rfl
 generalize signB c = r at HE
 have hc := c.toNat_lt
 generalize c.toNat = c at *
 go_enter Tryz.func86, Tryz.ntmps86
 go_wp2
 all_goals (go_ret; exact ⟨ret_bool (by rw [← HE.out, Bool.eq_iff_iff]; simp <;> omega), rfl⟩)
/-- A first byte of some, and signs behind it. -/
def wordB (lo hi : Nat) (n : List UInt8) : Bool := match n with | [] => false | c :: r => decide (lo ≤ c.toNat) && decide (c.toNat ≤ hi) && r.all signB
theorem word_small (n : List UInt8) : (decide (n.length ≤ 4096) && wordB 97 122 n) = varB n := by cases n <;> rfl
theorem word_upper (n : List UInt8) : wordB 65 90 n = upperB n := by cases n <;> rfl
set_option maxHeartbeats 4000000 in
set_option maxRecDepth 10000 in
theorem isWord_any (s : ByteArray) (lo hi : Nat) (w : World) (hs : s.size < 140737488355328) (hr : ∀ c : UInt8, lo ≤ c.toNat → c.toNat ≤ hi → signB c = true) : Calls Tryz.prog 65 #[.string s, .int .u8 lo, .int .u8 hi] w fun e w' => e = .returned (.bool (wordB lo hi s.data.toList)) ∧ w' = w := by
 by_cases h0 : s = ⟨#[]⟩
 ·subst h0
  go_enter Tryz.func65, Tryz.ntmps65
  go_wp2
  go_ret
  exact ⟨rfl, rfl⟩
 ·have hp := size_pos h0
  have ht : ¬ s.toList = [] := fun h => by rw [ByteArray.toList_eq, list_cons hp] at h; cases h
  have he : (s.toList == []) = false := by simpa using ht
  have HE : Hid ((decide (lo ≤ s[0].toNat) && decide (s[0].toNat ≤ hi) && (s.data.toList.drop 1).all signB) = wordB lo hi s.data.toList) := by
   show _ = wordB lo hi s.data.toList
   have hv : wordB lo hi (s[0] :: s.data.toList.drop 1) = (decide (lo ≤ s[0].toNat) && decide (s[0].toNat ≤ hi) && (s.data.toList.drop 1).all signB) := rfl
   rw [← list_cons hp] at hv
   exact hv.symm
  generalize wordB lo hi s.data.toList = r at HE
  by_cases h1 : lo ≤ s[0].toNat ∧ s[0].toNat ≤ hi
  ·have HR : Hid ((s.data.toList.drop 0).all signB = r) := by
    show _ = r
    rw [drop_all hp, hr _ h1.1 h1.2, ← HE.out]
    simp [h1]
   have e1 : ¬ (s[0].toNat : Int) < lo := by omega
   have e2 : ¬ (hi : Int) < s[0].toNat := by omega
   clear HE hr
   go_enter Tryz.func65, Tryz.ntmps65
   go_wp2
   go_loopw [24] (fun i wr => ∃ j : Nat, j ≤ s.size ∧ i = .int .i64 j ∧ wr = w ∧ Hid ((s.data.toList.drop j).all signB = r)) (fun i _ => s.size - (intOf i).toNat)
   case atStart => exact ⟨0, by omega, by go_num, rfl, HR.out⟩
   case round =>
    obtain ⟨j, hj, rfl, rfl, HT⟩ := hrel
    by_cases hlt : j < s.size
    ·have HN : Hid ((signB s[j] && (s.data.toList.drop (j + 1)).all signB) = r) := by
      rw [← drop_all hlt]; exact HT.out
     have S1 := fun W => sign_any s[j] W
     generalize signB s[j] = b at S1 HN
     clear HT e1 e2
     cases b with
     | true =>
      go_wp2_with (go_at_call 86; (with_reducible refine Calls.mono (S1 _) ?_); rintro e w' ⟨rfl, rfl⟩)
      go_roundw
      case rel => exact ⟨j + 1, by omega, by go_num, by first | rfl | trivial, HN.out⟩
      case measure => simp [intOf]; omega
     | false =>
      go_wp2_with (go_at_call 86; (with_reducible refine Calls.mono (S1 _) ?_); rintro e w' ⟨rfl, rfl⟩)
      go_ret
      exact ⟨ret_bool HN.out, rfl⟩
    ·have HE : Hid (true = r) := by
      rw [← HT.out, List.drop_eq_nil_of_le (by simp; omega)]; rfl
     go_wp2
     go_ret
     exact ⟨ret_bool HE.out, rfl⟩
  ·have HF : Hid (false = r) := by
    show _ = r
    rw [← HE.out]
    simp
    intro a b
    exact absurd ⟨a, b⟩ h1
   by_cases h2 : lo ≤ s[0].toNat
   ·have h3 : ¬ s[0].toNat ≤ hi := fun h => h1 ⟨h2, h⟩
    have e1 : ¬ (s[0].toNat : Int) < lo := by omega
    have e2 : (hi : Int) < s[0].toNat := by omega
    clear HE hr
    go_enter Tryz.func65, Tryz.ntmps65
    go_wp2
    go_ret
    exact ⟨ret_bool HF.out, rfl⟩
   ·have e1 : (s[0].toNat : Int) < lo := by omega
    clear HE hr
    go_enter Tryz.func65, Tryz.ntmps65
    go_wp2
    go_ret
    exact ⟨ret_bool HF.out, rfl⟩
theorem small_signs (c : UInt8) (h1 : 97 ≤ c.toNat) (h2 : c.toNat ≤ 122) : signB c = true := small_sign (by unfold smallB; simp [h1, h2])
theorem cap_signs (c : UInt8) (h1 : 65 ≤ c.toNat) (h2 : c.toNat ≤ 90) : signB c = true := cap_sign (by unfold capB; simp [h1, h2])
set_option maxRecDepth 10000 in
theorem isVariable_any (s : ByteArray) (w : World) (hs : s.size < 140737488355328) : Calls Tryz.prog 41 #[.string s] w fun e w' => e = .returned (.bool (varB s.data.toList)) ∧ w' = w := by
 have HE : Hid ((decide (s.size ≤ 4096) && wordB 97 122 s.data.toList) = varB s.data.toList) := by
  show _ = varB s.data.toList
  rw [← word_small]
  simp
 have S1 : ∀ W, Calls Tryz.prog 65 #[.string s, .int .u8 97, .int .u8 122] W fun e w' => e = .returned (.bool (wordB 97 122 s.data.toList)) ∧ w' = W := fun W => isWord_any s 97 122 W hs small_signs
 generalize varB s.data.toList = r at HE
 generalize wordB 97 122 s.data.toList = b at HE S1
 by_cases h1 : s.size ≤ 4096
 ·go_enter Tryz.func41, Tryz.ntmps41
  go_wp2_with (go_at_call 65; (with_reducible refine Calls.mono (S1 _) ?_); rintro e w' ⟨rfl, rfl⟩)
  all_goals (go_ret; exact ⟨ret_bool (by rw [← HE.out]; simp [h1]), rfl⟩)
 ·go_enter Tryz.func41, Tryz.ntmps41
  go_wp2
  go_ret
  exact ⟨ret_bool (by rw [← HE.out]; simp [h1]), rfl⟩
end Go.Proofs.YtikpipenhamdbaaGreat

namespace Go.Proofs.YtikpipenhamdbaaGreat
open Go.RowKit

theorem ref_small (c : UInt8) (w : World) : Calls Tryz.prog 115 #[.int .u8 c.toNat] w fun e w' => e = .returned (.bool (smallB c)) ∧ w' = w := by
 have HE : Hid ((decide (97 ≤ c.toNat) && decide (c.toNat ≤ 122)) = smallB c) := rfl
 generalize smallB c = r at HE
 have hc := c.toNat_lt
 generalize c.toNat = c at *
 go_enter Tryz.func115, Tryz.ntmps115
 go_wp2
 all_goals (go_ret; exact ⟨ret_bool (by rw [← HE.out, Bool.eq_iff_iff]; simp; omega), rfl⟩)
theorem ref_capital (c : UInt8) (w : World) : Calls Tryz.prog 131 #[.int .u8 c.toNat] w fun e w' => e = .returned (.bool (capB c)) ∧ w' = w := by
 have HE : Hid ((decide (65 ≤ c.toNat) && decide (c.toNat ≤ 90)) = capB c) := rfl
 generalize capB c = r at HE
 have hc := c.toNat_lt
 generalize c.toNat = c at *
 go_enter Tryz.func131, Tryz.ntmps131
 go_wp2
 all_goals (go_ret; exact ⟨ret_bool (by rw [← HE.out, Bool.eq_iff_iff]; simp; omega), rfl⟩)
theorem ref_sign (c : UInt8) (w : World) : Calls Tryz.prog 130 #[.int .u8 c.toNat] w fun e w' => e = .returned (.bool (signB c)) ∧ w' = w := by
 have HE : Hid ((smallB c || capB c || (decide (48 ≤ c.toNat) && decide (c.toNat ≤ 57)) || decide (c.toNat = 95) || decide (c.toNat = 39)) = signB c) := rfl
 have S1 := fun W => ref_small c W
 have S2 := fun W => ref_capital c W
 generalize signB c = r at HE
 generalize smallB c = b1 at *
 generalize capB c = b2 at *
 have hc := c.toNat_lt
 generalize c.toNat = c at *
 cases b1 <;> cases b2
 all_goals
  go_enter Tryz.func130, Tryz.ntmps130
  go_wp2_with (first
   | (go_at_call 115; (with_reducible refine Calls.mono (S1 _) ?_); rintro e w' ⟨rfl, rfl⟩)
   | (go_at_call 131; (with_reducible refine Calls.mono (S2 _) ?_); rintro e w' ⟨rfl, rfl⟩))
  all_goals (go_ret; exact ⟨ret_bool (by rw [← HE.out, Bool.eq_iff_iff]; simp <;> omega), rfl⟩)

set_option maxRecDepth 10000 in
theorem ref_signs (s : ByteArray) (f : Nat) (w : World) (hs : s.size < 140737488355328) (hf : f ≤ s.size) : Calls Tryz.prog 116 #[.string s, .int .i64 f] w fun e w' => e = .returned (.bool ((s.data.toList.drop f).all signB)) ∧ w' = w := by
 generalize hR : (s.data.toList.drop f).all signB = R
 have HR : Hid ((s.data.toList.drop f).all signB = R) := hR
 clear hR
 go_enter Tryz.func116, Tryz.ntmps116
 go_wp2
 go_loopw [5] (fun i wr => ∃ j : Nat, j ≤ s.size ∧ i = .int .i64 j ∧ wr = w ∧ Hid ((s.data.toList.drop j).all signB = R)) (fun i _ => s.size - (intOf i).toNat)
 case atStart => exact ⟨f, hf, by go_num, rfl, HR.out⟩
 case round =>
  obtain ⟨j, hj, rfl, rfl, HT⟩ := hrel
  by_cases hlt : j < s.size
  ·have HN : Hid ((signB s[j] && (s.data.toList.drop (j + 1)).all signB) = R) := by
    rw [← drop_all hlt]; exact HT.out
   have S1 := fun W => ref_sign s[j] W
   generalize signB s[j] = b at S1 HN
   clear HT
   cases b with
   | true =>
    go_wp2_with (go_at_call 130; (with_reducible refine Calls.mono (S1 _) ?_); rintro e w' ⟨rfl, rfl⟩)
    go_roundw
    case rel => exact ⟨j + 1, by omega, by go_num, by first | rfl | trivial, HN.out⟩
    case measure => simp [intOf]; omega
   | false =>
    go_wp2_with (go_at_call 130; (with_reducible refine Calls.mono (S1 _) ?_); rintro e w' ⟨rfl, rfl⟩)
    go_ret
    exact ⟨ret_bool HN.out, rfl⟩
  ·have HE : Hid (true = R) := by
    rw [← HT.out, List.drop_eq_nil_of_le (by simp; omega)]; rfl
   go_wp2
   go_ret
   exact ⟨ret_bool HE.out, rfl⟩
set_option maxRecDepth 10000 in
theorem ref_variable (s : ByteArray) (w : World) (hs : s.size < 140737488355328) : Calls Tryz.prog 92 #[.string s] w fun e w' => e = .returned (.bool (varB s.data.toList)) ∧ w' = w := by
 by_cases h0 : s = ⟨#[]⟩
 ·subst h0
  go_enter Tryz.func92, Tryz.ntmps92
  go_wp2
  go_ret
  exact ⟨rfl, rfl⟩
 ·have hp := size_pos h0
  have ht : ¬ s.toList = [] := fun h => by rw [ByteArray.toList_eq, list_cons hp] at h; cases h
  have he : s.toList.isEmpty = false := by simpa using ht
  have HE : Hid ((decide (s.size ≤ 4096) && (smallB s[0] && (s.data.toList.drop 1).all signB)) = varB s.data.toList) := by
   show _ = varB s.data.toList
   have hv : varB (s[0] :: s.data.toList.drop 1) = (decide ((s.data.toList.drop 1).length + 1 ≤ 4096) && (smallB s[0] && (s.data.toList.drop 1).all signB)) := rfl
   rw [← list_cons hp] at hv
   have hl : s.data.toList.length = s.size := by simp
   rw [hv]
   congr 1
   rw [decide_eq_decide, List.length_drop]
   omega
  generalize varB s.data.toList = r at HE
  have S1 := fun W => ref_small s[0] W
  have S2 := fun W => ref_signs s 1 W hs (by omega)
  generalize smallB s[0] = b1 at *
  generalize (s.data.toList.drop 1).all signB = b2 at *
  by_cases h1 : s.size ≤ 4096
  ·cases b1 <;> cases b2
   all_goals
    go_enter Tryz.func92, Tryz.ntmps92
    go_wp2_with (first
     | (go_at_call 115; (with_reducible refine Calls.mono (S1 _) ?_); rintro e w' ⟨rfl, rfl⟩)
     | (go_at_call 116; (with_reducible refine Calls.mono (S2 _) ?_); rintro e w' ⟨rfl, rfl⟩))
    all_goals (go_ret; exact ⟨ret_bool (by rw [← HE.out]; simp [h1]), rfl⟩)
  ·go_enter Tryz.func92, Tryz.ntmps92
   go_wp2
   go_ret
   exact ⟨ret_bool (by rw [← HE.out]; simp [h1]), rfl⟩
set_option maxRecDepth 10000 in
theorem ref_upper (s : ByteArray) (w : World) (hs : s.size < 140737488355328) : Calls Tryz.prog 117 #[.string s] w fun e w' => e = .returned (.bool (upperB s.data.toList)) ∧ w' = w := by
 by_cases h0 : s = ⟨#[]⟩
 ·subst h0
  go_enter Tryz.func117, Tryz.ntmps117
  go_wp2
  go_ret
  exact ⟨rfl, rfl⟩
 ·have hp := size_pos h0
  have ht : ¬ s.toList = [] := fun h => by rw [ByteArray.toList_eq, list_cons hp] at h; cases h
  have he : s.toList.isEmpty = false := by simpa using ht
  have HE : Hid ((capB s[0] && (s.data.toList.drop 1).all signB) = upperB s.data.toList) := by
   show _ = upperB s.data.toList
   rw [list_cons hp]
   rfl
  generalize upperB s.data.toList = r at HE
  have S1 := fun W => ref_capital s[0] W
  have S2 := fun W => ref_signs s 1 W hs (by omega)
  generalize capB s[0] = b1 at *
  generalize (s.data.toList.drop 1).all signB = b2 at *
  cases b1 <;> cases b2
  all_goals
   go_enter Tryz.func117, Tryz.ntmps117
   go_wp2_with (first
    | (go_at_call 131; (with_reducible refine Calls.mono (S1 _) ?_); rintro e w' ⟨rfl, rfl⟩)
    | (go_at_call 116; (with_reducible refine Calls.mono (S2 _) ?_); rintro e w' ⟨rfl, rfl⟩))
   all_goals (go_ret; exact ⟨ret_bool (by rw [← HE.out]; simp), rfl⟩)
set_option maxHeartbeats 4000000 in
set_option maxRecDepth 10000 in
theorem ref_data (s : ByteArray) (w : World) (hs : s.size < 140737488355328) : Calls Tryz.prog 93 #[.string s] w fun e w' => e = .returned (.bool (dataB s.data.toList)) ∧ w' = w := by
 have hl : s.data.toList.length = s.size := by simp
 by_cases hI : s.toList = [73, 110, 116]
 ·have HE : Hid (dataB s.data.toList = false) := by rw [← ByteArray.toList_eq, hI]; exact int_not_data
  generalize dataB s.data.toList = r at HE
  go_enter Tryz.func93, Tryz.ntmps93
  go_wp2
  go_ret
  exact ⟨ret_bool HE.out.symm, rfl⟩
 ·have hI2 : s.data.toList ≠ [73, 110, 116] := by rw [← ByteArray.toList_eq]; exact hI
  by_cases h1 : s.size ≤ 4096
  ·have U := fun (s : ByteArray) (h : s.size < 140737488355328) W => ref_upper s W h
   have hI3 : (s.toList == [73, 110, 116]) = false := by simpa using hI
   rcases data_split s.data.toList with hno | ⟨i, hi, e1, e2⟩
   ·have HE : Hid (upperB s.data.toList = dataB s.data.toList) := by
     show _ = dataB s.data.toList
     rw [data_plainly hno]
     simp [hI2, h1]
    have HP : Hid (∀ j (h : j < s.size), s[j] ≠ 46) := fun j h => hno _ (by show s.data[j] ∈ s.data.toList; simp)
    have U0 := U s hs
    generalize upperB s.data.toList = r0 at HE U0
    generalize dataB s.data.toList = r at HE
    clear hI hI2 hno U
    go_enter Tryz.func93, Tryz.ntmps93
    go_wp2
    go_loopw [3] (fun i wr => ∃ j : Nat, j ≤ s.size ∧ i = .int .i64 j ∧ wr = w) (fun i _ => s.size - (intOf i).toNat)
    case atStart => exact ⟨0, by omega, by go_num, rfl⟩
    case round =>
     obtain ⟨j, hj, rfl, rfl⟩ := hrel
     by_cases hlt : j < s.size
     ·have hb := point_ne (HP.out j hlt)
      go_wp2
      go_roundw
      case rel => exact ⟨j + 1, by omega, by go_num, by first | rfl | trivial⟩
      case measure => simp [intOf]; omega
     ·go_wp2_with (go_at_call 117; (with_reducible refine Calls.mono (U0 _) ?_); rintro e w' ⟨rfl, rfl⟩)
      go_ret
      exact ⟨ret_bool HE.out, rfl⟩
   ·have hi' : i < s.size := by omega
    have HE : Hid ((upperB (s.data.toList.take i) && upperB (s.data.toList.drop (i + 1))) = dataB s.data.toList) := by
     show _ = dataB s.data.toList
     rw [data_pointed hi e1 e2]
     simp [hI2, h1]
    have HP : Hid (∀ j (h : j < s.size), j < i → s[j] ≠ 46) := fun j h hj => e2 j (by omega) hj
    have hb0 : ((s[i].toNat : Int) == 46) = true := by
     have : s[i] = 46 := e1
     rw [this]; rfl
    have U1 := U (s.extract 0 i) (by rw [ByteArray.size_extract]; omega)
    have U2 := U (s.extract (i + 1) s.size) (by rw [ByteArray.size_extract]; omega)
    rw [show (s.extract 0 i).data.toList = s.data.toList.take i by simp [ByteArray.data_extract]] at U1
    rw [show (s.extract (i + 1) s.size).data.toList = s.data.toList.drop (i + 1) by
     rw [ByteArray.data_extract, Array.toList_extract, List.extract_eq_take_drop, List.take_of_length_le]
     rw [List.length_drop]; omega] at U2
    generalize upperB (s.data.toList.take i) = r1 at HE U1
    generalize upperB (s.data.toList.drop (i + 1)) = r2 at HE U2
    generalize dataB s.data.toList = r at HE
    clear hI hI2 U e1 e2 hi hl
    go_enter Tryz.func93, Tryz.ntmps93
    go_wp2
    go_loopw [3] (fun i0 wr => ∃ j : Nat, j ≤ i ∧ i0 = .int .i64 j ∧ wr = w) (fun i0 _ => s.size - (intOf i0).toNat)
    case atStart => exact ⟨0, by omega, by go_num, rfl⟩
    case round =>
     obtain ⟨j, hj, rfl, rfl⟩ := hrel
     have hjs : j < s.size := by omega
     by_cases hlt : j < i
     ·have hb := point_ne (HP.out j hjs hlt)
      clear hb0
      go_wp2
      go_roundw
      case rel => exact ⟨j + 1, by omega, by go_num, by first | rfl | trivial⟩
      case measure => simp [intOf]; omega
     ·obtain rfl : j = i := by omega
      cases r1 <;> cases r2
      all_goals
       go_wp2_with (first
        | (go_at_call_of 117 (s.extract 0 j); (with_reducible refine Calls.mono (U1 _) ?_); rintro e w' ⟨rfl, rfl⟩)
        | (go_at_call 117; (with_reducible refine Calls.mono (U2 _) ?_); rintro e w' ⟨rfl, rfl⟩))
       go_ret
       exact ⟨ret_bool HE.out, rfl⟩
  ·have HE : Hid (dataB s.data.toList = false) := by
    show _ = false
    unfold dataB
    simp [h1]
   generalize dataB s.data.toList = r at HE
   have hI3 : (s.toList == [73, 110, 116]) = false := by simpa using hI
   go_enter Tryz.func93, Tryz.ntmps93
   go_wp2
   go_ret
   exact ⟨ret_bool HE.out.symm, rfl⟩
end Go.Proofs.YtikpipenhamdbaaGreat
