/- textReader: names. textReader: its maps and its row of first globals; numberOfName. textReader: its state; numberOfName. -/
import Derived.Test.YtlpnegnpejpdkaaGreatDoorUf
import Derived.Test.YtlpnegnpejpdkaaGreatDoorRj
import Derived.Test.YtlpnegnpejpdkaaGreatDoorMhx
import Derived.Test.YtlpnegnpejpdkaaGreatDoorMjx
import Derived.Test.YtlpnegnpejpdkaaGreatDoorKc
namespace Go.Proofs.YtlpnegnpejpdkaaGreatDoor
open Go.RowKit

/-- What stands ahead of the closing sign, and what behind it. -/
def quoR : Byt → Option (Byt × Byt)
  | [] => none
  | [b] => if b = 34 then some ([], []) else none
  | b :: c :: q => if b = 34 then some ([], c :: q) else if b = 92 then (if markB c then (quoR q).map fun p => (c :: p.1, p.2) else none) else (quoR (c :: q)).map fun p => (b :: p.1, p.2)
theorem quo_cons (b : UInt8) (r : Byt) : quoR (b :: r) = if b = 34 then some ([], r) else if b = 92 then (match r with | [] => none | c :: q => if markB c then (quoR q).map fun p => (c :: p.1, p.2) else none) else (quoR r).map fun p => (b :: p.1, p.2) := by
  cases r with
  | nil =>
    show (if b = 34 then some ([], []) else none) = _
    by_cases h : b = 34
    · rw [if_pos h, if_pos h]
    · rw [if_neg h, if_neg h]
      by_cases h2 : b = 92
      · rw [if_pos h2]
      · rw [if_neg h2]; rfl
  | cons c q => rfl
def nameQ (l : Byt) : Option (Byt × Byt) := match skipP l with
  | b :: r => if b = 34 then (match quoR r with | some (s, t) => if nameP s then some (s, t) else none | none => none) else none
  | [] => none
/-- What a text reader's call leaves that answers a name. -/
def QS (w : World) (R : Nat) (sv gv ma mb fv : Value) (x : Option (Byt × Byt)) (r : Ending) (w' : World) : Prop := match x with
  | some (n, m) => r = .returned (.string ⟨n.toArray⟩) ∧ Hid (TB w' R m sv gv ma mb fv ∧ Rk w R w')
  | none => r = thrown 170 ∧ Hid (Rk w R w')
/-- Between name's rounds. -/
structure QW (w2 wr : World) (v : Value) (m nm : Byt) (i : Nat) (T : Option (Byt × Byt)) : Prop where
  own : OwnN EByt 5 w2.heap.size (fun _ => False) wr v nm
  bel : Below w2.heap.size w2 wr
  le : 1 ≤ i ∧ i ≤ m.length
  nl : nm.length ≤ i
  t : T = (quoR (m.drop i)).map fun p => (nm ++ p.1, p.2)
theorem QW.next {w2 wr w' : World} {v v' : Value} {m nm : Byt} {i k : Nat} {T : Option (Byt × Byt)} (h : QW w2 wr v m nm i T) {x : UInt8} (hk : i < k) (hkl : k ≤ m.length) (hq : quoR (m.drop i) = (quoR (m.drop k)).map fun p => (x :: p.1, p.2)) (ho : OwnN EByt 5 w2.heap.size (fun _ => False) w' v' (nm ++ [x])) (hb : Below w2.heap.size wr w') : QW w2 w' v' m (nm ++ [x]) k T := by
  refine ⟨ho, h.bel.trans hb, ⟨by omega, hkl⟩, by rw [List.length_append]; have := h.nl; simp only [List.length_cons, List.length_nil]; omega, ?_⟩
  rw [h.t, hq]
  cases quoR (m.drop k) with
  | none => rfl
  | some p => show some (nm ++ (x :: p.1), p.2) = some ((nm ++ [x]) ++ p.1, p.2); rw [List.append_assoc]; rfl
set_option maxHeartbeats 16000000 in
set_option maxRecDepth 10000 in
theorem qname_any {w : World} {R : Nat} {l : Byt} {sv gv ma mb fv : Value} (h : TB w R l sv gv ma mb fv) (hl : l.length ≤ 8388608) : Calls Tryz.prog 112 #[.pointer (some ⟨R, 0, none⟩)] w fun r w' => QS w R sv gv ma mb fv (nameQ l) r w' := by
  have CS := skip_any h
  have hml : (skipP l).length ≤ 8388608 := Nat.le_trans (List.dropWhile_suffix _).length_le hl
  have e0 : nameQ l = match skipP l with | b :: r => if b = 34 then (match quoR r with | some (s, t) => if nameP s then some (s, t) else none | none => none) else none | [] => none := rfl
  generalize nameQ l = Z at *
  generalize skipP l = m at *
  obtain ⟨F, hF⟩ : ∃ F : Ending → World → Prop, F = fun r w' => QS w R sv gv ma mb fv Z r w' := ⟨_, rfl⟩
  rw [← hF]
  have CG := fun W => giveUp_any 170 W
  unfold thrown at CG
  have HFN : Hid (∀ w', Z = none → Rk w R w' → F (thrown 170) w') := fun w' h1 h2 => by rw [hF, h1]; exact ⟨rfl, h2⟩
  have HFS : Hid (∀ w' n t, Z = some (n, t) → TB w' R t sv gv ma mb fv → Rk w R w' → F (.returned (.string ⟨n.toArray⟩)) w') := fun w' n t h1 h2 h3 => by rw [hF, h1]; exact ⟨rfl, h2, h3⟩
  have H0 : Hid (TB w R l sv gv ma mb fv) := h
  obtain ⟨S, hS⟩ : ∃ S : ByteArray, S = ⟨m.toArray⟩ := ⟨_, rfl⟩
  have hSz : S.size = m.length := by rw [hS]; show m.toArray.size = _; simp
  have HSM : Hid (S = ⟨m.toArray⟩) := hS
  have HSB : Hid (∀ i (h : i < S.size) (h' : i < m.length), S[i] = m[i]) := fun i h h' => by
    subst hS
    show m.toArray[i] = _
    simp
  have HSX : Hid (∀ k, k ≤ S.size → S.extract k m.length = ⟨(m.drop k).toArray⟩) := fun k hk => by
    rw [hS, Lib.extract_mk, List.take_of_length_le (by rw [List.length_drop]; exact Nat.le_refl _)]
  have CH : ∀ W, Calls Tryz.prog 132 #[.string S, .string ⟨#[34]⟩] W fun e w' => e = .returned (.bool (Lib.hasPrefix m [34])) ∧ w' = W := fun W => by
    have := Tryz.strings_HasPrefix S ⟨#[34]⟩ W
    rw [hS] at this ⊢
    exact this
  clear hF h hS hl
  by_cases hq : Lib.hasPrefix m [34] = true
  · rw [hq] at CH
    obtain ⟨r, rfl⟩ : ∃ r, m = 34 :: r := by
      cases m with
      | nil => cases hq
      | cons b r =>
        have : b = 34 := by
          simp [Lib.hasPrefix, List.isPrefixOf] at hq
          exact hq.symm
        exact ⟨r, by rw [this]⟩
    have HZ : Hid (Z = match quoR r with | some (s, t) => if nameP s then some (s, t) else none | none => none) := by show _ = _; rw [e0]; exact if_pos rfl
    clear e0 hq
    go_enter Tryz.func112, Tryz.ntmps112
    go_upto_region 2 with (go_at_call 110; (with_reducible refine Calls.mono CS ?_); rintro e2 w2 ⟨rfl, H2⟩)
    have p2 : w2.cell? ⟨R, 0, none⟩ = some (.string S) := by rw [HSM.out]; exact heap_cl H2.out.1 rfl
    go_upto_region 6 with (go_at_call 132; (with_reducible refine Calls.mono (CH _) ?_); rintro e3 w3 ⟨rfl, hw⟩; obtain rfl := hw.symm; clear hw)
    clear CH p2
    obtain ⟨m, hm⟩ : ∃ m : Byt, m = 34 :: r := ⟨_, rfl⟩
    have hm1 : 1 ≤ m.length := by rw [hm]; simp
    have HQ0 : Hid (quoR r = (quoR (m.drop 1)).map fun p => ([] ++ p.1, p.2)) := by
      show _ = _
      rw [hm]
      show quoR r = (quoR r).map _
      cases quoR r with
      | none => rfl
      | some p => rfl
    obtain ⟨T, hT⟩ : ∃ T, T = quoR r := ⟨_, rfl⟩
    rw [← hT] at HZ HQ0
    rw [← hm] at hSz HSM HSB HSX H2 hml
    have HRR : Hid (w.heap.size ≤ w2.heap.size ∧ R < w2.heap.size) := ⟨H2.out.2.size (Nat.le_of_lt (lt_heap H0.out)), lt_heap H2.out.1⟩
    have HTB : Hid (∀ wr, Below w2.heap.size w2 wr → TB wr R m sv gv ma mb fv ∧ Rk w R wr) := fun wr hb => by
      obtain ⟨k1, k2⟩ := H2.out.1.on hb
      exact ⟨k1, H0.out.trans H2.out.2 k2⟩
    clear hm hT CS
    go_loopw [3, 4] (fun nv iv wr => ∃ (i : Nat) (nm : Byt), iv = .int .i64 i ∧ Hid (QW w2 wr nv m nm i T)) (fun _ iv _ => m.length - (intOf iv).toNat)
    case atStart => exact ⟨1, [], by go_num, OwnN.nil _ _ _ _ _, Below.refl _ _, ⟨Nat.le_refl _, hm1⟩, Nat.zero_le _, HQ0.out⟩
    case round =>
      clear HQ0
      rename_i nv iv
      obtain ⟨i, nm, rfl, HW⟩ := hrel
      obtain ⟨ad, cap, rfl⟩ := HW.out.own.len
      have HO : Hid (OwnN EByt 5 w2.heap.size (fun _ => False) wr (.slice ad nm.length cap) nm) := HW.out.own
      have hi := HW.out.le
      have hnl := HW.out.nl
      have p2 : wr.cell? ⟨R, 0, none⟩ = some (.string S) := by rw [HSM.out]; exact heap_cl (HTB.out wr HW.out.bel).1 rfl
      have f2 : wr.frozen? ⟨R, 0, none⟩ = false := heap_frozen (HTB.out wr HW.out.bel).1
      by_cases hil : i < m.length
      · have i1 : (0 : Int) ≤ (i : Int) := by omega
        have i2 : (i : Int) < (S.size : Int) := by omega
        have hiS : i < S.size := by omega
        have hx := HSB.out i hiS hil
        have HQ := quo_cons m[i] (m.drop (i + 1))
        rw [← List.drop_eq_getElem_cons hil, ← hx] at HQ
        have HQ2 : Hid (quoR (m.drop i) = if S[i] = 34 then some ([], m.drop (i + 1)) else if S[i] = 92 then (match m.drop (i + 1) with | [] => none | c :: q => if markB c then (quoR q).map fun p => (c :: p.1, p.2) else none) else (quoR (m.drop (i + 1))).map fun p => (S[i] :: p.1, p.2)) := HQ
        clear HQ hx
        by_cases h34 : S[i] = 34
        · have e34 : ((S[i].toNat : Int) != 34) = false := by rw [h34]; decide
          have HT1 : Hid (T = some (nm, m.drop (i + 1))) := by
            show _ = _
            rw [HW.out.t, HQ2.out, if_pos h34]
            show some (nm ++ [], m.drop (i + 1)) = _
            rw [List.append_nil]
          have qcv := conv_bts (own_bts HO.out)
          have CN := fun W => isName_any nm W (by omega)
          have qx := HSX.out (i + 1) (by omega)
          clear h34 HQ2
          cases hnm : nameP nm with
          | true =>
            rw [hnm] at CN
            have HE : Hid (Z = some (nm, m.drop (i + 1))) := by show _ = _; rw [HZ.out, HT1.out]; exact if_pos hnm
            clear hnm
            obtain ⟨B2, hB2⟩ : ∃ B2 : ByteArray, B2 = ⟨(m.drop (i + 1)).toArray⟩ := ⟨_, rfl⟩
            rw [← hB2] at qx
            have HB2 : Hid (B2 = ⟨(m.drop (i + 1)).toArray⟩) := hB2
            clear hB2
            have qcv2 := conv_bts (own_bts (HO.out.keep (w' := wr.setCell ⟨R, 0, none⟩ (.string B2)) (fun y hy _ => Below.heap_setCell _ _ _ _ (by have := HRR.out.2; show y ≠ R; omega)) (by rw [World.size_setCell]; exact Nat.le_refl _)))
            go_wp2_with (go_at_call 103; (with_reducible refine Calls.mono (CN _) ?_); rintro e5 w5 ⟨rfl, hw⟩; obtain rfl := hw.symm; clear hw)
            obtain ⟨k3, k4⟩ := (HTB.out _ HW.out.bel).1.rest (m := m.drop (i + 1))
            rw [← HB2.out] at k3 k4
            exact HFS.out _ nm (m.drop (i + 1)) HE.out k3 (H0.out.trans (HTB.out _ HW.out.bel).2 k4)
          | false =>
            rw [hnm] at CN
            have HE : Hid (Z = none) := by show _ = _; rw [HZ.out, HT1.out]; exact if_neg (by rw [hnm]; decide)
            clear hnm
            go_wp2_with (first | (go_at_call 103; (with_reducible refine Calls.mono (CN _) ?_); rintro e5 w5 ⟨rfl, hw⟩; obtain rfl := hw.symm; clear hw) | (go_at_call 90; (with_reducible refine Calls.mono (CG _) ?_); rintro e7 w7 ⟨rfl, hw⟩; obtain rfl := hw.symm; clear hw))
            exact ⟨rfl, HFN.out _ HE.out (HTB.out _ HW.out.bel).2⟩
        · have h34n : S[i].toNat ≠ 34 := fun e => h34 (UInt8.toNat_inj.1 e)
          have e34 : ((S[i].toNat : Int) != 34) = true := by simp; omega
          by_cases h92 : S[i] = 92
          · have e92 : ((S[i].toNat : Int) == 92) = true := by rw [h92]; decide
            by_cases hi2 : i + 1 < m.length
            · have hi3 : i + 1 < S.size := by omega
              have hx2 := HSB.out (i + 1) hi3 hi2
              have CM := fun W => marked_any S[i + 1] W
              have e5 : (((i : Int) + 1) == (S.size : Int)) = false := by simp; omega
              have i3 : (0 : Int) ≤ (i : Int) + 1 := by omega
              have i4 : (i : Int) + 1 < (S.size : Int) := by omega
              have HQ3 : Hid (quoR (m.drop i) = if markB S[i + 1] then (quoR (m.drop (i + 1 + 1))).map fun p => (S[i + 1] :: p.1, p.2) else none) := by
                show _ = _
                rw [HQ2.out, if_neg h34, if_pos h92, List.drop_eq_getElem_cons hi2, hx2]
              clear HQ2 h92 h34 hx2
              cases hmk : markB S[i + 1] with
              | true =>
                rw [hmk] at CM
                have HQ4 : Hid (quoR (m.drop i) = (quoR (m.drop (i + 1 + 1))).map fun p => (S[i + 1] :: p.1, p.2)) := by show _ = _; rw [HQ3.out]; exact if_pos hmk
                clear hmk HQ3
                go_wp2_with (first | (go_at_call 125; (with_reducible refine Calls.mono (CM _) ?_); rintro e5 w5 ⟨rfl, hw⟩; obtain rfl := hw.symm; clear hw) | (at_builtin; (refine byte_append (w2 := wr) (l := nm) (v := .slice ad nm.length cap) (p := S[i + 1]) (z := (S[i + 1].toNat : Int)) (B := w2.heap.size) (cap := 1) rfl _ _ rfl rfl HO.out HW.out.bel.size rfl rfl (Nat.le_refl _) (by omega) ?_; intro v4 w4 O4 B4 S4 K4 G4; obtain ⟨ad4, cap4, rfl⟩ := O4.len; have HO4 : Hid (OwnN EByt 5 w2.heap.size (fun _ => False) w4 (.slice ad4 (nm ++ [S[i + 1]]).length cap4) (nm ++ [S[i + 1]]) ∧ Below w2.heap.size wr w4) := ⟨O4, B4⟩; clear O4 B4 S4 K4 G4)))
                go_roundw
                case rel => exact ⟨i + 1 + 1, nm ++ [S[i + 1]], by go_num, by
                  have h1 := HO4.out.1
                  rw [List.length_append] at h1
                  exact HW.out.next (by omega) (by omega) HQ4.out h1 HO4.out.2⟩
                case measure => simp [intOf]; omega
              | false =>
                rw [hmk] at CM
                have HE : Hid (Z = none) := by show _ = _; rw [HZ.out, HW.out.t, HQ3.out, if_neg (by rw [hmk]; decide)]; rfl
                clear hmk HQ3
                go_wp2_with (first | (go_at_call 125; (with_reducible refine Calls.mono (CM _) ?_); rintro e5 w5 ⟨rfl, hw⟩; obtain rfl := hw.symm; clear hw) | (go_at_call 90; (with_reducible refine Calls.mono (CG _) ?_); rintro e7 w7 ⟨rfl, hw⟩; obtain rfl := hw.symm; clear hw))
                exact ⟨rfl, HFN.out _ HE.out (HTB.out _ HW.out.bel).2⟩
            · have e5 : (((i : Int) + 1) == (S.size : Int)) = true := by simp; omega
              have HE : Hid (Z = none) := by
                show _ = _
                rw [HZ.out, HW.out.t, HQ2.out, if_neg h34, if_pos h92, List.drop_eq_nil_of_le (by omega)]
                rfl
              clear HQ2 h92 h34
              go_wp2_with (go_at_call 90; (with_reducible refine Calls.mono (CG _) ?_); rintro e7 w7 ⟨rfl, hw⟩; obtain rfl := hw.symm; clear hw)
              exact ⟨rfl, HFN.out _ HE.out (HTB.out _ HW.out.bel).2⟩
          · have h92n : S[i].toNat ≠ 92 := fun e => h92 (UInt8.toNat_inj.1 e)
            have e92 : ((S[i].toNat : Int) == 92) = false := by simp; omega
            have HQ4 : Hid (quoR (m.drop i) = (quoR (m.drop (i + 1))).map fun p => (S[i] :: p.1, p.2)) := by show _ = _; rw [HQ2.out, if_neg h34, if_neg h92]
            clear HQ2 h92 h34
            go_wp2_with (at_builtin; (refine byte_append (w2 := wr) (l := nm) (v := .slice ad nm.length cap) (p := S[i]) (z := (S[i].toNat : Int)) (B := w2.heap.size) (cap := 1) rfl _ _ rfl rfl HO.out HW.out.bel.size rfl rfl (Nat.le_refl _) (by omega) ?_; intro v4 w4 O4 B4 S4 K4 G4; obtain ⟨ad4, cap4, rfl⟩ := O4.len; have HO4 : Hid (OwnN EByt 5 w2.heap.size (fun _ => False) w4 (.slice ad4 (nm ++ [S[i]]).length cap4) (nm ++ [S[i]]) ∧ Below w2.heap.size wr w4) := ⟨O4, B4⟩; clear O4 B4 S4 K4 G4))
            go_roundw
            case rel => exact ⟨i + 1, nm ++ [S[i]], by go_num, by
              have h1 := HO4.out.1
              rw [List.length_append] at h1
              exact HW.out.next (by omega) (by omega) HQ4.out h1 HO4.out.2⟩
            case measure => simp [intOf]; omega
      · have hie : i = m.length := by omega
        have e5 : ¬ ((i : Int) < (S.size : Int)) := by omega
        have e6 : ((i : Int) == (S.size : Int)) = true := by simp; omega
        have HE : Hid (Z = none) := by
          show _ = _
          rw [HZ.out, HW.out.t, List.drop_eq_nil_of_le (by omega)]
          rfl
        go_wp2_with (go_at_call 90; (with_reducible refine Calls.mono (CG _) ?_); rintro e7 w7 ⟨rfl, hw⟩; obtain rfl := hw.symm; clear hw)
        exact ⟨rfl, HFN.out _ HE.out (HTB.out _ HW.out.bel).2⟩
  · have hq' : Lib.hasPrefix m [34] = false := by simpa using hq
    rw [hq'] at CH
    have HE : Hid (Z = none) := by
      show _ = _
      rw [e0]
      cases m with
      | nil => rfl
      | cons b r =>
        have hb : ¬ b = 34 := fun e => by
          subst e
          exact hq rfl
        exact if_neg hb
    clear e0 hq hq'
    go_enter Tryz.func112, Tryz.ntmps112
    go_upto_region 2 with (go_at_call 110; (with_reducible refine Calls.mono CS ?_); rintro e2 w2 ⟨rfl, H2⟩)
    have p2 : w2.cell? ⟨R, 0, none⟩ = some (.string S) := by rw [HSM.out]; exact heap_cl H2.out.1 rfl
    go_wp2_with (first | (go_at_call 132; (with_reducible refine Calls.mono (CH _) ?_); rintro e3 w3 ⟨rfl, hw⟩; obtain rfl := hw.symm; clear hw) | (go_at_call 90; (with_reducible refine Calls.mono (CG _) ?_); rintro e7 w7 ⟨rfl, hw⟩; obtain rfl := hw.symm; clear hw))
    exact ⟨rfl, HFN.out _ HE.out H2.out.2⟩
end Go.Proofs.YtlpnegnpejpdkaaGreatDoor

namespace Go.Proofs.YtlpnegnpejpdkaaGreatDoor
open Go.RowKit

def EInt : Elt Int where
  k := 1
  C _ _ cs x := cs = [.int .i64 x]
  len := by rintro _ _ _ _ rfl; rfl
  one := by rintro _ _ _ _ rfl u hu; rw [List.mem_singleton.1 hu]; rfl
  on := fun _ _ h => h
theorem Tryz.ty61 : Ty 61 3 EInt.k 8 := by
  obtain ⟨i, hi, h0, h1, h2⟩ := info_parts (show (Tryz.prog.info? 3).map (fun i => (i.zero, i.size, i.bytes)) = some (some (.int .i64 0), 1, 8) by kernel_rfl)
  exact ⟨by kernel_rfl, ⟨i, _, hi, h0, h1, h2, rfl⟩, by decide, by decide⟩
/-- append(x, y), x being a row that was made, y one thing that was just laid: where it then lies, and what stays. -/
theorem one_append {α : Type} {E : Elt α} {ops : Array Oper} {rest : List Oper} {o : Oper} {a : Act} {Q : Exit → Act → World → Prop} {w2 : World} {B t e b : Nat} (T : Ty t e E.k b) (hgd : o.guard = none) (s x : Operand)
    (ho : o.op = .call { callee := .builtin .append, args := #[s, x], argTypes := #[t, t] }) {v : Value} {p : α} {cs : List Value} {l : List α} {cap : Nat} (hs : a.eval s = v) (hown : OwnN E e B (fun _ => False) w2 v l) (hB : B ≤ w2.heap.size) (hx : a.eval x = .slice (some ⟨w2.heap.size, 0, none⟩) 1 cap) (hC : E.C (w2.alloc (.cells cs.toArray e)) (Nwr (fun _ => False) B (w2.alloc (.cells cs.toArray e)) v) cs p) (hcap : 1 ≤ cap) (hl : l.length + 1 ≤ 100000000)
    (h : ∀ v' w', OwnN E e B (fun _ => False) w' v' (l ++ [p]) → Below B w2 w' → w2.heap.size ≤ w'.heap.size → (∀ y, y < w2.heap.size → v.ownBlock ≠ some y → w'.heap[y]? = w2.heap[y]?) → (v'.ownBlock = v.ownBlock ∨ ∃ g, v'.ownBlock = some g ∧ w2.heap.size ≤ g) → wpList Tryz.prog ops Q rest (a.put o.dst v') w') : wpList Tryz.prog ops Q (o :: rest) a (w2.alloc (.cells cs.toArray e)) := by
  have hb2 : Below w2.heap.size w2 (w2.alloc (.cells cs.toArray e)) := (Below.refl _ _).alloc (Nat.le_refl _) _
  have hs2 : (w2.alloc (.cells cs.toArray e)).heap.size = w2.heap.size + 1 := World.size_alloc _ _
  have O2 : OwnN E e B (fun _ => False) (w2.alloc (.cells cs.toArray e)) v l := hown.on (fun _ h => h.elim) hB hb2
  refine wpList_append_E (Z := fun y => y = w2.heap.size) T hgd s x ho hs O2 hx (RowE.new hC (new_blk _ _) hcap) hl (by omega) (Nwr.lt (fun _ h => h.elim) (by omega)) ?_
  intro v' w' O K1 K2 G
  have hsz : w2.heap.size ≤ w'.heap.size := by have := K1.size; omega
  refine h v' w' ?_ ((hb2.mono hB).trans K1) hsz (fun y hy hne => (K2 y (by omega) hne).trans (hb2.block y hy)) (G.imp id fun ⟨g, e, hg⟩ => ⟨g, e, by omega⟩)
  refine O.up (fun y hy => hy.imp id fun h => ⟨h.1, Nat.lt_of_lt_of_le h.2.1 K1.size, ?_⟩) fun y hy e => ?_
  · rcases G with G | ⟨g, G, hg⟩
    · rw [G]; exact h.2.2
    · rw [G]; intro e; injection e with e; have := h.2.1; omega
  · rcases hy with hy | hy
    · exact hy.elim
    · exact hy.2.2 e

/-! Maps of names to numbers. -/
theorem Mv.look84 {w : World} {b m : Nat} {s : List UInt8 → Option Value} (h : Mv w b m s) (x : List UInt8) (hx : x.length < 140737488355328) :
    (Instr.lookup 84 (.map (some b)) (.string ⟨x.toArray⟩) true).run Tryz.prog w = .ok (.tuple #[(s x).getD (.int .i64 0), .bool (s x).isSome]) w := by
  obtain ⟨D, hown, _, hs⟩ := h
  obtain ⟨u, ps, h1, h2⟩ := hown.look_ok (zd := .held (.int .i64 0)) (zp := []) lawN Tryz.underlying84 (Tryz.zeroValue3 w) rfl (keyN x hx)
  obtain ⟨h3, h4⟩ := hs x
  rw [h1, h3]
  have hu : DataW.held u = D.atKey (.string x) (.held (.int .i64 0)) := congrArg Prod.fst (Option.some.inj h2)
  cases hsx : s x with
  | none =>
    rw [hsx] at h3
    rw [Maps.atKey_of_not_has h3] at hu
    rw [DataW.held.inj hu]
    simp only [Option.getD_none]
  | some v =>
    rw [h4 v _ hsx] at hu
    rw [DataW.held.inj hu]
    simp only [Option.getD_some]
theorem Mv.put84 {w : World} {b m : Nat} {s : List UInt8 → Option Value} (h : Mv w b m s) (x : List UInt8) (hx : x.length < 140737488355328) (hm : m < 100000000) (hs : s x = none) (v : Value) :
    ∃ w', (Instr.mapUpdate 84 (.map (some b)) (.string ⟨x.toArray⟩) v).run Tryz.prog w = .ok () w' ∧ Mv w' b (m + 1) (fun y => if y = x then some v else s y) ∧ w.grownBy w' (some b) := by
  obtain ⟨D, hown, hsz, hS⟩ := h
  obtain ⟨w', h1, h2, h3⟩ := hown.update (d := .held v) (ps := []) lawN Tryz.underlying84 (by unfold maxLen; omega) (keyN x hx) rfl
  refine ⟨w', h1, ⟨_, h2, ?_, fun y => ?_⟩, h3⟩
  · rw [Maps.size_put (hown.tidy lawN), (hS x).1, hs, hsz]
    rfl
  · by_cases hy : y = x
    · subst hy
      have hk : WideAt.IsKeyLit (Lit.string y) := trivial
      simp only [if_true]
      exact ⟨by rw [Maps.has_put_same hown.isMap hk]; rfl, fun u z hu => by cases hu; exact Maps.atKey_put_same hown.isMap hk _ _⟩
    · have hne : Lit.string y ≠ Lit.string x := fun e => hy (by injection e)
      simp only [if_neg hy]
      rw [Maps.has_put_other hne]
      exact ⟨(hS y).1, fun u z hu => by rw [Maps.atKey_put_other hne]; exact (hS y).2 u z hu⟩

/-! Places of names. -/
def posP : List Byt → Byt → Option Nat
  | [], _ => none
  | a :: r, x => if a = x then some 0 else (posP r x).map (· + 1)
theorem pos_snoc (L : List Byt) (y x : Byt) : posP (L ++ [y]) x = match posP L x with | some i => some i | none => if y = x then some L.length else none := by
  induction L with
  | nil => show (if y = x then some 0 else none) = _; rfl
  | cons a r ih =>
    show (if a = x then some 0 else (posP (r ++ [y]) x).map (· + 1)) = match (if a = x then some 0 else (posP r x).map (· + 1)) with | some i => some i | none => if y = x then some (r.length + 1) else none
    by_cases h : a = x
    · rw [if_pos h, if_pos h]
    · rw [if_neg h, if_neg h, ih]
      cases posP r x with
      | some i => rfl
      | none =>
        by_cases hy : y = x
        · simp [hy]
        · simp [hy]
theorem pos_lt {L : List Byt} {x : Byt} {i : Nat} (h : posP L x = some i) : i < L.length := by
  induction L generalizing i with
  | nil => cases h
  | cons a r ih =>
    have h : (if a = x then some 0 else (posP r x).map (· + 1)) = some i := h
    split at h
    · cases h; simp
    · cases hp : posP r x with
      | none => rw [hp] at h; cases h
      | some j => rw [hp] at h; cases h; have := ih hp; simp; omega
def idxV (L : List Byt) (x : Byt) : Option Value := (posP L x).map fun i => .int .i64 (i : Nat)
theorem idx_snoc {L : List Byt} {y : Byt} (h : posP L y = none) : idxV (L ++ [y]) = fun x => if x = y then some (.int .i64 (L.length : Nat)) else idxV L x := by
  funext x
  unfold idxV
  rw [pos_snoc]
  by_cases hx : x = y
  · subst hx
    rw [h, if_pos rfl, if_pos rfl]
    rfl
  · rw [if_neg hx]
    cases posP L x with
    | some i => rfl
    | none => rw [if_neg (fun e => hx e.symm)]
theorem idx_same {L : List Byt} {y : Byt} {i : Nat} (h : posP L y = some i) : idxV (L ++ [y]) = idxV L := by
  funext x
  unfold idxV
  rw [pos_snoc]
  cases hx : posP L x with
  | some j => rfl
  | none =>
    rw [if_neg]
    intro e
    subst e
    rw [h] at hx
    cases hx
end Go.Proofs.YtlpnegnpejpdkaaGreatDoor

namespace Go.Proofs.YtlpnegnpejpdkaaGreatDoor
open Go.RowKit

/-- A text reader: what is left, the rows, the names of the constructors and of the globals, the first globals. -/
structure RL (w : World) (R mA mB : Nat) (l : Byt) (sv gv : Value) (SA N : List Byt) (fv : Value) (F : List Int) : Prop where
  tb : TB w R l sv gv (.map (some mA)) (.map (some mB)) fv
  a : ∃ n, n ≤ SA.length ∧ Mv w mA n (idxV SA)
  b : ∃ n, n ≤ N.length ∧ Mv w mB n (idxV N)
  f : OwnN EInt 3 (R + 1) (fun _ => False) w fv F
  lt : mA < mB ∧ mB < R
  len : F.length = N.length
/-- What a reader leaves that may number names. -/
structure LO (w : World) (R mB : Nat) (fv : Value) (w' : World) (fv' : Value) : Prop where
  own : fv'.ownBlock = fv.ownBlock ∨ ∃ g, fv'.ownBlock = some g ∧ w.heap.size ≤ g
  bel : Below mB w w'
  size : w.heap.size ≤ w'.heap.size
  kept : ∀ y, y < w.heap.size → y ≠ R → y ≠ mB → fv.ownBlock ≠ some y → w'.heap[y]? = w.heap[y]?
theorem LO.refl (w : World) (R mB : Nat) (fv : Value) : LO w R mB fv w fv := ⟨.inl rfl, Below.refl _ _, Nat.le_refl _, fun _ _ _ _ _ => rfl⟩
theorem LO.trans {a b c : World} {R mB : Nat} {f f' f'' : Value} (h : LO a R mB f b f') (k : LO b R mB f' c f'') : LO a R mB f c f'' := by
  refine ⟨?_, h.bel.trans k.bel, Nat.le_trans h.size k.size, fun y hy hR hm hO => (k.kept y (Nat.lt_of_lt_of_le hy h.size) hR hm fun e => ?_).trans (h.kept y hy hR hm hO)⟩
  · rcases k.own with e | ⟨g, e, hg⟩
    · rw [e]; exact h.own
    · exact .inr ⟨g, e, Nat.le_trans h.size hg⟩
  · rcases h.own with e2 | ⟨g, e2, hg⟩
    · rw [e2] at e; exact hO e
    · rw [e2] at e
      injection e with e
      omega
theorem LO.of_rk {w w' : World} {R mB : Nat} {fv : Value} (h : Rk w R w') (hR : R ≤ w.heap.size) (hm : mB ≤ R) : LO w R mB fv w' fv := ⟨.inl rfl, h.1.mono hm, h.size hR, fun y hy hyR _ _ => h.2 y hy hyR⟩
theorem RL.on_rk {w w' : World} {R mA mB : Nat} {l l' : Byt} {sv gv : Value} {SA N : List Byt} {fv : Value} {F : List Int} (h : RL w R mA mB l sv gv SA N fv F) (ht : TB w' R l' sv gv (.map (some mA)) (.map (some mB)) fv) (hk : Rk w R w') : RL w' R mA mB l' sv gv SA N fv F ∧ LO w R mB fv w' fv := by
  obtain ⟨na, hna, ha⟩ := h.a
  obtain ⟨nb, hnb, hb⟩ := h.b
  obtain ⟨l1, l2⟩ := h.lt
  have hRs : R ≤ w.heap.size := Nat.le_of_lt (lt_heap h.tb)
  exact ⟨⟨ht, ⟨na, hna, ha.on (hk.2 _ ha.lt (by omega))⟩, ⟨nb, hnb, hb.on (hk.2 _ hb.lt (by omega))⟩, h.f.keep (fun y hy hy2 => hk.2 y hy2 (by omega)) (hk.size hRs), ⟨l1, l2⟩, h.len⟩, LO.of_rk hk hRs (Nat.le_of_lt l2)⟩
def nameNum (N : List Byt) (F : List Int) (x : Byt) : Nat × List Byt × List Int := match posP N x with
  | some k => (k, N, F)
  | none => (N.length, N ++ [x], F ++ [-1])
set_option maxHeartbeats 16000000 in
set_option maxRecDepth 10000 in
theorem nname_any {w : World} {R mA mB : Nat} {l : Byt} {sv gv : Value} {SA N : List Byt} {fv : Value} {F : List Int} (h : RL w R mA mB l sv gv SA N fv F) (x : Byt) (hx : x.length ≤ 4096) (hN : N.length < 90000000) :
    Calls Tryz.prog 114 #[.pointer (some ⟨R, 0, none⟩), .string ⟨x.toArray⟩] w fun r w' => ∃ fv', r = .returned (.int .i64 ((nameNum N F x).1 : Nat)) ∧ Hid (RL w' R mA mB l sv gv SA (nameNum N F x).2.1 fv' (nameNum N F x).2.2 ∧ LO w R mB fv w' fv') := by
  obtain ⟨nb, hnb, hb⟩ := h.b
  have hlk := hb.look84 x (by omega)
  have p3 : w.cell? ⟨R, 3, none⟩ = some (.map (some mA)) := heap_cl h.tb rfl
  have p4 : w.cell? ⟨R, 4, none⟩ = some (.map (some mB)) := heap_cl h.tb rfl
  have p5 : w.cell? ⟨R, 5, none⟩ = some fv := heap_cl h.tb rfl
  have H : Hid (RL w R mA mB l sv gv SA N fv F) := h
  obtain ⟨S, hS⟩ : ∃ S : ByteArray, S = ⟨x.toArray⟩ := ⟨_, rfl⟩
  have e0 : nameNum N F x = match posP N x with | some k => (k, N, F) | none => (N.length, N ++ [x], F ++ [-1]) := rfl
  obtain ⟨FF, hF⟩ : ∃ FF : Ending → World → Prop, FF = fun r w' => ∃ fv', r = .returned (.int .i64 ((nameNum N F x).1 : Nat)) ∧ Hid (RL w' R mA mB l sv gv SA (nameNum N F x).2.1 fv' (nameNum N F x).2.2 ∧ LO w R mB fv w' fv') := ⟨_, rfl⟩
  rw [← hF]
  cases hp : posP N x with
  | some k =>
    have hE : idxV N x = some (.int .i64 (k : Nat)) := by unfold idxV; rw [hp]; rfl
    rw [hE] at hlk
    rw [← hS] at hlk ⊢
    have HFE : Hid (FF (.returned (.int .i64 (k : Nat))) w) := by
      show FF _ _
      rw [hF]
      have e1 : nameNum N F x = (k, N, F) := by rw [e0, hp]
      rw [e1]
      exact ⟨fv, rfl, H.out, LO.refl _ _ _ _⟩
    clear h hb e0 hF hp hE hS
    go_enter Tryz.func114, Tryz.ntmps114
    go_wp2
    exact HFE.out
  | none =>
    have hE : idxV N x = none := by unfold idxV; rw [hp]; rfl
    rw [hE] at hlk
    obtain ⟨w3, hput, hb3, hg3⟩ := hb.put84 x (by omega) (by omega) hE (.int .i64 (F.length : Nat))
    obtain ⟨l1, l2⟩ := h.lt
    have hRs := lt_heap h.tb
    have hk3 : ∀ y, y < w.heap.size → y ≠ mB → w3.heap[y]? = w.heap[y]? := fun y hy hne => hg3.block y hy fun e => hne (Option.some.inj e)
    have htb3 : TB w3 R l sv gv (.map (some mA)) (.map (some mB)) fv := (hk3 R hRs (by omega)).trans h.tb
    have q5 : w3.cell? ⟨R, 5, none⟩ = some fv := heap_cl htb3 rfl
    have hf3 : OwnN EInt 3 (R + 1) (fun _ => False) w3 fv F := h.f.keep (fun y hy hy2 => hk3 y hy2 (by omega)) hg3.size
    have hBb : Below mB w w3 := (Below.refl _ _).grown hg3 (by omega) fun k hk => by rw [Option.some.inj hk]; exact Nat.le_refl _
    have HP : Hid (TB w3 R l sv gv (.map (some mA)) (.map (some mB)) fv ∧ OwnN EInt 3 (R + 1) (fun _ => False) w3 fv F ∧ Below mB w w3 ∧ w.heap.size ≤ w3.heap.size ∧ ∀ y, y < w.heap.size → y ≠ mB → w3.heap[y]? = w.heap[y]?) := ⟨htb3, hf3, hBb, hg3.size, hk3⟩
    have HMB : Hid (Mv w3 mB (nb + 1) (fun y => if y = x then some (.int .i64 (F.length : Nat)) else idxV N y)) := hb3
    have HFE : Hid (∀ w' fv', RL w' R mA mB l sv gv SA (N ++ [x]) fv' (F ++ [-1]) → LO w R mB fv w' fv' → FF (.returned (.int .i64 (F.length : Nat))) w') := fun w' fv' h1 h2 => by
      show FF _ _
      rw [hF]
      have e1 : nameNum N F x = (N.length, N ++ [x], F ++ [-1]) := by rw [e0, hp]
      rw [e1, H.out.len]
      exact ⟨fv', rfl, h1, h2⟩
    have HNB : Hid (nb ≤ N.length ∧ posP N x = none) := ⟨hnb, hp⟩
    obtain ⟨ad, cap, rfl⟩ := h.f.len
    rw [← hS] at hlk hput ⊢
    have hFl : F.length < 90000000 := by rw [h.len]; exact hN
    clear h hb e0 hF hp hE hS htb3 hf3 hBb hk3 hg3 hb3 hnb
    go_enter Tryz.func114, Tryz.ntmps114
    go_wp2_with (at_builtin; refine one_append (w2 := w3) (E := EInt) (l := F) (v := .slice ad F.length cap) (p := -1) (cs := [.int .i64 (-1)]) (B := R + 1) (cap := 1) Tryz.ty61 rfl _ _ rfl rfl HP.out.2.1 (lt_heap HP.out.1) rfl rfl (Nat.le_refl _) (by omega) ?_; intro v4 w4 O4 B4 S4 K4 G4; have hP4 : w4.heap[R]? = some (.cells #[.string ⟨l.toArray⟩, sv, gv, .map (some mA), .map (some mB), .slice ad F.length cap] 86 (0, 0)) := (B4.block R (Nat.lt_succ_self R)).trans HP.out.1; have p6 : w4.cell? ⟨R, 5, none⟩ = some (.slice ad F.length cap) := heap_cl hP4 rfl; have f6 : w4.frozen? ⟨R, 5, none⟩ = false := heap_frozen hP4; obtain ⟨ad4, cap4, rfl⟩ := O4.len; have HO4 : Hid (OwnN EInt 3 (R + 1) (fun _ => False) w4 (.slice ad4 (F ++ [-1]).length cap4) (F ++ [-1]) ∧ Below (R + 1) w3 w4 ∧ w3.heap.size ≤ w4.heap.size ∧ (∀ y, y < w3.heap.size → (Value.slice ad F.length cap).ownBlock ≠ some y → w4.heap[y]? = w3.heap[y]?) ∧ ((Value.slice ad4 (F ++ [-1]).length cap4).ownBlock = (Value.slice ad F.length cap).ownBlock ∨ ∃ g, (Value.slice ad4 (F ++ [-1]).length cap4).ownBlock = some g ∧ w3.heap.size ≤ g) ∧ w4.heap[R]? = some (.cells #[.string ⟨l.toArray⟩, sv, gv, .map (some mA), .map (some mB), .slice ad F.length cap] 86 (0, 0))) := ⟨O4, B4, S4, K4, G4, hP4⟩; clear O4 B4 S4 K4 G4 hP4)
    obtain ⟨O4, B4, S4, K4, G4, hP4⟩ := HO4.out
    obtain ⟨_, hf3, hBb, hs3, hk3⟩ := HP.out
    have hown : ∀ y, (Value.slice ad F.length cap).ownBlock = some y → R + 1 ≤ y := fun y e => (hf3.lt y e).1
    have e4 : Value.slice ad4 (F ++ [-1]).length cap4 = Value.slice ad4 (F.length + 1) cap4 := by rw [List.length_append]; rfl
    rw [e4] at O4 G4
    have hk5 : ∀ y, y ≠ R → (w4.setCell ⟨R, 5, none⟩ (.slice ad4 (F.length + 1) cap4)).heap[y]? = w4.heap[y]? := fun y hy => Below.heap_setCell _ _ _ _ hy
    obtain ⟨na, hna, ha⟩ := H.out.a
    have hs5 : (w4.setCell ⟨R, 5, none⟩ (.slice ad4 (F.length + 1) cap4)).heap.size = w4.heap.size := World.size_setCell _ _ _
    have hmA := ha.lt
    have hmB := HMB.out.lt
    refine HFE.out _ (.slice ad4 (F.length + 1) cap4) ⟨(setCell_block hP4).trans rfl, ⟨na, hna, ha.on ?_⟩, ⟨nb + 1, by rw [List.length_append]; have := HNB.out.1; simp only [List.length_cons, List.length_nil]; omega, ?_⟩, ?_, ⟨l1, l2⟩, by rw [List.length_append, List.length_append, H.out.len]; rfl⟩ ⟨?_, ?_, by rw [hs5]; exact Nat.le_trans hs3 S4, fun y hy hyR hyB hO => ?_⟩
    · exact (hk5 mA (by omega)).trans ((K4 mA (by omega) fun e => by have := hown mA e; omega).trans (hk3 mA hmA (by omega)))
    · rw [idx_snoc HNB.out.2, ← H.out.len]
      exact HMB.out.on ((hk5 mB (by omega)).trans (K4 mB hmB fun e => by have := hown mB e; omega))
    · exact O4.keep (fun y hy _ => hk5 y (by omega)) (by rw [hs5]; exact Nat.le_refl _)
    · rcases G4 with e | ⟨g, e, hg⟩
      · exact .inl e
      · exact .inr ⟨g, e, Nat.le_trans hs3 hg⟩
    · exact (hBb.trans (B4.mono (by omega))).setCell (p := ⟨R, 5, none⟩) (by show mB ≤ R; omega) _
    · exact (hk5 y hyR).trans ((K4 y (Nat.lt_of_lt_of_le hy hs3) hO).trans (hk3 y hy hyB))
end Go.Proofs.YtlpnegnpejpdkaaGreatDoor
