/- What is written is read: the numbers of instructions. What is written is read: instructions, codes. -/
import Derived.Test.YtlpnegnpejpdkabGreatDoorPe
import Derived.Test.YtlpnegnpejpdkabGreatDoorMix
import Derived.Test.YtlpnegnpejpdkabGreatDoorMlx
namespace Go.Proofs.YtlpnegnpejpdkabGreatDoor

theorem pos_is : ∀ {L : List Byt} {x : Byt} {i : Nat}, posP L x = some i → ∃ h : i < L.length, L[i] = x
  | [], _, _, h => by cases h
  | a :: r, x, i, h => by
    have h : (if a = x then some 0 else (posP r x).map (· + 1)) = some i := h
    by_cases hx : a = x
    · rw [if_pos hx] at h
      cases h
      exact ⟨by simp, hx⟩
    · rw [if_neg hx] at h
      cases hr : posP r x with
      | none => rw [hr] at h; cases h
      | some j =>
        rw [hr] at h
        cases h
        obtain ⟨h1, h2⟩ := pos_is hr
        exact ⟨by simp only [List.length_cons]; omega, h2⟩
theorem pos_of_mem : ∀ {L : List Byt} {x : Byt}, x ∈ L → posP L x ≠ none
  | a :: r, x, h, e => by
    have e : (if a = x then some 0 else (posP r x).map (· + 1)) = none := e
    by_cases hx : a = x
    · rw [if_pos hx] at e; cases e
    · rw [if_neg hx] at e
      rcases List.mem_cons.1 h with h | h
      · exact hx h.symm
      · cases hr : posP r x with
        | none => exact pos_of_mem h hr
        | some j => rw [hr] at e; cases e
theorem pos_nodup {L : List Byt} (h : L.Nodup) {i : Nat} (hi : i < L.length) : posP L L[i] = some i := by
  cases hp : posP L L[i] with
  | none => exact absurd hp (pos_of_mem (List.getElem_mem hi))
  | some j =>
    obtain ⟨h1, h2⟩ := pos_is hp
    rw [(List.getElem_inj h).1 h2]
/-- Names keep their numbers. -/
def Stays (N N' : List Byt) : Prop := ∀ x k, posP N x = some k → posP N' x = some k
theorem Stays.refl (N : List Byt) : Stays N N := fun _ _ h => h
theorem Stays.trans {a b c : List Byt} (h : Stays a b) (k : Stays b c) : Stays a c := fun x i hx => k x i (h x i hx)
/-- Which of the first globals has a name. -/
def firstG (t : Tab) (j : Nat) (x : Byt) : Int := match posP ((t.2.take j).map fun g => g.1) x with
  | some i => (i : Int)
  | none => -1
/-- The names' numbers, when so many globals are read. -/
structure NmSt (t : Tab) (j : Nat) (N : List Byt) (F : List Int) : Prop where
  len : F.length = N.length
  mem : ∀ i (h : i < t.2.length), i < j → posP N t.2[i].1 ≠ none
  fst : ∀ x k, posP N x = some k → F.getD k 0 = firstG t j x
theorem firstG_none {t : Tab} {j : Nat} {N : List Byt} {F : List Int} (h : NmSt t j N F) {x : Byt} (hx : posP N x = none) : firstG t j x = -1 := by
  unfold firstG
  cases hp : posP ((t.2.take j).map fun g => g.1) x with
  | none => rfl
  | some i =>
    obtain ⟨h1, h2⟩ := pos_is hp
    rw [List.length_map, List.length_take] at h1
    rw [List.getElem_map, List.getElem_take] at h2
    exact absurd (by rw [h2]; exact hx) (h.mem i (by omega) (by omega))
/-- A name is numbered. -/
theorem nm_num {t : Tab} {j : Nat} {N : List Byt} {F : List Int} (h : NmSt t j N F) (x : Byt) : NmSt t j (nameNum N F x).2.1 (nameNum N F x).2.2 ∧ Stays N (nameNum N F x).2.1 ∧ posP (nameNum N F x).2.1 x = some (nameNum N F x).1 := by
  unfold nameNum
  cases hp : posP N x with
  | some k => exact ⟨h, Stays.refl _, hp⟩
  | none =>
    have hs : Stays N (N ++ [x]) := fun y k hy => by rw [pos_snoc, hy]
    have hx : posP (N ++ [x]) x = some N.length := by rw [pos_snoc, hp]; exact if_pos rfl
    refine ⟨⟨by rw [List.length_append, List.length_append, h.len]; rfl, fun i hi hij e => ?_, fun y k hy => ?_⟩, hs, hx⟩
    · have e : posP (N ++ [x]) t.2[i].1 = none := e
      cases hq : posP N t.2[i].1 with
      | none => exact h.mem i hi hij hq
      | some k => rw [hs _ _ hq] at e; cases e
    · have hy : posP (N ++ [x]) y = some k := hy
      show (F ++ [-1]).getD k 0 = _
      cases hq : posP N y with
      | some k' =>
        have e := hs _ _ hq
        rw [hy] at e
        cases e
        obtain ⟨h1, _⟩ := pos_is hq
        rw [List.getD_eq_getElem?_getD, List.getElem?_append_left (by rw [h.len]; exact h1), ← List.getD_eq_getElem?_getD]
        exact h.fst y k hq
      | none =>
        rw [pos_snoc, hq] at hy
        have hy : (if x = y then some N.length else none) = some k := hy
        by_cases hxy : x = y
        · rw [if_pos hxy] at hy
          cases hy
          rw [firstG_none h hq, ← h.len]
          simp
        · rw [if_neg hxy] at hy
          cases hy
/-- What may be asked of the names. -/
structure NmOkP (t : Tab) : Prop where
  shp : (t.1.map fun s => s.1).Nodup
  glb : (t.2.map fun g => g.1).Nodup
  ns : ∀ s ∈ t.1, nameP s.1 = true
  ng : ∀ g ∈ t.2, nameP g.1 = true
theorem parg_end (t : Tab) (k : Nat) (n : Int) (rest : Byt) : EndL (pargT t k n ++ rest) := by
  unfold pargT
  split
  · exact end_blank (b := 32) (by decide)
  · split
    · exact end_blank (b := 32) (by decide)
    · split
      · exact end_blank (b := 32) (by decide)
      · exact end_blank (b := 32) (by decide)
theorem parg_read {t : Tab} (hN : NmOkP t) {j k : Nat} {n : Int} {N : List Byt} {F : List Int} {rest : Byt} (hst : NmSt t j N F) (hk : POk t k n) (hi : k ≠ 4 → k ≠ 5 → k ≠ 6 → isIntP n = true) (hr : EndL rest) :
    ∃ n' N' F', numQ (t.1.map fun s => s.1) k (pargT t k n ++ rest) N F = some (n', rest, N', F') ∧ NmSt t j N' F' ∧ Stays N N' ∧ (k = 5 → ∃ i : Nat, n' = (i : Int) ∧ posP N' (t.2.getD n.toNat ([], 0, [])).1 = some i) ∧ (k ≠ 5 → n' = n) := by
  unfold numQ pargT
  by_cases h4 : k = 4
  · obtain ⟨a1, a2⟩ := hk.shp h4
    obtain ⟨m, rfl⟩ : ∃ m : Nat, n = (m : Int) := ⟨n.toNat, by omega⟩
    have hm : m < t.1.length := by omega
    have e : (t.1.getD m ([], 0)).1 = t.1[m].1 := by rw [List.getD_eq_getElem?_getD, List.getElem?_eq_getElem hm]; rfl
    have hp := pos_nodup hN.shp (i := m) (by rw [List.length_map]; exact hm)
    rw [List.getElem_map] at hp
    refine ⟨(m : Int), N, F, ?_, hst, Stays.refl _, fun e => by omega, fun _ => rfl⟩
    rw [if_pos h4, if_pos h4, Int.toNat_natCast, e, name_read (hN.ns _ (List.getElem_mem hm))]
    show (match posP (t.1.map fun s => s.1) t.1[m].1 with | some i => some ((i : Int), rest, N, F) | none => none) = _
    rw [hp]
  · by_cases h5 : k = 5
    · obtain ⟨a1, a2⟩ := hk.glb h5
      obtain ⟨m, rfl⟩ : ∃ m : Nat, n = (m : Int) := ⟨n.toNat, by omega⟩
      have hm : m < t.2.length := by omega
      have e : (t.2.getD m ([], 0, [])).1 = t.2[m].1 := by rw [List.getD_eq_getElem?_getD, List.getElem?_eq_getElem hm]; rfl
      obtain ⟨q1, q2, q3⟩ := nm_num hst t.2[m].1
      refine ⟨((nameNum N F t.2[m].1).1 : Int), _, _, ?_, q1, q2, fun _ => ⟨_, rfl, by rw [Int.toNat_natCast, e]; exact q3⟩, fun h => absurd h5 h⟩
      rw [if_neg h4, if_neg h4, if_pos h5, if_pos h5, Int.toNat_natCast, e, name_read (hN.ng _ (List.getElem_mem hm))]
    · by_cases h6 : k = 6
      · obtain ⟨a1, a2⟩ := hk.ops h6
        obtain ⟨m, rfl⟩ : ∃ m : Nat, n = (m : Int) := ⟨n.toNat, by omega⟩
        obtain ⟨q1, q2, q3⟩ := opr_read m (by omega) (by omega)
        have hw := word_read (pre := [32]) (a := opsP.getD m []) (fun b hb => by rw [List.mem_singleton.1 hb]; decide) q2 q3 hr
        refine ⟨(m : Int), N, F, ?_, hst, Stays.refl _, fun e => absurd e h5, fun _ => rfl⟩
        rw [if_neg h4, if_neg h4, if_neg h5, if_neg h5, if_pos h6, if_pos h6, Int.toNat_natCast, List.append_assoc, hw]
        show (if oprOfP (opsP.getD m []) = 0 then none else some ((oprOfP (opsP.getD m []) : Int), rest, N, F)) = _
        rw [q1, if_neg (by omega)]
      · refine ⟨n, N, F, ?_, hst, Stays.refl _, fun e => absurd e h5, fun _ => rfl⟩
        rw [if_neg h4, if_neg h4, if_neg h5, if_neg h5, if_neg h6, if_neg h6, numT_read hk.num (hi h4 h5 h6) hr]
end Go.Proofs.YtlpnegnpejpdkabGreatDoor

namespace Go.Proofs.YtlpnegnpejpdkabGreatDoor

/-- An instruction that is read as it was written. -/
structure IRead (t : Tab) (x : Ins) : Prop where
  ok : IOk t x
  i1 : isIntP x.2.1 = true
  i2 : isIntP x.2.2 = true
  z1 : kindA x.1 = 0 → x.2.1 = 0
  z2 : kindB x.1 = 0 → x.2.2 = 0
/-- What is read of an instruction: a global's number is its name's. -/
structure RelI (t : Tab) (N : List Byt) (x y : Ins) : Prop where
  op : y.1 = x.1
  b : y.2.2 = x.2.2
  g : x.1 = 2 → ∃ i : Nat, y.2.1 = (i : Int) ∧ posP N (t.2.getD x.2.1.toNat ([], 0, [])).1 = some i
  a : x.1 ≠ 2 → y.2.1 = x.2.1
theorem RelI.stays {t : Tab} {N N' : List Byt} {x y : Ins} (h : RelI t N x y) (hs : Stays N N') : RelI t N' x y :=
  ⟨h.op, h.b, fun e => by obtain ⟨i, h1, h2⟩ := h.g e; exact ⟨i, h1, hs _ _ h2⟩, h.a⟩
theorem kind_five {op : Int} (h : isOpP op = true) : (kindA op = 5 ↔ op = 2) ∧ kindB op ≠ 5 := by
  obtain ⟨i, rfl⟩ : ∃ i : Nat, op = (i : Int) := ⟨op.toNat, by have := op_range h; omega⟩
  have hr := op_range h
  have hd : ∀ j, j < 18 → (kindA (j : Nat) = 5 ↔ j = 2) ∧ kindB (j : Nat) ≠ 5 := by decide
  obtain ⟨h1, h2⟩ := hd i (by omega)
  exact ⟨h1.trans (by omega), h2⟩
theorem rest_read {t : Tab} (hN : NmOkP t) {j : Nat} {x : Ins} {N : List Byt} {F : List Int} {rest : Byt} (hst : NmSt t j N F) (hx : IRead t x) (hr : EndL rest) :
    ∃ y N' F', restQ (t.1.map fun s => s.1) x.1 (restT t x ++ rest) N F = some (y, rest, N', F') ∧ NmSt t j N' F' ∧ Stays N N' ∧ RelI t N' x y := by
  obtain ⟨k1, k2⟩ := kind_five hx.ok.op
  unfold restQ restT
  by_cases hb : kindB x.1 ≠ 0
  · have ha : kindA x.1 ≠ 0 := fun e => hb (kind_two hx.ok.op e)
    rw [if_pos hb, if_pos hb, List.append_assoc]
    obtain ⟨n1, N1, F1, p1, p2, p3, p4, p5⟩ := parg_read hN hst (hx.ok.a ha) (fun _ _ _ => hx.i1) (parg_end t (kindB x.1) x.2.2 rest)
    obtain ⟨n2, N2, F2, q1, q2, q3, q4, q5⟩ := parg_read hN p2 (hx.ok.b hb) (fun _ _ _ => hx.i2) hr
    refine ⟨(x.1, n1, n2), N2, F2, ?_, q2, p3.trans q3, ⟨rfl, q5 k2, fun e => ?_, fun e => p5 fun e2 => e (k1.1 e2)⟩⟩
    · rw [p1]
      show bindQ (numQ (t.1.map fun s => s.1) (kindB x.1) (pargT t (kindB x.1) x.2.2 ++ rest) N1 F1) _ = _
      rw [q1]
      rfl
    · obtain ⟨i, e1, e2⟩ := p4 (k1.2 e)
      exact ⟨i, e1, q3 _ _ e2⟩
  · have hb0 : kindB x.1 = 0 := Classical.not_not.1 hb
    rw [if_neg hb, if_neg hb]
    by_cases ha : kindA x.1 ≠ 0
    · rw [if_pos ha, if_pos ha]
      obtain ⟨n1, N1, F1, p1, p2, p3, p4, p5⟩ := parg_read hN hst (hx.ok.a ha) (fun _ _ _ => hx.i1) hr
      refine ⟨(x.1, n1, 0), N1, F1, ?_, p2, p3, ⟨rfl, (hx.z2 hb0).symm, fun e => p4 (k1.2 e), fun e => p5 fun e2 => e (k1.1 e2)⟩⟩
      rw [p1]
      rfl
    · have ha0 : kindA x.1 = 0 := Classical.not_not.1 ha
      rw [if_neg ha, if_neg ha]
      refine ⟨(x.1, 0, 0), N, F, rfl, hst, Stays.refl _, ⟨rfl, (hx.z2 hb0).symm, fun e => ?_, fun _ => (hx.z1 ha0).symm⟩⟩
      rw [k1.2 e] at ha0
      cases ha0
theorem rest_end (t : Tab) (x : Ins) (l : Byt) : EndL (restT t x ++ (10 :: l)) := by
  unfold restT
  split
  · rw [List.append_assoc]; exact parg_end _ _ _ _
  · split
    · exact parg_end _ _ _ _
    · exact end_blank (by decide)
theorem code_read {t : Tab} (hN : NmOkP t) {j : Nat} {rest : Byt} (hw : opOfP (wordP (10 :: rest)).1 = 0) : ∀ (xs : List Ins) (k : Nat) (N : List Byt) (F : List Int), xs.length < k → NmSt t j N F → (∀ x ∈ xs, IRead t x) →
    ∃ ys N' F', codeQ (t.1.map fun s => s.1) k (10 :: ((xs.map (insT t)).flatten ++ rest)) N F = some ((ys, (wordP (10 :: rest)).1), (wordP (10 :: rest)).2, N', F') ∧ NmSt t j N' F' ∧ Stays N N' ∧ ys.length = xs.length ∧ ∀ i (h : i < xs.length) (h' : i < ys.length), RelI t N' xs[i] ys[i]
  | [], k, N, F, hk, hst, _ => by
    obtain ⟨k, rfl⟩ : ∃ k', k = k' + 1 := ⟨k - 1, by simp only [List.length_nil] at hk; omega⟩
    refine ⟨[], N, F, ?_, hst, Stays.refl _, rfl, fun i h => by simp at h⟩
    show (if opOfP (wordP (10 :: rest)).1 = 0 then _ else _) = _
    rw [if_pos hw]
    rfl
  | x :: xs, k, N, F, hk, hst, hxs => by
    obtain ⟨k, rfl⟩ : ∃ k', k = k' + 1 := ⟨k - 1, by omega⟩
    have hx := hxs x (by simp)
    have hop := op_range hx.ok.op
    obtain ⟨q1, q2, q3⟩ := op_read x.1.toNat (by omega) (by omega)
    have e : (10 :: (((x :: xs).map (insT t)).flatten ++ rest) : Byt) = [10, 32, 32] ++ (wordsP.getD x.1.toNat [] ++ (restT t x ++ (10 :: ((xs.map (insT t)).flatten ++ rest)))) := by
      show (10 :: ((insT t x ++ (xs.map (insT t)).flatten) ++ rest) : Byt) = _
      unfold insT
      simp [List.append_assoc]
    have hword := word_read (pre := [10, 32, 32]) (a := wordsP.getD x.1.toNat []) (rest := restT t x ++ (10 :: ((xs.map (insT t)).flatten ++ rest))) (by decide) q2 q3 (rest_end t x _)
    obtain ⟨y, N1, F1, p1, p2, p3, p4⟩ := rest_read hN hst hx (end_blank (b := 10) (l := (xs.map (insT t)).flatten ++ rest) (by decide))
    obtain ⟨ys, N2, F2, r1, r2, r3, r4, r5⟩ := code_read hN hw xs k N1 F1 (by simp only [List.length_cons] at hk; omega) p2 fun z hz => hxs z (by simp [hz])
    refine ⟨y :: ys, N2, F2, ?_, r2, p3.trans r3, by simp [r4], fun i h h' => ?_⟩
    · rw [e]
      show (if opOfP (wordP _).1 = 0 then _ else bindQ (restQ _ (opOfP (wordP _).1 : Nat) (wordP _).2 N F) _) = _
      rw [hword]
      show (if opOfP (wordsP.getD x.1.toNat []) = 0 then _ else bindQ (restQ _ (opOfP (wordsP.getD x.1.toNat []) : Nat) (restT t x ++ (10 :: ((xs.map (insT t)).flatten ++ rest))) N F) _) = _
      rw [q1, if_neg (by omega), show ((x.1.toNat : Nat) : Int) = x.1 by omega, p1]
      show bindQ (codeQ _ k (10 :: ((xs.map (insT t)).flatten ++ rest)) N1 F1) _ = _
      rw [r1]
      rfl
    · cases i with
      | zero => exact p4.stays r3
      | succ i => exact r5 i (by simpa using h) (by simpa using h')
end Go.Proofs.YtlpnegnpejpdkabGreatDoor
