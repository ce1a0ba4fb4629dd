/- What is written is read: globals. What is written is read: tables. -/
import Derived.Test.YtlpnegnpejpdkabGreatDoorMqx
import Derived.Test.YtlpnegnpejpdkabGreatDoorMmx
namespace Go.Proofs.YtlpnegnpejpdkabGreatDoor

theorem firstG_succ {t : Tab} {j : Nat} (hj : j < t.2.length) (x : Byt) : firstG t (j + 1) x = match posP ((t.2.take j).map fun g => g.1) x with
    | some i => (i : Int)
    | none => if t.2[j].1 = x then (j : Int) else -1 := by
  have e : ((t.2.take (j + 1)).map fun g => g.1) = ((t.2.take j).map fun g => g.1) ++ [t.2[j].1] := by
    rw [List.take_succ_eq_append_getElem hj, List.map_append]
    rfl
  unfold firstG
  rw [e, pos_snoc]
  cases posP ((t.2.take j).map fun g => g.1) x with
  | some i => rfl
  | none =>
    have hl : ((t.2.take j).map fun g => g.1).length = j := by rw [List.length_map, List.length_take]; omega
    show (match (if t.2[j].1 = x then some ((t.2.take j).map fun g => g.1).length else none) with | some i => (i : Int) | none => -1) = _
    rw [hl]
    by_cases hx : t.2[j].1 = x
    · rw [if_pos hx, if_pos hx]
    · rw [if_neg hx, if_neg hx]
theorem firstG_new {t : Tab} (hN : NmOkP t) {j : Nat} (hj : j < t.2.length) : posP ((t.2.take j).map fun g => g.1) t.2[j].1 = none := by
  cases hp : posP ((t.2.take j).map fun g => g.1) t.2[j].1 with
  | none => rfl
  | some i =>
    obtain ⟨h1, h2⟩ := pos_is hp
    rw [List.length_map, List.length_take] at h1
    rw [List.getElem_map, List.getElem_take] at h2
    have h3 : (t.2.map fun g => g.1)[i]'(by rw [List.length_map]; omega) = (t.2.map fun g => g.1)[j]'(by rw [List.length_map]; exact hj) := by rw [List.getElem_map, List.getElem_map]; exact h2
    have := (List.getElem_inj hN.glb).1 h3
    omega
/-- A global's line is read. -/
theorem nm_first {t : Tab} (hN : NmOkP t) {j k : Nat} {N : List Byt} {F : List Int} (hst : NmSt t j N F) (hj : j < t.2.length) (hk : posP N t.2[j].1 = some k) : NmSt t (j + 1) N (firstQ F k j) := by
  have hnew := firstG_new hN hj
  have hF : F.getD k 0 = -1 := by
    rw [hst.fst _ _ hk]
    unfold firstG
    rw [hnew]
  have e : firstQ F k j = F.set k (j : Int) := if_pos hF
  obtain ⟨hkN, hkx⟩ := pos_is hk
  rw [e]
  refine ⟨by rw [List.length_set]; exact hst.len, fun i hi hij => ?_, fun x k' hx => ?_⟩
  · by_cases h : i = j
    · subst h
      rw [hk]
      exact fun e => by cases e
    · exact hst.mem i hi (by omega)
  · rw [firstG_succ hj]
    obtain ⟨hk'N, hk'x⟩ := pos_is hx
    by_cases h : k' = k
    · subst h
      have hxe : t.2[j].1 = x := hkx.symm.trans hk'x
      subst hxe
      rw [hnew]
      rw [List.getD_eq_getElem?_getD, List.getElem?_set_self (by rw [hst.len]; exact hkN)]
      exact (if_pos rfl).symm
    · have hxe : ¬ t.2[j].1 = x := fun e => by
        rw [e, hx] at hk
        exact h (by injection hk)
      rw [List.getD_eq_getElem?_getD, List.getElem?_set_ne (fun e => h e.symm), ← List.getD_eq_getElem?_getD, hst.fst _ _ hx]
      unfold firstG
      cases posP ((t.2.take j).map fun g => g.1) x with
      | some i => rfl
      | none => exact (if_neg hxe).symm
theorem codes_len (t : Tab) : ∀ xs : List Ins, xs.length ≤ ((xs.map (insT t)).flatten).length
  | [] => Nat.le_refl _
  | x :: xs => by
    have := codes_len t xs
    show xs.length + 1 ≤ (insT t x ++ (xs.map (insT t)).flatten).length
    rw [List.length_append]
    have : 2 ≤ (insT t x).length := by unfold insT; rw [List.length_append]; show 2 ≤ 2 + _; omega
    omega
/-- A global that is read as it was written. -/
structure GRead (t : Tab) (g : Glb) : Prop where
  num : i64 g.2.1
  int : isIntP g.2.1 = true
  code : ∀ x ∈ g.2.2, IRead t x
/-- What is read of a global. -/
structure RelG (t : Tab) (N : List Byt) (g h : Glb) : Prop where
  nm : h.1 = g.1
  ar : h.2.1 = g.2.1
  len : h.2.2.length = g.2.2.length
  code : ∀ i (a : i < g.2.2.length) (b : i < h.2.2.length), RelI t N g.2.2[i] h.2.2[i]
theorem RelG.stays {t : Tab} {N N' : List Byt} {g h : Glb} (r : RelG t N g h) (hs : Stays N N') : RelG t N' g h := ⟨r.nm, r.ar, r.len, fun i a b => (r.code i a b).stays hs⟩
theorem glb_read {t : Tab} (hN : NmOkP t) {j : Nat} (hj : j < t.2.length) {N : List Byt} {F : List Int} {rest : Byt} (hg : GRead t t.2[j]) (hst : NmSt t j N F) (hw : opOfP (wordP (10 :: rest)).1 = 0) :
    ∃ h N' F', glbQ (t.1.map fun s => s.1) j (nameT t.2[j].1 ++ (numT t.2[j].2.1 ++ (10 :: ((t.2[j].2.2.map (insT t)).flatten ++ rest)))) N F = some ((h, (wordP (10 :: rest)).1), (wordP (10 :: rest)).2, N', F') ∧ NmSt t (j + 1) N' F' ∧ Stays N N' ∧ RelG t N' t.2[j] h := by
  obtain ⟨q1, q2, q3⟩ := nm_num hst t.2[j].1
  have q4 := nm_first hN q1 hj q3
  obtain ⟨ys, N', F', r1, r2, r3, r4, r5⟩ := code_read hN hw t.2[j].2.2 ((10 :: ((t.2[j].2.2.map (insT t)).flatten ++ rest)).length + 1) _ _ (by have := codes_len t t.2[j].2.2; simp only [List.length_cons, List.length_append]; omega) q4 hg.code
  refine ⟨(t.2[j].1, t.2[j].2.1, ys), N', F', ?_, r2, q2.trans r3, ⟨rfl, rfl, r4, r5⟩⟩
  unfold glbQ
  rw [name_read (hN.ng _ (List.getElem_mem hj))]
  show (match numP' (numT t.2[j].2.1 ++ (10 :: ((t.2[j].2.2.map (insT t)).flatten ++ rest))) with | some (n, m2) => bindQ (codeQ _ (m2.length + 1) m2 (nameNum N F t.2[j].1).2.1 (firstQ (nameNum N F t.2[j].1).2.2 (nameNum N F t.2[j].1).1 j)) _ | none => none) = _
  rw [numT_read hg.num hg.int (end_blank (by decide))]
  show bindQ (codeQ _ _ _ _ _) _ = _
  rw [r1]
  rfl
end Go.Proofs.YtlpnegnpejpdkabGreatDoor

namespace Go.Proofs.YtlpnegnpejpdkabGreatDoor

def RelL (t : Tab) (N : List Byt) : List Glb → List Glb → Prop
  | [], [] => True
  | g :: gs, h :: hs => RelG t N g h ∧ RelL t N gs hs
  | _, _ => False
def restG (t : Tab) (l : List Glb) : Byt := (l.map (glbT t)).flatten
def afterG (t : Tab) (g : Glb) (rest : Byt) : Byt := nameT g.1 ++ (numT g.2.1 ++ (10 :: ((g.2.2.map (insT t)).flatten ++ rest)))
theorem restG_cons (t : Tab) (g : Glb) (l : List Glb) : restG t (g :: l) = globalQW ++ afterG t g (restG t l) := by
  show glbT t g ++ restG t l = _
  unfold glbT toldT afterG
  simp only [List.append_assoc]
  rfl
theorem word_global (t : Tab) (g : Glb) (l : List Glb) : wordP (10 :: restG t (g :: l)) = (globalQW, afterG t g (restG t l)) := by
  rw [restG_cons]
  exact word_read (pre := [10]) (a := globalQW) (by decide) (by decide) (by decide) (end_blank (b := 32) (by decide))
theorem word_done (t : Tab) : wordP (10 :: restG t []) = ([], []) := word_none (pre := [10]) (by decide)
theorem word_no_op (t : Tab) (l : List Glb) : opOfP (wordP (10 :: restG t l)).1 = 0 := by
  cases l with
  | nil => rw [word_done]; decide
  | cons g l =>
    rw [word_global]
    show opOfP globalQW = 0
    decide
theorem glbs_read {t : Tab} (hN : NmOkP t) (hG : ∀ g ∈ t.2, GRead t g) : ∀ (d j k : Nat) (N : List Byt) (F : List Int), j + d = t.2.length → d < k → NmSt t j N F →
    ∃ hs N' F', glbsQ (t.1.map fun s => s.1) k j (wordP (10 :: restG t (t.2.drop j))).1 (wordP (10 :: restG t (t.2.drop j))).2 N F = some ((hs, []), [], N', F') ∧ NmSt t t.2.length N' F' ∧ Stays N N' ∧ RelL t N' (t.2.drop j) hs
  | 0, j, k, N, F, hj, hk, hst => by
    obtain ⟨k, rfl⟩ : ∃ k', k = k' + 1 := ⟨k - 1, by omega⟩
    have hd : t.2.drop j = [] := List.drop_eq_nil_of_le (by omega)
    rw [hd, word_done]
    refine ⟨[], N, F, ?_, by rw [← hj]; exact hst, Stays.refl _, trivial⟩
    show (if ([] : Byt) = globalQW then _ else _) = _
    rw [if_neg (by decide)]
  | d + 1, j, k, N, F, hj, hk, hst => by
    obtain ⟨k, rfl⟩ : ∃ k', k = k' + 1 := ⟨k - 1, by omega⟩
    have hjl : j < t.2.length := by omega
    have hd := List.drop_eq_getElem_cons hjl
    obtain ⟨h, N1, F1, p1, p2, p3, p4⟩ := glb_read hN hjl (rest := restG t (t.2.drop (j + 1))) (hG _ (List.getElem_mem hjl)) hst (word_no_op t _)
    obtain ⟨hs, N2, F2, r1, r2, r3, r4⟩ := glbs_read hN hG d (j + 1) k N1 F1 (by omega) (by omega) p2
    rw [hd, word_global]
    refine ⟨h :: hs, N2, F2, ?_, r2, p3.trans r3, p4.stays r3, r4⟩
    show (if globalQW = globalQW then bindQ (glbQ _ j (afterG t t.2[j] (restG t (t.2.drop (j + 1)))) N F) _ else _) = _
    rw [if_pos rfl]
    unfold afterG
    rw [p1]
    show bindQ (glbsQ _ k (j + 1) (wordP (10 :: restG t (t.2.drop (j + 1)))).1 (wordP (10 :: restG t (t.2.drop (j + 1)))).2 N1 F1) _ = _
    rw [r1]
    rfl
/-! Settling. -/
theorem ins_settle {t : Tab} (hN : NmOkP t) {N : List Byt} {F : List Int} {x y : Ins} (hst : NmSt t t.2.length N F) (hx : IRead t x) (h : RelI t N x y) : insS F y = some x := by
  obtain ⟨o, a, b⟩ := x
  obtain ⟨o', a', b'⟩ := y
  obtain ⟨h1, h2, h3, h4⟩ := h
  have h1 : o' = o := h1
  have h2 : b' = b := h2
  subst h1
  subst h2
  unfold insS
  by_cases ho : o' = 2
  · obtain ⟨i, e1, e2⟩ := h3 ho
    have e1 : a' = (i : Int) := e1
    have hka : kindA o' = 5 := (kind_five hx.ok.op).1.2 ho
    obtain ⟨a1, a2⟩ := (hx.ok.a (by show kindA o' ≠ 0; rw [hka]; decide)).glb hka
    have a1 : 0 ≤ a := a1
    have a2 : a < (t.2.length : Int) := a2
    obtain ⟨m, rfl⟩ : ∃ m : Nat, a = (m : Int) := ⟨a.toNat, by omega⟩
    have hm : m < t.2.length := by omega
    have e3 : (t.2.getD ((m : Int)).toNat ([], 0, [])).1 = t.2[m].1 := by rw [Int.toNat_natCast, List.getD_eq_getElem?_getD, List.getElem?_eq_getElem hm]; rfl
    have e2 : posP N (t.2.getD ((m : Int)).toNat ([], 0, [])).1 = some i := e2
    rw [e3] at e2
    have hp := pos_nodup hN.glb (i := m) (by rw [List.length_map]; exact hm)
    rw [List.getElem_map] at hp
    have hF : F.getD i 0 = (m : Int) := by
      rw [hst.fst _ _ e2]
      unfold firstG
      rw [List.take_length, hp]
    subst e1
    show (if o' = 2 then (if F.getD ((i : Int)).toNat 0 = -1 then none else some (o', F.getD ((i : Int)).toNat 0, b')) else some (o', (i : Int), b')) = _
    rw [if_pos ho, Int.toNat_natCast, hF, if_neg (by omega)]
  · have e : a' = a := h4 ho
    subst e
    exact if_neg ho
theorem code_settle {t : Tab} (hN : NmOkP t) {N : List Byt} {F : List Int} (hst : NmSt t t.2.length N F) : ∀ (xs ys : List Ins), ys.length = xs.length → (∀ x ∈ xs, IRead t x) → (∀ i (a : i < xs.length) (b : i < ys.length), RelI t N xs[i] ys[i]) → codeS F ys = some xs
  | [], [], _, _, _ => rfl
  | [], _ :: _, h, _, _ => by simp at h
  | _ :: _, [], h, _, _ => by simp at h
  | x :: xs, y :: ys, hl, hx, hr => by
    have h1 := ins_settle hN hst (hx x (by simp)) (hr 0 (by simp) (by simp))
    have h2 := code_settle hN hst xs ys (by simpa using hl) (fun z hz => hx z (by simp [hz])) fun i a b => hr (i + 1) (by simpa using a) (by simpa using b)
    show (match insS F y with | some j => (codeS F ys).map (j :: ·) | none => none) = _
    have h1 : insS F y = some x := h1
    rw [h1, h2]
    rfl
theorem glbs_settle {t : Tab} (hN : NmOkP t) {N : List Byt} {F : List Int} (hst : NmSt t t.2.length N F) : ∀ (gs hs : List Glb), (∀ g ∈ gs, GRead t g) → RelL t N gs hs → glbsS F hs = some gs
  | [], [], _, _ => rfl
  | [], _ :: _, _, h => h.elim
  | _ :: _, [], _, h => h.elim
  | g :: gs, h :: hs, hG, hr => by
    obtain ⟨r1, r2⟩ := hr
    have h1 := code_settle hN hst g.2.2 h.2.2 r1.len (hG g (by simp)).code r1.code
    have h2 := glbs_settle hN hst gs hs (fun z hz => hG z (by simp [hz])) r2
    show (match codeS F h.2.2 with | some c => (glbsS F hs).map ((h.1, h.2.1, c) :: ·) | none => none) = _
    rw [h1, h2, r1.nm, r1.ar]
    rfl
/-! Shapes. -/
structure SRead (s : Shp) : Prop where
  nm : nameP s.1 = true
  num : i64 s.2
  int : isIntP s.2 = true
theorem shp_read {s : Shp} (hs : SRead s) (rest : Byt) : shpQ (nameT s.1 ++ (numT s.2 ++ (10 :: rest))) = some (s, 10 :: rest) := by
  unfold shpQ
  rw [name_read hs.nm]
  show (match numP' (numT s.2 ++ (10 :: rest)) with | some (n, m) => some ((s.1, n), m) | none => none) = _
  rw [numT_read hs.num hs.int (end_blank (by decide))]
theorem shps_read {rest : Byt} (hw : (wordP (10 :: rest)).1 ≠ shapeQW) : ∀ (ss : List Shp) (k : Nat), ss.length < k → (∀ s ∈ ss, SRead s) → shpsQ k (10 :: ((ss.map shpT).flatten ++ rest)) = some (ss, wordP (10 :: rest))
  | [], k, hk, _ => by
    obtain ⟨k, rfl⟩ : ∃ k', k = k' + 1 := ⟨k - 1, by omega⟩
    exact if_neg hw
  | s :: ss, k, hk, hs => by
    obtain ⟨k, rfl⟩ : ∃ k', k = k' + 1 := ⟨k - 1, by omega⟩
    have e : (10 :: (((s :: ss).map shpT).flatten ++ rest) : Byt) = [10] ++ (shapeQW ++ (nameT s.1 ++ (numT s.2 ++ (10 :: ((ss.map shpT).flatten ++ rest))))) := by
      show (10 :: ((shpT s ++ (ss.map shpT).flatten) ++ rest) : Byt) = _
      unfold shpT toldT
      simp only [List.append_assoc]
      rfl
    have hword := word_read (pre := [10]) (a := shapeQW) (rest := nameT s.1 ++ (numT s.2 ++ (10 :: ((ss.map shpT).flatten ++ rest)))) (by decide) (by decide) (by decide) (end_blank (b := 32) (by decide))
    rw [e]
    show (if (wordP _).1 = shapeQW then (match shpQ (wordP _).2 with | some (p, m1) => (shpsQ k m1).map fun x => (p :: x.1, x.2) | none => none) else some ([], wordP _)) = _
    rw [hword, if_pos rfl, shp_read (hs s (by simp))]
    show (shpsQ k (10 :: ((ss.map shpT).flatten ++ rest))).map _ = _
    rw [shps_read hw ss k (by simp only [List.length_cons] at hk; omega) fun z hz => hs z (by simp [hz])]
    rfl
theorem restG_len (t : Tab) : ∀ l : List Glb, l.length ≤ (restG t l).length
  | [] => Nat.zero_le _
  | g :: l => by
    have := restG_len t l
    rw [restG_cons]
    have h1 : (restG t l).length ≤ (afterG t g (restG t l)).length := by
      unfold afterG
      simp only [List.length_append, List.length_cons]
      omega
    rw [List.length_append, List.length_cons]
    show l.length + 1 ≤ 6 + _
    omega
theorem shps_len : ∀ ss : List Shp, ss.length ≤ ((ss.map shpT).flatten).length
  | [] => Nat.le_refl _
  | s :: ss => by
    have := shps_len ss
    show ss.length + 1 ≤ (shpT s ++ (ss.map shpT).flatten).length
    have h1 : 1 ≤ (shpT s).length := by unfold shpT toldT; rw [List.length_append]; show 1 ≤ 5 + _; omega
    rw [List.length_append]
    omega
theorem nm_start (t : Tab) : NmSt t 0 [] [] := ⟨rfl, fun _ _ h => by omega, fun _ _ h => by cases h⟩
/-- What Print writes is read as it was. -/
theorem read_back {t : Tab} (hN : NmOkP t) (hG : ∀ g ∈ t.2, GRead t g) (hS : ∀ s ∈ t.1, SRead s) (h1 : t.1 ≠ []) : tableQ (textT t) = some t := by
  have hw : (wordP (10 :: restG t t.2)).1 ≠ shapeQW := by
    cases h2 : t.2 with
    | nil => rw [word_done]; exact fun e => by cases e
    | cons g l =>
      rw [word_global]
      show globalQW ≠ shapeQW
      decide
  have hshp : shpsQ ((textT t).length + 1) (textT t) = some (t.1, wordP (10 :: restG t t.2)) := by
    cases h2 : t.1 with
    | nil => exact absurd h2 h1
    | cons s ss =>
      have e : textT t = [] ++ (shapeQW ++ (nameT s.1 ++ (numT s.2 ++ (10 :: ((ss.map shpT).flatten ++ restG t t.2))))) := by
        unfold textT
        rw [h2]
        show ((shpT s ++ (ss.map shpT).flatten) ++ restG t t.2 : Byt) = _
        unfold shpT toldT
        simp only [List.append_assoc]
        rfl
      have hlen : ss.length < (textT t).length := by
        have := shps_len ss
        rw [e]
        simp only [List.length_append, List.length_cons]
        omega
      have hword := word_read (pre := []) (a := shapeQW) (rest := nameT s.1 ++ (numT s.2 ++ (10 :: ((ss.map shpT).flatten ++ restG t t.2)))) (by decide) (by decide) (by decide) (end_blank (b := 32) (by decide))
      have hs : ∀ z ∈ s :: ss, SRead z := fun z hz => hS z (by rw [h2]; exact hz)
      show (if (wordP (textT t)).1 = shapeQW then (match shpQ (wordP (textT t)).2 with | some (p, m1) => (shpsQ (textT t).length m1).map fun x => (p :: x.1, x.2) | none => none) else some ([], wordP (textT t))) = _
      have hword2 : wordP (textT t) = (shapeQW, nameT s.1 ++ (numT s.2 ++ (10 :: ((ss.map shpT).flatten ++ restG t t.2)))) := by rw [e]; exact hword
      rw [hword2, if_pos rfl, shp_read (hs s (by simp))]
      show (shpsQ (textT t).length (10 :: ((ss.map shpT).flatten ++ restG t t.2))).map _ = _
      rw [shps_read hw ss _ hlen fun z hz => hs z (by simp [hz])]
      rfl
  have hfuel : t.2.length < (wordP (10 :: restG t t.2)).2.length + 1 := by
    cases h2 : t.2 with
    | nil => simp
    | cons g l =>
      rw [word_global]
      have := restG_len t l
      show l.length + 1 < (afterG t g (restG t l)).length + 1
      unfold afterG
      simp only [List.length_append, List.length_cons]
      omega
  obtain ⟨hs, N', F', r1, r2, r3, r4⟩ := glbs_read hN hG t.2.length 0 _ [] [] (Nat.zero_add _) hfuel (nm_start t)
  rw [List.drop_zero] at r1 r4
  have hset := glbs_settle hN r2 t.2 hs hG r4
  unfold tableQ
  rw [hshp]
  show finQ t.1 (glbsQ (t.1.map fun s => s.1) ((wordP (10 :: restG t t.2)).2.length + 1) 0 (wordP (10 :: restG t t.2)).1 (wordP (10 :: restG t t.2)).2 [] []) = _
  rw [r1]
  show (if ([] : Byt) = [] ∧ ([] : Byt) = [] then (glbsS F' hs).map fun l => (t.1, l) else none) = _
  rw [if_pos ⟨rfl, rfl⟩, hset]
  rfl
end Go.Proofs.YtlpnegnpejpdkabGreatDoor
