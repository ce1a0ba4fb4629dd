/- What is read has numbers that an int holds. -/
import Derived.Test.YtlpnegnpejpdkabGreatDoorMsx
import Derived.Test.YtlpnegnpejpdkabGreatDoorUs
namespace Go.Proofs.YtlpnegnpejpdkabGreatDoor

def LtF (F : List Int) : Prop := ∀ k, F.getD k 0 < 9223372036854775808
theorem ltf_snoc {F : List Int} (h : LtF F) : LtF (F ++ [-1]) := fun k => by
  by_cases hk : k < F.length
  · rw [List.getD_eq_getElem?_getD, List.getElem?_append_left hk, ← List.getD_eq_getElem?_getD]
    exact h k
  · by_cases hk2 : k = F.length
    · subst hk2
      simp
    · rw [List.getD_eq_getElem?_getD, List.getElem?_eq_none (by simp; omega)]
      decide
theorem ltf_set {F : List Int} (h : LtF F) (k : Nat) {v : Int} (hv : v < 9223372036854775808) : LtF (F.set k v) := fun j => by
  by_cases hj : j = k
  · subst hj
    by_cases hl : j < F.length
    · rw [getD_set_eq' hl]; exact hv
    · rw [List.getD_eq_getElem?_getD, List.getElem?_eq_none (by simp; omega)]
      decide
  · rw [getD_set_ne' hj]; exact h j
theorem seek_lt {L : List Byt} : ∀ (n i : Nat) (a : Byt), seekF L n i a ≤ i + n
  | 0, _, _ => Nat.zero_le _
  | n + 1, i, a => by
    unfold seekF
    split
    · omega
    · have := seek_lt (L := L) n (i + 1) a
      omega
theorem nm_ltf {N : List Byt} {F : List Int} (h : LtF F) (x : Byt) : LtF (nameNum N F x).2.2 := by
  unfold nameNum
  split
  · exact h
  · exact ltf_snoc h
theorem num_p_int {l m : Byt} {n : Int} (h : numP' l = some (n, m)) : n < 9223372036854775808 := by
  unfold numP' at h
  split at h
  · rename_i k hw
    cases h
    unfold wnumP at hw
    split at hw
    · split at hw
      · rename_i hc
        cases hw
        have := hc.2
        unfold isIntP at this
        simp only [Bool.and_eq_true, decide_eq_true_eq] at this
        omega
      · cases hw
    · cases hw
  · cases h
theorem num_q_small {SA : List Byt} {k : Nat} {l : Byt} {N : List Byt} {F : List Int} {n : Int} {m : Byt} {N' : List Byt} {F' : List Int} (h : numQ SA k l N F = some (n, m, N', F')) (hSA : SA.length ≤ 8388608) (hl : N.length + l.length ≤ 8388608) (hF : LtF F) : n < 9223372036854775808 ∧ LtF F' := by
  have hlen := num_q_len h
  have hnm := num_q_name h
  unfold numQ at h
  split at h
  · split at h
    · split at h
      · rename_i i hp
        obtain ⟨h1, _⟩ := pos_is hp
        cases h
        exact ⟨by omega, hF⟩
      · cases h
    · cases h
  · split at h
    · rename_i h5
      split at h
      · have := (hnm.2 h5).2
        cases h
        exact ⟨by omega, nm_ltf hF _⟩
      · cases h
    · split at h
      · split at h
        · cases h
        · cases h
          have : oprOfP (wordP l).1 ≤ 12 := by have := seek_lt (L := opsP) 12 0 (wordP l).1; unfold oprOfP; omega
          exact ⟨by omega, hF⟩
      · split at h
        · rename_i hn
          cases h
          exact ⟨num_p_int hn, hF⟩
        · cases h
theorem rest_q_small {SA : List Byt} {op : Int} {l : Byt} {N : List Byt} {F : List Int} {i : Ins} {m : Byt} {N' : List Byt} {F' : List Int} (h : restQ SA op l N F = some (i, m, N', F')) (hSA : SA.length ≤ 8388608) (hl : N.length + l.length ≤ 8388608) (hF : LtF F) : i.2.1 < 9223372036854775808 ∧ i.2.2 < 9223372036854775808 ∧ LtF F' := by
  unfold restQ at h
  split at h
  · obtain ⟨a, m1, N1, F1, h1, h⟩ := bind_q_some h
    obtain ⟨b, m2, N2, F2, h2, h⟩ := bind_q_some h
    cases h
    have k1 := num_q_len h1
    obtain ⟨q1, q2⟩ := num_q_small h1 hSA hl hF
    obtain ⟨q3, q4⟩ := num_q_small h2 hSA (by omega) q2
    exact ⟨q1, q3, q4⟩
  · split at h
    · obtain ⟨a, m1, N1, F1, h1, h⟩ := bind_q_some h
      cases h
      obtain ⟨q1, q2⟩ := num_q_small h1 hSA hl hF
      exact ⟨q1, by show (0 : Int) < _; omega, q2⟩
    · cases h
      exact ⟨by show (0 : Int) < _; omega, by show (0 : Int) < _; omega, hF⟩
def SmallI (l : List Ins) : Prop := ∀ x ∈ l, x.2.1 < 9223372036854775808 ∧ x.2.2 < 9223372036854775808
theorem code_q_small {SA : List Byt} (hSA : SA.length ≤ 8388608) : ∀ (k : Nat) (l : Byt) (N : List Byt) (F : List Int) (c : List Ins × Byt) (m : Byt) (N' : List Byt) (F' : List Int), codeQ SA k l N F = some (c, m, N', F') → N.length + l.length ≤ 8388608 → LtF F → SmallI c.1 ∧ LtF F'
  | 0, _, _, _, _, _, _, _, h, _, _ => by cases h
  | k + 1, l, N, F, c, m, N', F', h, hl, hF => by
    have h : (if opOfP (wordP l).1 = 0 then some (([], (wordP l).1), (wordP l).2, N, F) else bindQ (restQ SA (opOfP (wordP l).1 : Nat) (wordP l).2 N F) fun i m N F => bindQ (codeQ SA k m N F) fun c m N F => some ((i :: c.1, c.2), m, N, F)) = some (c, m, N', F') := h
    have hw := word_both l
    split at h
    · cases h
      exact ⟨fun x hx => (by cases hx), hF⟩
    · obtain ⟨i, m1, N1, F1, h1, h⟩ := bind_q_some h
      obtain ⟨c2, m2, N2, F2, h2, h⟩ := bind_q_some h
      cases h
      have k1 := rest_q_len h1
      obtain ⟨q1, q2, q3⟩ := rest_q_small h1 hSA (by omega) hF
      obtain ⟨q4, q5⟩ := code_q_small hSA k _ _ _ _ _ _ _ h2 (by omega) q3
      refine ⟨fun x hx => ?_, q5⟩
      rcases List.mem_cons.1 hx with rfl | hx
      · exact ⟨q1, q2⟩
      · exact q4 x hx
theorem glb_q_small {SA : List Byt} (hSA : SA.length ≤ 8388608) {j : Nat} {l : Byt} {N : List Byt} {F : List Int} {p : Glb × Byt} {m : Byt} {N' : List Byt} {F' : List Int} (h : glbQ SA j l N F = some (p, m, N', F')) (hl : N.length + l.length ≤ 8388608) (hj : j ≤ 8388608) (hF : LtF F) : SmallI p.1.2.2 ∧ LtF F' := by
  unfold glbQ at h
  split at h
  · rename_i x m1 hn
    have h1 := name_q_left hn
    split at h
    · rename_i n m2 hu
      have h2 := num_p_len hu
      obtain ⟨c, m3, N3, F3, h3, h⟩ := bind_q_some h
      cases h
      have h5 := name_num_len N F x
      have hF2 : LtF (firstQ (nameNum N F x).2.2 (nameNum N F x).1 j) := by
        unfold firstQ
        split
        · exact ltf_set (nm_ltf hF x) _ (by omega)
        · exact nm_ltf hF x
      exact code_q_small hSA _ _ _ _ _ _ _ _ h3 (by omega) hF2
    · cases h
  · cases h
theorem glbs_q_small {SA : List Byt} (hSA : SA.length ≤ 8388608) : ∀ (k j : Nat) (a m : Byt) (N : List Byt) (F : List Int) (q : List Glb × Byt) (m' : Byt) (N' : List Byt) (F' : List Int), glbsQ SA k j a m N F = some (q, m', N', F') → N.length + m.length ≤ 8388608 → j + m.length ≤ 8388608 → LtF F → (∀ g ∈ q.1, SmallI g.2.2) ∧ LtF F'
  | 0, _, _, _, _, _, _, _, _, _, h, _, _, _ => by cases h
  | k + 1, j, a, m, N, F, q, m', N', F', h, hl, hj, hF => by
    have h : (if a = globalQW then bindQ (glbQ SA j m N F) fun p m N F => bindQ (glbsQ SA k (j + 1) p.2 m N F) fun q m N F => some ((p.1 :: q.1, q.2), m, N, F) else some (([], a), m, N, F)) = some (q, m', N', F') := h
    split at h
    · obtain ⟨p, m1, N1, F1, h2, h⟩ := bind_q_some h
      obtain ⟨q2, m2, N2, F2, h3, h⟩ := bind_q_some h
      cases h
      have q1 := glb_q_len h2
      obtain ⟨q3, q4⟩ := glb_q_small hSA h2 hl (by omega) hF
      obtain ⟨q5, q6⟩ := glbs_q_small hSA k _ _ _ _ _ _ _ _ _ h3 (by omega) (by omega) q4
      refine ⟨fun g hg => ?_, q6⟩
      rcases List.mem_cons.1 hg with rfl | hg
      · exact q3
      · exact q5 g hg
    · cases h
      exact ⟨fun g hg => (by cases hg), hF⟩
theorem code_s_small {F : List Int} (hF : LtF F) : ∀ (l c : List Ins), codeS F l = some c → SmallI l → SmallI c
  | [], c, h, _ => by cases h; exact fun x hx => by cases hx
  | i :: r, c, h, hl => by
    have h : (match insS F i with | some j => (codeS F r).map (j :: ·) | none => none) = some c := h
    split at h
    · rename_i j hj
      cases hr : codeS F r with
      | none => rw [hr] at h; cases h
      | some d =>
        rw [hr] at h
        cases h
        intro x hx
        rcases List.mem_cons.1 hx with rfl | hx
        · have hi := hl i (by simp)
          unfold insS at hj
          split at hj
          · split at hj
            · cases hj
            · cases hj
              exact ⟨hF _, hi.2⟩
          · cases hj
            exact hi
        · exact code_s_small hF r d hr (fun z hz => hl z (by simp [hz])) x hx
    · cases h
theorem glbs_s_small {F : List Int} (hF : LtF F) : ∀ (l c : List Glb), glbsS F l = some c → (∀ g ∈ l, SmallI g.2.2) → ∀ g ∈ c, SmallI g.2.2
  | [], c, h, _ => by cases h; exact fun g hg => by cases hg
  | g :: r, c, h, hl => by
    have h : (match codeS F g.2.2 with | some c => (glbsS F r).map ((g.1, g.2.1, c) :: ·) | none => none) = some c := h
    split at h
    · rename_i d hd
      cases hr : glbsS F r with
      | none => rw [hr] at h; cases h
      | some e =>
        rw [hr] at h
        cases h
        intro x hx
        rcases List.mem_cons.1 hx with rfl | hx
        · exact code_s_small hF _ _ hd (hl g (by simp))
        · exact glbs_s_small hF r e hr (fun z hz => hl z (by simp [hz])) x hx
    · cases h
theorem table_small {m : Byt} {t : Tab} (h : tableQ m = some t) (hm : m.length ≤ 8388608) : Small t := by
  unfold tableQ at h
  cases hs : shpsQ (m.length + 1) m with
  | none => rw [hs] at h; cases h
  | some x =>
    rw [hs] at h
    have h1 := shps_q_size _ _ _ hs
    obtain ⟨ss, a, r⟩ := x
    have h : finQ ss (glbsQ (ss.map fun s => s.1) (r.length + 1) 0 a r [] []) = some t := h
    have h1 : ss.length + r.length ≤ m.length := h1
    cases hg : glbsQ (ss.map fun s => s.1) (r.length + 1) 0 a r [] [] with
    | none => rw [hg] at h; cases h
    | some y =>
      obtain ⟨q, m', N', F'⟩ := y
      rw [hg] at h
      have h : (if q.2 = [] ∧ m' = [] then (glbsS F' q.1).map fun l => (ss, l) else none) = some t := h
      obtain ⟨h2, h3⟩ := glbs_q_small (by rw [List.length_map]; omega) _ _ _ _ _ _ _ _ _ _ hg (by simp only [List.length_nil]; omega) (by omega) (fun k => by simp)
      split at h
      · cases hl : glbsS F' q.1 with
        | none => rw [hl] at h; cases h
        | some l =>
          rw [hl] at h
          cases h
          exact fun g hg x hx => glbs_s_small h3 _ _ hl h2 g hg x hx
      · cases h
end Go.Proofs.YtlpnegnpejpdkabGreatDoor
