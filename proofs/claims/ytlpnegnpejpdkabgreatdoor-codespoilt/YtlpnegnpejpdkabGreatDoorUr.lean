/- textReader.table. -/
import Derived.Test.YtlpnegnpejpdkabGreatDoorMlx
namespace Go.Proofs.YtlpnegnpejpdkabGreatDoor
open Go.RowKit

def shapeQW : Byt := [115, 104, 97, 112, 101]
def globalQW : Byt := [103, 108, 111, 98, 97, 108]
def shpsQ : Nat → Byt → Option (List Shp × Byt × Byt)
  | 0, _ => none
  | k + 1, m => if (wordP m).1 = shapeQW then (match shpQ (wordP m).2 with
    | some (p, m1) => (shpsQ k m1).map fun x => (p :: x.1, x.2)
    | none => none) else some ([], wordP m)
def glbsQ (SA : List Byt) : Nat → Nat → Byt → Byt → List Byt → List Int → Qst (List Glb × Byt)
  | 0, _, _, _, _, _ => none
  | k + 1, j, a, m, N, F => if a = globalQW then bindQ (glbQ SA j m N F) fun p m N F => bindQ (glbsQ SA k (j + 1) p.2 m N F) fun q m N F => some ((p.1 :: q.1, q.2), m, N, F) else some (([], a), m, N, F)
def finQ (ss : List Shp) (x : Qst (List Glb × Byt)) : Option Tab := match x with
  | some (q, m, _, F) => if q.2 = [] ∧ m = [] then (glbsS F q.1).map fun l => (ss, l) else none
  | none => none
def tailQ (ss : List Shp) (a m : Byt) : Option Tab := finQ ss (glbsQ (ss.map fun s => s.1) (m.length + 1) 0 a m [] [])
def tableQ (m : Byt) : Option Tab := (shpsQ (m.length + 1) m).bind fun x => tailQ x.1 x.2.1 x.2.2
theorem shps_go {T : Option Tab} {k : Nat} {m0 m1 : Byt} {done : List Shp} {p : Shp} (h : T = (shpsQ (k + 1) m0).bind fun x => tailQ (done ++ x.1) x.2.1 x.2.2) (ha : (wordP m0).1 = shapeQW) (hp : shpQ (wordP m0).2 = some (p, m1)) : T = (shpsQ k m1).bind fun x => tailQ ((done ++ [p]) ++ x.1) x.2.1 x.2.2 := by
  rw [h]
  have e : shpsQ (k + 1) m0 = (shpsQ k m1).map fun x => (p :: x.1, x.2) := by
    show (if (wordP m0).1 = shapeQW then (match shpQ (wordP m0).2 with | some (p, m1) => (shpsQ k m1).map fun x => (p :: x.1, x.2) | none => none) else some ([], wordP m0)) = _
    rw [if_pos ha, hp]
  rw [e]
  cases shpsQ k m1 with
  | none => rfl
  | some x => show tailQ (done ++ (p :: x.1)) x.2.1 x.2.2 = tailQ ((done ++ [p]) ++ x.1) x.2.1 x.2.2; rw [List.append_assoc]; rfl
theorem shps_no {T : Option Tab} {k : Nat} {m0 : Byt} {K : List Shp × Byt × Byt → Option Tab} (h : T = (shpsQ (k + 1) m0).bind K) (ha : (wordP m0).1 = shapeQW) (hp : shpQ (wordP m0).2 = none) : T = none := by
  rw [h]
  have e : shpsQ (k + 1) m0 = none := by
    show (if (wordP m0).1 = shapeQW then (match shpQ (wordP m0).2 with | some (p, m1) => (shpsQ k m1).map fun x => (p :: x.1, x.2) | none => none) else some ([], wordP m0)) = _
    rw [if_pos ha, hp]
  rw [e]
  rfl
theorem shps_end {T : Option Tab} {k : Nat} {m0 : Byt} {K : List Shp × Byt × Byt → Option Tab} (h : T = (shpsQ (k + 1) m0).bind K) (ha : (wordP m0).1 ≠ shapeQW) : T = K ([], wordP m0) := by
  rw [h]
  have e : shpsQ (k + 1) m0 = some ([], wordP m0) := if_neg ha
  rw [e]
  rfl
theorem glbs_q_go {SA : List Byt} {ss : List Shp} {T : Option Tab} {k j : Nat} {a m m1 : Byt} {N N1 : List Byt} {F F1 : List Int} {gs : List Glb} {p : Glb × Byt} (h : T = finQ ss (bindQ (glbsQ SA (k + 1) j a m N F) fun q m N F => some ((gs ++ q.1, q.2), m, N, F))) (ha : a = globalQW) (hp : glbQ SA j m N F = some (p, m1, N1, F1)) : T = finQ ss (bindQ (glbsQ SA k (j + 1) p.2 m1 N1 F1) fun q m N F => some (((gs ++ [p.1]) ++ q.1, q.2), m, N, F)) := by
  rw [h]
  have e : glbsQ SA (k + 1) j a m N F = bindQ (glbQ SA j m N F) fun p m N F => bindQ (glbsQ SA k (j + 1) p.2 m N F) fun q m N F => some ((p.1 :: q.1, q.2), m, N, F) := if_pos ha
  rw [e, hp]
  show finQ ss (bindQ (bindQ (glbsQ SA k (j + 1) p.2 m1 N1 F1) fun q m N F => some ((p.1 :: q.1, q.2), m, N, F)) _) = _
  cases glbsQ SA k (j + 1) p.2 m1 N1 F1 with
  | none => rfl
  | some x =>
    obtain ⟨q, m, N, F⟩ := x
    show finQ ss (some ((gs ++ (p.1 :: q.1), q.2), m, N, F)) = finQ ss (some (((gs ++ [p.1]) ++ q.1, q.2), m, N, F))
    rw [List.append_assoc]
    rfl
theorem glbs_q_no {SA : List Byt} {ss : List Shp} {T : Option Tab} {k j : Nat} {a m : Byt} {N : List Byt} {F : List Int} {K : List Glb × Byt → Byt → List Byt → List Int → Qst (List Glb × Byt)} (h : T = finQ ss (bindQ (glbsQ SA (k + 1) j a m N F) K)) (ha : a = globalQW) (hp : glbQ SA j m N F = none) : T = none := by
  rw [h]
  have e : glbsQ SA (k + 1) j a m N F = bindQ (glbQ SA j m N F) fun p m N F => bindQ (glbsQ SA k (j + 1) p.2 m N F) fun q m N F => some ((p.1 :: q.1, q.2), m, N, F) := if_pos ha
  rw [e, hp]
  rfl
theorem glbs_q_end {SA : List Byt} {ss : List Shp} {T : Option Tab} {k j : Nat} {a m : Byt} {N : List Byt} {F : List Int} {gs : List Glb} (h : T = finQ ss (bindQ (glbsQ SA (k + 1) j a m N F) fun q m N F => some ((gs ++ q.1, q.2), m, N, F))) (ha : a ≠ globalQW) : T = if a = [] ∧ m = [] then (glbsS F gs).map fun l => (ss, l) else none := by
  rw [h]
  have e : glbsQ SA (k + 1) j a m N F = some (([], a), m, N, F) := if_neg ha
  rw [e]
  show (if a = [] ∧ m = [] then (glbsS F (gs ++ [])).map fun l => (ss, l) else none) = _
  rw [List.append_nil]
theorem shp_q_len {l m : Byt} {p : Shp} (h : shpQ l = some (p, m)) : m.length ≤ l.length ∧ p.1.length ≤ 4096 := by
  unfold shpQ at h
  split at h
  · rename_i hn
    have h1 := name_q_left hn
    have h3 := name_q_len hn
    split at h
    · rename_i hu
      have h2 := num_p_len hu
      cases h
      exact ⟨by omega, h3⟩
    · cases h
  · cases h
theorem code_q_len {SA : List Byt} : ∀ (k : Nat) (l : Byt) (N : List Byt) (F : List Int) (c : List Ins × Byt) (m : Byt) (N' : List Byt) (F' : List Int), codeQ SA k l N F = some (c, m, N', F') → c.2.length + m.length ≤ l.length ∧ N'.length + m.length ≤ N.length + l.length
  | 0, _, _, _, _, _, _, _, h => by cases h
  | k + 1, l, N, F, c, m, N', F', h => by
    have h : (if opOfP (wordP l).1 = 0 then some (([], (wordP l).1), (wordP l).2, N, F) else bindQ (restQ SA (opOfP (wordP l).1 : Nat) (wordP l).2 N F) fun i m N F => bindQ (codeQ SA k m N F) fun c m N F => some ((i :: c.1, c.2), m, N, F)) = some (c, m, N', F') := h
    have hw := word_both l
    split at h
    · cases h
      exact ⟨hw, by show _ + ((wordP l).2).length ≤ _; omega⟩
    · obtain ⟨i, m1, N1, F1, h1, h⟩ := bind_q_some h
      obtain ⟨c2, m2, N2, F2, h2, h⟩ := bind_q_some h
      cases h
      have q1 := rest_q_len h1
      have q2 := code_q_len k _ _ _ _ _ _ _ h2
      exact ⟨by show c2.2.length + _ ≤ _; omega, by omega⟩
theorem glb_q_len {SA : List Byt} {j : Nat} {l : Byt} {N : List Byt} {F : List Int} {p : Glb × Byt} {m : Byt} {N' : List Byt} {F' : List Int} (h : glbQ SA j l N F = some (p, m, N', F')) : p.2.length + m.length + 2 ≤ l.length ∧ N'.length + m.length ≤ N.length + l.length := by
  unfold glbQ at h
  split at h
  · rename_i x m1 hn
    have h1 := name_q_left hn
    split at h
    · rename_i n m2 hu
      have h2 := num_p_len hu
      obtain ⟨c, m3, N3, F3, h3, h⟩ := bind_q_some h
      cases h
      have h4 := code_q_len _ _ _ _ _ _ _ _ h3
      have h5 := name_num_len N F x
      exact ⟨by show c.2.length + _ + 2 ≤ _; omega, by omega⟩
    · cases h
  · cases h
/-- What reading a table leaves. -/
def QT (w : World) (R mA mB : Nat) (x : Option Tab) (r : Ending) (w' : World) : Prop := match x with
  | some t => ∃ m sv gv fv SA N F raws, r = .returned (.tuple #[]) ∧ Hid (RTab w' R mA mB m sv gv fv SA N F raws t ∧ Below mA w w')
  | none => r = thrown 170 ∧ Hid (Below mA w w')
set_option maxHeartbeats 16000000 in
set_option maxRecDepth 10000 in
theorem qtab_any {w : World} {R mA mB : Nat} {m : Byt} (h : RTab w R mA mB m (.slice none 0 0) (.slice none 0 0) (.slice none 0 0) [] [] [] [] ([], [])) (hl : m.length ≤ 8388608) (hS : ∀ w', Below mA w w' → RdS w') :
    Calls Tryz.prog 32 #[.pointer (some ⟨R, 0, none⟩)] w fun r w' => QT w R mA mB (tableQ m) r w' := by
  obtain ⟨l1, l2⟩ := h.rl.lt
  have CG := fun W => giveUp_any 170 W
  unfold thrown at CG
  obtain ⟨T, hT⟩ : ∃ T, T = tableQ m := ⟨_, rfl⟩
  rw [← hT]
  obtain ⟨G, hG⟩ : ∃ G : Ending → World → Prop, G = fun r w' => QT w R mA mB T r w' := ⟨_, rfl⟩
  rw [← hG]
  have HFN : Hid (∀ w', T = none → Below mA w w' → G (thrown 170) w') := fun w' h1 h2 => by rw [hG, h1]; exact ⟨rfl, h2⟩
  have HFS : Hid (∀ w' t m sv gv fv SA N F raws, T = some t → RTab w' R mA mB m sv gv fv SA N F raws t → Below mA w w' → G (.returned (.tuple #[])) w') := fun w' t m sv gv fv SA N F raws h1 h2 h3 => by rw [hG, h1]; exact ⟨m, sv, gv, fv, SA, N, F, raws, rfl, h2, h3⟩
  have HS : Hid (∀ w', Below mA w w' → RdS w') := hS
  have HT0 : Hid (T = (shpsQ (m.length + 1) m).bind fun x => tailQ ([] ++ x.1) x.2.1 x.2.2) := hT
  have H0 : Hid (RTab w R mA mB m (.slice none 0 0) (.slice none 0 0) (.slice none 0 0) [] [] [] [] ([], [])) := h
  have CW := word_any h.rl.tb hl
  have HWL := word_both m
  have HW0 : Hid (wordP m = ((wordP m).1, (wordP m).2)) := rfl
  generalize (wordP m).1 = a0 at *
  generalize (wordP m).2 = m1 at *
  clear hG hS hT h
  go_enter Tryz.func32, Tryz.ntmps32
  go_upto_region 1 with (go_at_call 52; (with_reducible refine Calls.mono CW ?_); rintro e2 w2 ⟨rfl, H2⟩; have HA : Hid (RTab w2 R mA mB m1 (.slice none 0 0) (.slice none 0 0) (.slice none 0 0) [] [] [] [] ([], []) ∧ Below mA w w2) := ⟨H0.out.call (H0.out.rl.on_rk H2.out.1 H2.out.2).1 (H0.out.rl.on_rk H2.out.1 H2.out.2).2, H2.out.2.1.mono (by omega)⟩; clear H2 CW)
  clear H0
  go_loopw [2] (fun av wr => ∃ (k : Nat) (m0 a m' : Byt) (sv : Value) (done : List Shp), av = .string ⟨a.toArray⟩ ∧ Hid (RTab wr R mA mB m' sv (.slice none 0 0) (.slice none 0 0) (done.map fun s => s.1) [] [] [] (done, []) ∧ Below mA w wr) ∧ Hid (wordP m0 = (a, m')) ∧ Hid (T = (shpsQ (k + 1) m0).bind fun x => tailQ (done ++ x.1) x.2.1 x.2.2) ∧ Hid (m0.length ≤ k ∧ done.length + m0.length ≤ 8388608 ∧ a.length + m'.length ≤ m0.length)) (fun av wr => Lib.strSize av + restLen wr R)
  case atStart => exact ⟨m.length, m, a0, m1, .slice none 0 0, [], rfl, HA.out, HW0.out, HT0.out, Nat.le_refl _, by simp only [List.length_nil]; omega, HWL⟩
  case round =>
    clear HA HW0 HT0 HWL
    obtain ⟨k, m0, a, m', sv, done, rfl, HA, HW0, HT0, HL⟩ := hrel
    have hml := rest_lenQ HA.out.1.rl
    have hms : (⟨a.toArray⟩ : ByteArray).size = a.length := by show a.toArray.size = _; simp
    have HMS : Hid (Lib.strSize (.string ⟨a.toArray⟩) + restLen wr R = a.length + m'.length) := by show _ = _; rw [hml]; show (⟨a.toArray⟩ : ByteArray).size + _ = _; rw [hms]
    clear hml hms
    by_cases ha : a = shapeQW
    · have HAL : Hid (a.length = 5 ∧ (wordP m0).1 = shapeQW ∧ (wordP m0).2 = m') := by rw [ha, HW0.out]; exact ⟨rfl, ha, rfl⟩
      have hqa : (a == [115, 104, 97, 112, 101]) = true := by rw [ha]; rfl
      have CH := shape_any HA.out.1 (by have := HL.out; omega) (by simp) (by have := HL.out; simp only [List.length_map]; omega) (fun w' hb => HS.out w' (HA.out.2.trans hb))
      clear HW0 ha
      cases hp : shpQ m' with
      | none =>
        rw [hp] at CH
        replace CH : Calls Tryz.prog 53 #[.pointer (some ⟨R, 0, none⟩)] wr fun r w' => r = .panicked [{ v := .iface 28 (.int .i64 170), recovered := false }] ∧ Hid (Below mA wr w') := CH
        go_wp2_with (go_at_call 53; (with_reducible refine Calls.mono CH ?_); rintro e5 w5 ⟨rfl, H5⟩)
        exact ⟨rfl, HFN.out _ (shps_no HT0.out HAL.out.2.1 (by rw [HAL.out.2.2]; exact hp)) (HA.out.2.trans H5.out)⟩
      | some q =>
        obtain ⟨p, m3⟩ := q
        have hfuel : ∃ k2, k = k2 + 1 := ⟨k - 1, by have := HL.out; have := HAL.out.1; omega⟩
        obtain ⟨k2, rfl⟩ := hfuel
        have HT3 : Hid (T = (shpsQ (k2 + 1) m3).bind fun x => tailQ ((done ++ [p]) ++ x.1) x.2.1 x.2.2) := shps_go HT0.out HAL.out.2.1 (by rw [HAL.out.2.2]; exact hp)
        have HL3 : Hid (m3.length ≤ k2 ∧ (done ++ [p]).length + m3.length ≤ 8388608 ∧ m3.length < a.length + m'.length) := by
          have h1 := HL.out
          have h2 := HAL.out.1
          have h3 := (shp_q_len hp).1
          show _ ∧ _ ∧ _
          rw [List.length_append]
          simp only [List.length_cons, List.length_nil]
          omega
        rw [hp] at CH
        replace CH : Calls Tryz.prog 53 #[.pointer (some ⟨R, 0, none⟩)] wr fun r w' => r = .returned (.tuple #[]) ∧ Hid (∃ sv', RTab w' R mA mB m3 sv' (.slice none 0 0) (.slice none 0 0) ((done.map fun s => s.1) ++ [p.1]) [] [] [] (done ++ [p], []) ∧ Below mA wr w') := CH
        have HWL := word_both m3
        have HW3 : Hid (wordP m3 = ((wordP m3).1, (wordP m3).2)) := rfl
        obtain ⟨a3, ha3⟩ : ∃ a3, a3 = (wordP m3).1 := ⟨_, rfl⟩
        obtain ⟨m4, hm4⟩ : ∃ m4, m4 = (wordP m3).2 := ⟨_, rfl⟩
        rw [← ha3, ← hm4] at HWL HW3
        have HA3 : Hid (a3 = (wordP m3).1) := ha3
        have HM4 : Hid (m4 = (wordP m3).2) := hm4
        clear ha3 hm4
        clear HT0 HL hp HAL
        go_wp2_with (first | (go_at_call 53; (with_reducible refine Calls.mono CH ?_); rintro e5 w5 ⟨rfl, H5⟩; obtain ⟨sv', h5, h5b⟩ := H5.out; have CW := word_any h5.rl.tb (by have := HL3.out; omega); rw [← HA3.out, ← HM4.out] at CW; have H6 : Hid (RTab w5 R mA mB m3 sv' (.slice none 0 0) (.slice none 0 0) ((done.map fun s => s.1) ++ [p.1]) [] [] [] (done ++ [p], []) ∧ Below mA w w5) := ⟨h5, HA.out.2.trans h5b⟩; clear h5 h5b H5 CH) | (go_at_call 52; (with_reducible refine Calls.mono CW ?_); rintro e7 w7 ⟨rfl, H7⟩; have H8 : Hid (RTab w7 R mA mB m4 sv' (.slice none 0 0) (.slice none 0 0) ((done.map fun s => s.1) ++ [p.1]) [] [] [] (done ++ [p], []) ∧ Below mA w w7) := ⟨H6.out.1.call (H6.out.1.rl.on_rk H7.out.1 H7.out.2).1 (H6.out.1.rl.on_rk H7.out.1 H7.out.2).2, H6.out.2.trans (H7.out.2.1.mono (by omega))⟩; clear H7 CW))
        go_roundw
        case rel => exact ⟨k2, m3, a3, m4, sv', done ++ [p], rfl, ⟨by rw [List.map_append]; exact H8.out.1, H8.out.2⟩, HW3.out, HT3.out, HL3.out.1, HL3.out.2.1, HWL⟩
        case measure =>
          have h1 := rest_lenQ H8.out.1.rl
          have h2 : Lib.strSize (.string ⟨a3.toArray⟩) = a3.length := by show a3.toArray.size = _; simp
          rw [HMS.out, h1, h2]
          have := HL3.out.2.2
          omega
    · have hqa : (a == [115, 104, 97, 112, 101]) = false := beq_eq_false_iff_ne.2 ha
      have HT3 : Hid (T = tailQ done a m') := by
        have := shps_end HT0.out (by rw [HW0.out]; exact ha)
        rw [HW0.out, List.append_nil] at this
        exact this
      have HL3 : Hid (a.length + m'.length ≤ 8388608) := by have := HL.out; show _ ≤ _; omega
      clear HT0 HL ha HW0 HMS
      go_upto_region 4 with fail
      obtain ⟨SA, hSA⟩ : ∃ SA, SA = done.map fun s => s.1 := ⟨_, rfl⟩
      have HSA : Hid (SA = done.map fun s => s.1) := hSA
      rw [← hSA] at HA
      have HT4 : Hid (T = finQ done (bindQ (glbsQ SA (m'.length + 1) ([] : List Glb).length a m' [] []) fun q m N F => some (([] ++ q.1, q.2), m, N, F))) := by
        show _ = _
        rw [HT3.out]
        show finQ done (glbsQ (done.map fun s => s.1) (m'.length + 1) 0 a m' [] []) = _
        rw [← HSA.out]
        congr 1
        show _ = bindQ (glbsQ SA (m'.length + 1) 0 a m' [] []) _
        cases glbsQ SA (m'.length + 1) 0 a m' [] [] with
        | none => rfl
        | some p => rfl
      clear hSA HT3 HSA hqa
      go_loopw [2] (fun av wr => ∃ (k : Nat) (a m' : Byt) (gv fv : Value) (N : List Byt) (F : List Int) (raws : List (Byt × Int × Value)) (gs : List Glb), av = .string ⟨a.toArray⟩ ∧ Hid (RTab wr R mA mB m' sv gv fv SA N F raws (done, gs) ∧ Below mA w wr ∧ GlbOk N.length gs) ∧ Hid (T = finQ done (bindQ (glbsQ SA (k + 1) gs.length a m' N F) fun q m N F => some ((gs ++ q.1, q.2), m, N, F))) ∧ Hid (m'.length ≤ k ∧ gs.length + a.length + m'.length ≤ 8388608 ∧ N.length + m'.length ≤ 8388608)) (fun av wr => Lib.strSize av + restLen wr R)
      case atStart => exact ⟨m'.length, a, m', .slice none 0 0, .slice none 0 0, [], [], [], [], rfl, ⟨HA.out.1, HA.out.2, fun _ h => by cases h⟩, HT4.out, Nat.le_refl _, by have := HL3.out; simp only [List.length_nil]; omega, by have := HL3.out; simp only [List.length_nil]; omega⟩
      case round =>
        clear HA HT4 HL3
        obtain ⟨k, a, m', gv, fv, N, F, raws, gs, rfl, HA, HT, HL⟩ := hrel
        have hml := rest_lenQ HA.out.1.rl
        have hms : (⟨a.toArray⟩ : ByteArray).size = a.length := by show a.toArray.size = _; simp
        have HMS : Hid (Lib.strSize (.string ⟨a.toArray⟩) + restLen wr R = a.length + m'.length) := by show _ = _; rw [hml]; show (⟨a.toArray⟩ : ByteArray).size + _ = _; rw [hms]
        clear hml hms
        by_cases ha : a = globalQW
        · have HAL : Hid (a.length = 6 ∧ a = globalQW) := by rw [ha]; exact ⟨rfl, rfl⟩
          have hqa : (a == [103, 108, 111, 98, 97, 108]) = true := by rw [ha]; rfl
          have CH := global_any HA.out.1 (by have := HL.out; omega) (by have := HL.out; show gs.length < _; omega) (fun w' hb => HS.out w' (HA.out.2.1.trans hb))
          replace CH : Calls Tryz.prog 54 #[.pointer (some ⟨R, 0, none⟩)] wr fun r w' => QG wr R mA mB sv SA raws (done, gs) (glbQ SA gs.length m' N F) r w' := CH
          clear ha
          cases hp : glbQ SA gs.length m' N F with
          | none =>
            rw [hp] at CH
            replace CH : Calls Tryz.prog 54 #[.pointer (some ⟨R, 0, none⟩)] wr fun r w' => r = .panicked [{ v := .iface 28 (.int .i64 170), recovered := false }] ∧ Hid (Below mA wr w') := CH
            go_wp2_with (go_at_call 54; (with_reducible refine Calls.mono CH ?_); rintro e5 w5 ⟨rfl, H5⟩)
            exact ⟨rfl, HFN.out _ (glbs_q_no HT.out HAL.out.2 hp) (HA.out.2.1.trans H5.out)⟩
          | some q =>
            obtain ⟨⟨p, b⟩, m3, N3, F3⟩ := q
            have hq := glb_q_len hp
            have hnq := glb_q_name hp
            have hfuel : ∃ k2, k = k2 + 1 := ⟨k - 1, by have := HL.out; omega⟩
            obtain ⟨k2, rfl⟩ := hfuel
            have HT3 : Hid (T = finQ done (bindQ (glbsQ SA (k2 + 1) (gs ++ [p]).length b m3 N3 F3) fun q m N F => some (((gs ++ [p]) ++ q.1, q.2), m, N, F))) := by
              show _ = _
              rw [List.length_append]
              exact glbs_q_go HT.out HAL.out.2 hp
            have HL3 : Hid (m3.length ≤ k2 ∧ (gs ++ [p]).length + b.length + m3.length ≤ 8388608 ∧ N3.length + m3.length ≤ 8388608 ∧ b.length + m3.length < a.length + m'.length) := by
              have h1 := HL.out
              have h2 := HAL.out.1
              have h3 : b.length + m3.length + 2 ≤ m'.length := hq.1
              have h4 := hq.2
              show _ ∧ _ ∧ _ ∧ _
              rw [List.length_append]
              simp only [List.length_cons, List.length_nil]
              omega
            have HGK : Hid (GlbOk N3.length (gs ++ [p])) := (HA.out.2.2.more hnq.1).snoc hnq.2
            rw [hp] at CH
            replace CH : Calls Tryz.prog 54 #[.pointer (some ⟨R, 0, none⟩)] wr fun r w' => ∃ gv' fv' cv, r = .returned (.string ⟨b.toArray⟩) ∧ Hid (RTab w' R mA mB m3 sv gv' fv' SA N3 F3 (raws ++ [(p.1, p.2.1, cv)]) (done, gs ++ [p]) ∧ Below mA wr w') := CH
            clear HT HL hp HAL hq hnq
            go_wp2_with (go_at_call 54; (with_reducible refine Calls.mono CH ?_); rintro e5 w5 ⟨gv', fv', cv, rfl, H5⟩)
            go_roundw
            case rel => exact ⟨k2, b, m3, gv', fv', N3, F3, _, gs ++ [p], rfl, ⟨H5.out.1, HA.out.2.1.trans H5.out.2, HGK.out⟩, HT3.out, HL3.out.1, HL3.out.2.1, HL3.out.2.2.1⟩
            case measure =>
              have h1 := rest_lenQ H5.out.1.rl
              have h2 : Lib.strSize (.string ⟨b.toArray⟩) = b.length := by show b.toArray.size = _; simp
              rw [HMS.out, h1, h2]
              have := HL3.out.2.2.2
              omega
        · have hqa : (a == [103, 108, 111, 98, 97, 108]) = false := beq_eq_false_iff_ne.2 ha
          have HT3 : Hid (T = if a = [] ∧ m' = [] then (glbsS F gs).map fun l => (done, l) else none) := glbs_q_end HT.out ha
          have q0 : wr.cell? ⟨R, 0, none⟩ = some (.string ⟨m'.toArray⟩) := heap_cl HA.out.1.rl.tb rfl
          clear HT HL ha HMS
          by_cases ha0 : a = []
          · by_cases hm0 : m' = []
            · subst ha0
              subst hm0
              have HT5 : Hid (T = (glbsS F gs).map fun l => (done, l)) := by show _ = _; rw [HT3.out, if_pos ⟨rfl, rfl⟩]
              have CT := settle_any HA.out.1 (by have := HA.out.1.rl.len; rw [this]; exact HA.out.2.2)
              clear HT3
              cases hg : glbsS F gs with
              | none =>
                replace CT : Calls Tryz.prog 55 #[.pointer (some ⟨R, 0, none⟩)] wr fun r w' => QL wr R mA mB [] sv gv fv SA N F raws done (glbsS F gs) r w' := CT
                rw [hg] at CT
                replace CT : Calls Tryz.prog 55 #[.pointer (some ⟨R, 0, none⟩)] wr fun r w' => r = .panicked [{ v := .iface 28 (.int .i64 170), recovered := false }] ∧ Hid (Below mA wr w') := CT
                go_wp2_with (go_at_call 55; (with_reducible refine Calls.mono CT ?_); rintro e5 w5 ⟨rfl, H5⟩)
                exact ⟨rfl, HFN.out _ (by rw [HT5.out, hg]; rfl) (HA.out.2.1.trans H5.out)⟩
              | some l =>
                replace CT : Calls Tryz.prog 55 #[.pointer (some ⟨R, 0, none⟩)] wr fun r w' => QL wr R mA mB [] sv gv fv SA N F raws done (glbsS F gs) r w' := CT
                rw [hg] at CT
                replace CT : Calls Tryz.prog 55 #[.pointer (some ⟨R, 0, none⟩)] wr fun r w' => r = .returned (.tuple #[]) ∧ Hid (RTab w' R mA mB [] sv gv fv SA N F raws (done, l) ∧ Below mA wr w') := CT
                have HTE : Hid (T = some (done, l)) := by show _ = _; rw [HT5.out, hg]; rfl
                clear HT5 hg
                go_wp2_with (go_at_call 55; (with_reducible refine Calls.mono CT ?_); rintro e5 w5 ⟨rfl, H5⟩)
                refine bodyPost_end (v := .tuple #[]) (by simp [results, Tryz.results32, go_sem]) rfl ?_
                exact HFS.out _ _ _ _ _ _ _ _ _ _ HTE.out H5.out.1 (HA.out.2.1.trans H5.out.2)
            · subst ha0
              have qm : m'.isEmpty = false := by
                cases m' with
                | nil => exact absurd rfl hm0
                | cons _ _ => rfl
              have HTN : Hid (T = none) := by show _ = _; rw [HT3.out, if_neg (fun h => hm0 h.2)]
              clear HT3 hm0
              go_wp2_with (go_at_call 39; (with_reducible refine Calls.mono (CG _) ?_); rintro e7 w7 ⟨rfl, hw⟩; obtain rfl := hw.symm; clear hw)
              exact ⟨rfl, HFN.out _ HTN.out HA.out.2.1⟩
          · have qn : a.isEmpty = false := by
              cases a with
              | nil => exact absurd rfl ha0
              | cons _ _ => rfl
            have HTN : Hid (T = none) := by show _ = _; rw [HT3.out, if_neg (fun h => ha0 h.1)]
            clear HT3 ha0
            go_wp2_with (go_at_call 39; (with_reducible refine Calls.mono (CG _) ?_); rintro e7 w7 ⟨rfl, hw⟩; obtain rfl := hw.symm; clear hw)
            exact ⟨rfl, HFN.out _ HTN.out HA.out.2.1⟩
end Go.Proofs.YtlpnegnpejpdkabGreatDoor
