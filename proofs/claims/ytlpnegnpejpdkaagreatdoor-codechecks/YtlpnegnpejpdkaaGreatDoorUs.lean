/- Read, whole. -/
import Derived.Test.YtlpnegnpejpdkaaGreatDoorMox
import Derived.Test.YtlpnegnpejpdkaaGreatDoorMqx
namespace Go.Proofs.YtlpnegnpejpdkaaGreatDoor
open Go.RowKit

/-! How much may be read. -/
theorem code_q_size {SA : List Byt} : ∀ (k : Nat) (l : Byt) (N : List Byt) (F : List Int) (c : List Ins × Byt) (m : Byt) (N' : List Byt) (F' : List Int), codeQ SA k l N F = some (c, m, N', F') → c.1.length + m.length ≤ l.length
  | 0, _, _, _, _, _, _, _, h => by cases h
  | k + 1, l, N, F, c, m, N', F', h => by
    have h : (if opOfP (wordP l).1 = 0 then some (([], (wordP l).1), (wordP l).2, N, F) else bindQ (restQ SA (opOfP (wordP l).1 : Nat) (wordP l).2 N F) fun i m N F => bindQ (codeQ SA k m N F) fun c m N F => some ((i :: c.1, c.2), m, N, F)) = some (c, m, N', F') := h
    have hw := word_both l
    split at h
    · cases h
      show 0 + (wordP l).2.length ≤ _
      omega
    · rename_i ho
      have h1 := op_ne ho
      obtain ⟨i, m1, N1, F1, h2, h⟩ := bind_q_some h
      obtain ⟨c2, m2, N2, F2, h3, h⟩ := bind_q_some h
      cases h
      have q1 := rest_q_len h2
      have q2 := code_q_size k _ _ _ _ _ _ _ h3
      show c2.1.length + 1 + _ ≤ _
      omega
theorem glb_q_size {SA : List Byt} {j : Nat} {l : Byt} {N : List Byt} {F : List Int} {p : Glb × Byt} {m : Byt} {N' : List Byt} {F' : List Int} (h : glbQ SA j l N F = some (p, m, N', F')) : p.1.2.2.length ≤ l.length := by
  unfold glbQ at h
  split at h
  · rename_i x m1 hn
    have h1 := name_q_left hn
    split at h
    · rename_i n m2 hu
      have h2 := num_p_len hu
      obtain ⟨c, m3, N3, F3, h3, h⟩ := bind_q_some h
      cases h
      have h4 := code_q_size _ _ _ _ _ _ _ _ h3
      show c.1.length ≤ _
      omega
    · cases h
  · cases h
theorem glbs_q_size {SA : List Byt} : ∀ (k j : Nat) (a m : Byt) (N : List Byt) (F : List Int) (q : List Glb × Byt) (m' : Byt) (N' : List Byt) (F' : List Int), glbsQ SA k j a m N F = some (q, m', N', F') → q.1.length ≤ m.length ∧ ∀ g ∈ q.1, g.2.2.length ≤ m.length
  | 0, _, _, _, _, _, _, _, _, _, h => by cases h
  | k + 1, j, a, m, N, F, q, m', N', F', h => by
    have h : (if a = globalQW then bindQ (glbQ SA j m N F) fun p m N F => bindQ (glbsQ SA k (j + 1) p.2 m N F) fun q m N F => some ((p.1 :: q.1, q.2), m, N, F) else some (([], a), m, N, F)) = some (q, m', N', F') := h
    split at h
    · obtain ⟨p, m1, N1, F1, h2, h⟩ := bind_q_some h
      obtain ⟨q2, m2, N2, F2, h3, h⟩ := bind_q_some h
      cases h
      have q1 := glb_q_len h2
      have q3 := glb_q_size h2
      obtain ⟨q4, q5⟩ := glbs_q_size k _ _ _ _ _ _ _ _ _ h3
      refine ⟨by show q2.1.length + 1 ≤ _; omega, fun g hg => ?_⟩
      rcases List.mem_cons.1 hg with rfl | hg
      · exact q3
      · have := q5 g hg
        omega
    · cases h
      exact ⟨Nat.zero_le _, fun g hg => by cases hg⟩
theorem code_s_len {F : List Int} : ∀ (l c : List Ins), codeS F l = some c → c.length = l.length
  | [], c, h => by cases h; rfl
  | i :: r, c, h => by
    have h : (match insS F i with | some j => (codeS F r).map (j :: ·) | none => none) = some c := h
    split at h
    · cases hr : codeS F r with
      | none => rw [hr] at h; cases h
      | some d => rw [hr] at h; cases h; show d.length + 1 = r.length + 1; rw [code_s_len r d hr]
    · cases h
theorem glbs_s_len {F : List Int} {n : Nat} : ∀ (l c : List Glb), glbsS F l = some c → (∀ g ∈ l, g.2.2.length ≤ n) → c.length = l.length ∧ ∀ g ∈ c, g.2.2.length ≤ n
  | [], c, h, _ => by cases h; exact ⟨rfl, fun _ h => by cases h⟩
  | g :: r, c, h, hn => by
    have h : (match codeS F g.2.2 with | some c => (glbsS F r).map ((g.1, g.2.1, c) :: ·) | none => none) = some c := h
    split at h
    · rename_i d hd
      cases hr : glbsS F r with
      | none => rw [hr] at h; cases h
      | some e =>
        rw [hr] at h
        cases h
        obtain ⟨h1, h2⟩ := glbs_s_len r e hr fun x hx => hn x (List.mem_cons_of_mem _ hx)
        refine ⟨by show e.length + 1 = r.length + 1; rw [h1], fun x hx => ?_⟩
        rcases List.mem_cons.1 hx with rfl | hx
        · show d.length ≤ n
          rw [code_s_len _ _ hd]
          exact hn g List.mem_cons_self
        · exact h2 x hx
    · cases h
theorem shps_q_size : ∀ (k : Nat) (m : Byt) (x : List Shp × Byt × Byt), shpsQ k m = some x → x.1.length + x.2.2.length ≤ m.length
  | 0, _, _, h => by cases h
  | k + 1, m, x, h => by
    have h : (if (wordP m).1 = shapeQW then (match shpQ (wordP m).2 with | some (p, m1) => (shpsQ k m1).map fun x => (p :: x.1, x.2) | none => none) else some ([], wordP m)) = some x := h
    have hw := word_both m
    split at h
    · rename_i ha
      have hal : (wordP m).1.length = 5 := by rw [ha]; rfl
      split at h
      · rename_i p m1 hp
        have h1 := (shp_q_len hp).1
        cases hr : shpsQ k m1 with
        | none => rw [hr] at h; cases h
        | some y =>
          rw [hr] at h
          cases h
          have := shps_q_size k m1 y hr
          show y.1.length + 1 + y.2.2.length ≤ _
          omega
      · cases h
    · cases h
      show 0 + (wordP m).2.length ≤ _
      omega
theorem table_q_size {m : Byt} {t : Tab} (h : tableQ m = some t) : t.1.length ≤ m.length ∧ t.2.length ≤ m.length ∧ ∀ g ∈ t.2, g.2.2.length ≤ m.length := by
  unfold tableQ at h
  cases hs : shpsQ (m.length + 1) m with
  | none => rw [hs] at h; cases h
  | some x =>
    rw [hs] at h
    have h1 := shps_q_size _ _ _ hs
    obtain ⟨ss, a, r⟩ := x
    have h : finQ ss (glbsQ (ss.map fun s => s.1) (r.length + 1) 0 a r [] []) = some t := h
    have h1 : ss.length + r.length ≤ m.length := h1
    cases hg : glbsQ (ss.map fun s => s.1) (r.length + 1) 0 a r [] [] with
    | none => rw [hg] at h; cases h
    | some y =>
      obtain ⟨q, m', N', F'⟩ := y
      rw [hg] at h
      have h : (if q.2 = [] ∧ m' = [] then (glbsS F' q.1).map fun l => (ss, l) else none) = some t := h
      obtain ⟨h2, h3⟩ := glbs_q_size _ _ _ _ _ _ _ _ _ _ hg
      split at h
      · cases hl : glbsS F' q.1 with
        | none => rw [hl] at h; cases h
        | some l =>
          rw [hl] at h
          cases h
          obtain ⟨h4, h5⟩ := glbs_s_len _ _ hl h3
          exact ⟨by show ss.length ≤ _; omega, by show l.length ≤ _; omega, fun g hg => by have := h5 g hg; omega⟩
      · cases h

/-! The reader that is made. -/
/-- What newTextReader leaves. -/
structure NR (w : World) (l : Byt) (r : Ending) (w' : World) : Prop where
  r : r = .returned (.pointer (some ⟨w.heap.size + 2, 0, none⟩))
  tab : Hid (RTab w' (w.heap.size + 2) w.heap.size (w.heap.size + 1) l (.slice none 0 0) (.slice none 0 0) (.slice none 0 0) [] [] [] [] ([], []))
  bel : Hid (Below w.heap.size w w')
set_option maxRecDepth 10000 in
theorem new_any (w : World) (l : Byt) : Calls Tryz.prog 50 #[.string ⟨l.toArray⟩] w fun r w' => NR w l r w' := by
  have qm : ∀ w : World, (Instr.makeMap 84 none).run Tryz.prog w = .ok (.map (some w.heap.size)) (w.alloc (.map #[] 0)) := fun _ => rfl
  obtain ⟨W1, hW1⟩ : ∃ W1, W1 = w.alloc (.map #[] 0) := ⟨_, rfl⟩
  obtain ⟨W2, hW2⟩ : ∃ W2, W2 = W1.alloc (.map #[] 0) := ⟨_, rfl⟩
  obtain ⟨W3, hW3⟩ : ∃ W3, W3 = W2.alloc (.cells #[.string ⟨l.toArray⟩, .slice none 0 0, .slice none 0 0, .map (some w.heap.size), .map (some (w.heap.size + 1)), .slice none 0 0] 86) := ⟨_, rfl⟩
  have s1 : W1.heap.size = w.heap.size + 1 := by rw [hW1]; exact World.size_alloc _ _
  have s2 : W2.heap.size = w.heap.size + 2 := by rw [hW2, World.size_alloc, s1]
  have b1 : Below w.heap.size w W1 := by rw [hW1]; exact (Below.refl _ _).alloc (Nat.le_refl _) _
  have b2 : Below W1.heap.size W1 W2 := by rw [hW2]; exact (Below.refl _ _).alloc (Nat.le_refl _) _
  have b3 : Below W2.heap.size W2 W3 := by rw [hW3]; exact (Below.refl _ _).alloc (Nat.le_refl _) _
  have m1 : Mv W1 w.heap.size 0 (idxV []) := by rw [hW1]; exact Mv.made w
  have m2 : Mv W2 (w.heap.size + 1) 0 (idxV []) := by rw [hW2, ← s1]; exact Mv.made W1
  have HF : Hid (NR w l (.returned (.pointer (some ⟨w.heap.size + 2, 0, none⟩))) W3) := by
    refine ⟨rfl, ⟨⟨by rw [hW3, ← s2]; exact new_blk _ _, ⟨0, Nat.zero_le _, (m1.on (b2.block _ (by omega))).on (b3.block _ (by omega))⟩, ⟨0, Nat.zero_le _, m2.on (b3.block _ (by omega))⟩, OwnN.nil _ _ _ _ _, ⟨by omega, by omega⟩, rfl⟩, ⟨OwnN.nil _ _ _ _ _, OwnN.nil _ _ _ _ _, rfl, fun i a => by simp at a, ?_⟩, fun v _ b e => by cases e⟩, b1.trans ((b2.mono (by omega)).trans (b3.mono (by omega)))⟩
    exact List.pairwise_cons.2 ⟨fun v _ b e => (by cases e), List.pairwise_cons.2 ⟨fun v hv => (by cases hv), List.Pairwise.nil⟩⟩
  obtain ⟨F, hF⟩ : ∃ F : Ending → World → Prop, F = fun r w' => NR w l r w' := ⟨_, rfl⟩
  rw [← hF]
  have HF2 : Hid (F (.returned (.pointer (some ⟨w.heap.size + 2, 0, none⟩))) W3) := by show F _ _; rw [hF]; exact HF.out
  have e1 : (w.alloc (.map #[] 0)).heap.size = w.heap.size + 1 := by rw [← hW1]; exact s1
  have e2 : ((w.alloc (.map #[] 0)).alloc (.map #[] 0)).heap.size = w.heap.size + 2 := by rw [← hW1, ← hW2]; exact s2
  rw [hW3, hW2, hW1] at HF2
  clear hW1 hW2 hW3 s1 s2 b1 b2 b3 m1 m2 HF hF
  go_enter Tryz.func50, Tryz.ntmps50
  go_wp2
  first | exact HF2.out | (rw [e2]; exact HF2.out) | (rw [e1, e2]; exact HF2.out)
set_option maxRecDepth 10000 in
theorem read_caught {A B : Nat} (c : Int) {x y z : Value} (older : List PanicEntry) (w : World) (x0 : w.cell? ⟨A, 0, none⟩ = some x) (x1 : w.cell? ⟨A, 1, none⟩ = some y) (x2 : w.cell? ⟨B, 0, none⟩ = some z) (f0 : w.frozen? ⟨A, 0, none⟩ = false) (f1 : w.frozen? ⟨A, 1, none⟩ = false) (f2 : w.frozen? ⟨B, 0, none⟩ = false) (hAB : A ≠ B) :
    CallsD Tryz.prog 48 #[.pointer (some ⟨A, 0, none⟩), .pointer (some ⟨B, 0, none⟩)] (.panicking ({ v := .iface 28 (.int .i64 c), recovered := false } :: older)) w fun e u' w' =>
      e = .returned (.tuple #[]) ∧ u' = .panicking ({ v := .iface 28 (.int .i64 c), recovered := true } :: older) ∧ w' = ((w.setCell ⟨A, 0, none⟩ (.slice none 0 0)).setCell ⟨A, 1, none⟩ (.slice none 0 0)).setCell ⟨B, 0, none⟩ (.int .i64 c) := by
  have CG := given_any c w
  have hBA : B ≠ A := fun e => hAB e.symm
  refine callsD_of_wpS Tryz.func48 rfl fun c₀ cs hu => ?_
  apply wpS_seq
  apply wpS_region
  simp [wpOpsS, go_sem, recoverD, hu, Tryz.ntmps48, Exit.thenS]
  refine wpS_of_wp ?_
  go_wp2_with (go_at_call 49; (with_reducible refine Calls.mono CG ?_); rintro e2 w2 ⟨rfl, hw⟩; obtain rfl := hw.symm; clear hw)
  exact ⟨rfl, _, rfl, _, by simp [results, Tryz.results48, go_sem], rfl, rfl, rfl⟩
set_option maxRecDepth 10000 in
theorem read_idle (p q : Value) (w : World) :
    CallsD Tryz.prog 48 #[p, q] .returning w fun e u' w' => e = .returned (.tuple #[]) ∧ u' = .returning ∧ w' = w := by
  refine callsD_of_wpS Tryz.func48 rfl fun c₀ cs hu => ?_
  apply wpS_seq
  apply wpS_region
  simp [wpOpsS, go_sem, recoverD, hu, Tryz.ntmps48, Exit.thenS]
  refine wpS_of_wp ?_
  go_wp2
  cases c₀
  simp_all [bodyPostS, results, Tryz.results48]
theorem res19 {w wr : World} {a b c : Value} (h : LW w wr a b c) {tm : Array Value} (h2 : tm[2]? = some (.pointer (some ⟨w.heap.size, 0, none⟩))) (h3 : tm[3]? = some (.pointer (some ⟨w.heap.size + 1, 0, none⟩))) : (results Tryz.f19 tm).run Tryz.prog wr = .ok (.tuple #[.agg #[a, b], c]) wr := by
  obtain ⟨⟨x0, x1, x2⟩, _⟩ := h.facts
  simp [results, Tryz.f19, go_sem, h2, h3, x0, x1, x2]
/-- What Read answers. -/
structure RdP (b : Byt) (w : World) (r : Ending) (w' : World) : Prop where
  long : 8388608 < b.length → r = .returned (.tuple #[nilT, .int .i64 2])
  bad : ¬ 8388608 < b.length → tableQ b = none → r = .returned (.tuple #[nilT, .int .i64 170])
  big : ¬ 8388608 < b.length → ∀ t, tableQ b = some t → bigP t = true → r = .returned (.tuple #[nilT, .int .i64 4])
  good : ¬ 8388608 < b.length → ∀ t, tableQ b = some t → bigP t = false → ∃ sv gv raws Bt, r = .returned (.tuple #[.agg #[sv, gv], .int .i64 0]) ∧ w.heap.size ≤ Bt ∧ Hid (TabR w' Bt sv gv raws t)
  bel : Below w.heap.size w w'
set_option maxHeartbeats 16000000 in
set_option maxRecDepth 10000 in
theorem read_any {w : World} {b : Byt} (h : RdS w) (hbl : b.length < 140737488355328) : Calls Tryz.prog 19 #[.string ⟨b.toArray⟩] w fun r w' => RdP b w r w' := by
  obtain ⟨W, hW⟩ : ∃ W, W = (w.alloc (.cells #[.slice none 0 0, .slice none 0 0] 25)).alloc (.cells #[.int .i64 0] 28) := ⟨_, rfl⟩
  have HL : Hid (LW w W (.slice none 0 0) (.slice none 0 0) (.int .i64 0)) := by rw [hW]; exact lw_start w
  have HWS : Hid (W.heap.size = w.heap.size + 2) := by show _ = _; rw [hW]; simp [World.size_alloc]
  obtain ⟨A, hA⟩ : ∃ A, A = w.heap.size := ⟨_, rfl⟩
  obtain ⟨B, hB⟩ : ∃ B, B = w.heap.size + 1 := ⟨_, rfl⟩
  have HAE : Hid (A = w.heap.size) := hA
  have HBE : Hid (B = w.heap.size + 1) := hB
  have hAB : A ≠ B := by omega
  have hBA : B ≠ A := by omega
  have hmf : ∀ (fn : Fn) (first cap : Array Value) (w : World), (Instr.makeFunc fn first cap).run Tryz.prog w = .ok (.func fn first cap) w := fun _ _ _ _ => rfl
  have HSW : Hid (∀ w', Below W.heap.size W w' → RdS w') := fun w' hb => (h.below HL.out.bel).below hb
  obtain ⟨F, hF⟩ : ∃ F : Ending → World → Prop, F = fun r w' => RdP b w r w' := ⟨_, rfl⟩
  rw [← hF]
  obtain ⟨S, hS⟩ : ∃ S : ByteArray, S = ⟨b.toArray⟩ := ⟨_, rfl⟩
  have hsz : S.size = b.length := by rw [hS]; show b.toArray.size = _; simp
  by_cases hlong : 8388608 < b.length
  · have e1 : ((S.size : Int) > 8388608) := by omega
    obtain ⟨⟨x0, x1, x2⟩, f0, f1, f2⟩ := HL.out.facts
    rw [← hB] at x2 f2
    rw [← hA] at x0 x1 f0 f1
    have HFE : Hid (∀ r w', LW w w' (.slice none 0 0) (.slice none 0 0) (.int .i64 2) → r = .returned (.tuple #[nilT, .int .i64 2]) → F r w') := fun r w' h1 h2 => by rw [hF]; exact ⟨fun _ => h2, fun h => absurd hlong h, fun h => absurd hlong h, fun h => absurd hlong h, h1.bel⟩
    rw [← hS]
    clear hF hA hB hS h
    go_enter_defers Tryz.func19, Tryz.ntmps19
    go_upto_region 1 with fail
    rw [← hW, ← HBE.out, ← HAE.out]
    clear hW
    go_wp2
    have HZ := (HL.out.setA (.slice none 0 0) (.slice none 0 0)).setB (.int .i64 2)
    rw [← HBE.out, ← HAE.out] at HZ
    exact ⟨_, res19 HZ (by rw [HAE.out]; rfl) (by rw [HBE.out]; rfl), HFE.out _ _ HZ rfl⟩
  · have hl8 : b.length ≤ 8388608 := by omega
    have e1 : ¬ ((S.size : Int) > 8388608) := by omega
    have HBAD : Hid (∀ r w', LW w w' (.slice none 0 0) (.slice none 0 0) (.int .i64 170) → tableQ b = none → r = .returned (.tuple #[nilT, .int .i64 170]) → F r w') := fun r w' h1 h2 h3 => by rw [hF]; exact ⟨fun h => absurd h hlong, fun _ _ => h3, fun _ t h => (by rw [h2] at h; cases h), fun _ t h => (by rw [h2] at h; cases h), h1.bel⟩
    have HBIG : Hid (∀ r w' t, LW w w' (.slice none 0 0) (.slice none 0 0) (.int .i64 4) → tableQ b = some t → bigP t = true → r = .returned (.tuple #[nilT, .int .i64 4]) → F r w') := fun r w' t h1 h2 h3 h4 => by rw [hF]; exact ⟨fun h => absurd h hlong, fun _ h => (by rw [h2] at h; cases h), fun _ _ _ _ => h4, fun _ t' h hb => (by rw [h2] at h; cases h; rw [h3] at hb; cases hb), h1.bel⟩
    have HGOOD : Hid (∀ r w' sv gv raws t Bt, w.heap.size ≤ Bt → LW w w' sv gv (.int .i64 0) → tableQ b = some t → bigP t = false → r = .returned (.tuple #[.agg #[sv, gv], .int .i64 0]) → TabR w' Bt sv gv raws t → F r w') := fun r w' sv gv raws t Bt h0 h1 h2 h3 h4 h5 => by rw [hF]; exact ⟨fun h => absurd h hlong, fun _ h => (by rw [h2] at h; cases h), fun _ t' h hb => (by rw [h2] at h; cases h; rw [h3] at hb; cases hb), fun _ t' h _ => (by rw [h2] at h; cases h; exact ⟨sv, gv, raws, Bt, h4, h0, h5⟩), h1.bel⟩
    have CN := new_any W b
    rw [← hS] at CN
    have HCAUGHT : Hid (∀ wr, LW w wr (.slice none 0 0) (.slice none 0 0) (.int .i64 0) → CallsD Tryz.prog 48 #[.pointer (some ⟨A, 0, none⟩), .pointer (some ⟨B, 0, none⟩)] (.panicking [{ v := .iface 28 (.int .i64 170), recovered := false }]) wr fun e u' w' => e = .returned (.tuple #[]) ∧ u' = .panicking [{ v := .iface 28 (.int .i64 170), recovered := true }] ∧ LW w w' (.slice none 0 0) (.slice none 0 0) (.int .i64 170)) := fun wr hw => by
      obtain ⟨⟨x0, x1, x2⟩, f0, f1, f2⟩ := hw.facts
      rw [← hB] at x2 f2
      rw [← hA] at x0 x1 f0 f1
      refine (read_caught 170 [] wr x0 x1 x2 f0 f1 f2 hAB).mono ?_
      rintro e u' w' ⟨h1, h2, rfl⟩
      refine ⟨h1, h2, ?_⟩
      have HZ := (hw.setA (.slice none 0 0) (.slice none 0 0)).setB (.int .i64 170)
      rw [← hB, ← hA] at HZ
      exact HZ
    obtain ⟨R, hR⟩ : ∃ R, R = W.heap.size + 2 := ⟨_, rfl⟩
    have HRE : Hid (R = W.heap.size + 2) := hR
    have HCT : Hid (∀ w2, RTab w2 R W.heap.size (W.heap.size + 1) b (.slice none 0 0) (.slice none 0 0) (.slice none 0 0) [] [] [] [] ([], []) → Below W.heap.size W w2 → Calls Tryz.prog 51 #[.pointer (some ⟨R, 0, none⟩)] w2 fun r w' => QT w2 R W.heap.size (W.heap.size + 1) (tableQ b) r w') := fun w2 h1 h2 => qtab_any h1 hl8 fun w' hb => HSW.out w' (h2.trans hb)
    rw [← hS]
    clear hF hA hB hS h
    cases htq : tableQ b with
    | none =>
      rw [htq] at HCT
      replace HCT : Hid (∀ w2, RTab w2 R W.heap.size (W.heap.size + 1) b (.slice none 0 0) (.slice none 0 0) (.slice none 0 0) [] [] [] [] ([], []) → Below W.heap.size W w2 → Calls Tryz.prog 51 #[.pointer (some ⟨R, 0, none⟩)] w2 fun r w' => r = .panicked [{ v := .iface 28 (.int .i64 170), recovered := false }] ∧ Hid (Below W.heap.size w2 w')) := HCT
      clear hR
      go_enter_defers Tryz.func19, Tryz.ntmps19
      go_upto_region 1 with fail
      rw [← hW, ← HBE.out, ← HAE.out]
      clear hW
      go_wp2_with (first | (go_at_call 50; (with_reducible refine Calls.mono CN ?_); rintro e2 w2 ⟨rfl, H2, H2b⟩; rw [← HRE.out] at H2; rw [← HRE.out]; have CT := HCT.out w2 H2.out H2b.out; clear CN) | (go_at_call 51; (with_reducible refine Calls.mono CT ?_); rintro e3 w3 ⟨rfl, H3⟩))
      refine leaves_cons (f := 48) (args := #[.pointer (some ⟨A, 0, none⟩), .pointer (some ⟨B, 0, none⟩)]) (by simp) (by simp [go_sem]) ?_
      refine (HCAUGHT.out _ (HL.out.on ((H2b.out.mono (by have := HWS.out; omega)).trans (H3.out.mono (by have := HWS.out; omega))))).mono ?_
      rintro e9 u9 w9 ⟨rfl, rfl, hw⟩
      exact ⟨_, res19 hw (by rw [HAE.out]; rfl) (by rw [HBE.out]; rfl), HBAD.out _ _ hw htq rfl⟩
    | some t =>
      have HSZ : Hid (t.1.length ≤ 8388608 ∧ t.2.length ≤ 8388608 ∧ ∀ g ∈ t.2, g.2.2.length ≤ 8388608) := by
        obtain ⟨z1, z2, z3⟩ := table_q_size htq
        exact ⟨by omega, by omega, fun g hg => by have := z3 g hg; omega⟩
      have HTQ : Hid (tableQ b = some t) := htq
      rw [htq] at HCT
      replace HCT : Hid (∀ w2, RTab w2 R W.heap.size (W.heap.size + 1) b (.slice none 0 0) (.slice none 0 0) (.slice none 0 0) [] [] [] [] ([], []) → Below W.heap.size W w2 → Calls Tryz.prog 51 #[.pointer (some ⟨R, 0, none⟩)] w2 fun r w' => ∃ m sv gv fv SA N F raws, r = .returned (.tuple #[]) ∧ Hid (RTab w' R W.heap.size (W.heap.size + 1) m sv gv fv SA N F raws t ∧ Below W.heap.size w2 w')) := HCT
      clear hR htq
      go_enter_defers Tryz.func19, Tryz.ntmps19
      go_upto_region 1 with fail
      rw [← hW, ← HBE.out, ← HAE.out]
      clear hW
      go_upto_region 6 with (first | (go_at_call 50; (with_reducible refine Calls.mono CN ?_); rintro e2 w2 ⟨rfl, H2, H2b⟩; rw [← HRE.out] at H2; rw [← HRE.out]; have CT := HCT.out w2 H2.out H2b.out; clear CN) | (go_at_call 51; (with_reducible refine Calls.mono CT ?_); rintro e3 w3 ⟨m3, sv, gv, fv, SA, N, F3, raws, rfl, H3⟩))
      obtain ⟨sa, sc, rfl⟩ := H3.out.1.tab.shp.len
      obtain ⟨ga, gc, rfl⟩ := H3.out.1.tab.glb.len
      have p1 : w3.cell? ⟨R, 1, none⟩ = some (.slice sa t.1.length sc) := heap_cl H3.out.1.rl.tb rfl
      have p2 : w3.cell? ⟨R, 2, none⟩ = some (.slice ga raws.length gc) := heap_cl H3.out.1.rl.tb rfl
      have CB := isBig_any (w := w3) (fun b hb => hb) (H3.out.1.tab.tabV (by have := HSZ.out; omega) (by have := HSZ.out; omega) fun g hg => by have := HSZ.out.2.2 g hg; omega)
      have HL3 : Hid (LW w w3 (.slice none 0 0) (.slice none 0 0) (.int .i64 0)) := HL.out.on ((H2b.out.mono (by have := HWS.out; omega)).trans (H3.out.2.mono (by have := HWS.out; omega)))
      clear CT HCT
      cases hbig : bigP t with
      | true =>
        rw [hbig] at CB
        have HBG : Hid (bigP t = true) := hbig
        clear hbig
        go_wp2_with (go_at_call 27; (with_reducible refine Calls.mono CB ?_); rintro e5 w5 ⟨rfl, H5⟩; have HL5 : Hid (LW w w5 (.slice none 0 0) (.slice none 0 0) (.int .i64 0)) := HL3.out.on (H5.out.mono HL3.out.size); obtain ⟨⟨x0, x1, x2⟩, f0, f1, f2⟩ := HL5.out.facts; rw [← HBE.out] at x2 f2; rw [← HAE.out] at x0 x1 f0 f1)
        have HZ := (HL5.out.setA (.slice none 0 0) (.slice none 0 0)).setB (.int .i64 4)
        rw [← HBE.out, ← HAE.out] at HZ
        refine leaves_cons (f := 48) (args := #[.pointer (some ⟨A, 0, none⟩), .pointer (some ⟨B, 0, none⟩)]) (by simp) (by simp [go_sem]) ?_
        refine (read_idle _ _ _).mono ?_
        rintro e9 u9 w9 ⟨rfl, rfl, rfl⟩
        exact ⟨_, res19 HZ (by rw [HAE.out]; rfl) (by rw [HBE.out]; rfl), HBIG.out _ _ _ HZ HTQ.out HBG.out rfl⟩
      | false =>
        rw [hbig] at CB
        have HBG : Hid (bigP t = false) := hbig
        clear hbig
        go_wp2_with (go_at_call 27; (with_reducible refine Calls.mono CB ?_); rintro e5 w5 ⟨rfl, H5⟩; have HL5 : Hid (LW w w5 (.slice none 0 0) (.slice none 0 0) (.int .i64 0)) := HL3.out.on (H5.out.mono HL3.out.size); obtain ⟨⟨x0, x1, x2⟩, f0, f1, f2⟩ := HL5.out.facts; rw [← HBE.out] at x2 f2; rw [← HAE.out] at x0 x1 f0 f1; have hR5 := (H5.out.block R (lt_heap H3.out.1.rl.tb)).trans H3.out.1.rl.tb; have p1 : w5.cell? ⟨R, 1, none⟩ = some (.slice sa t.1.length sc) := heap_cl hR5 rfl; have p2 : w5.cell? ⟨R, 2, none⟩ = some (.slice ga raws.length gc) := heap_cl hR5 rfl; clear hR5)
        have HZ := (HL5.out.setA (.slice sa t.1.length sc) (.slice ga raws.length gc)).setB (.int .i64 0)
        rw [← HBE.out, ← HAE.out] at HZ
        have HT5 : TabR (((w5.setCell ⟨A, 0, none⟩ (.slice sa t.1.length sc)).setCell ⟨A, 1, none⟩ (.slice ga raws.length gc)).setCell ⟨B, 0, none⟩ (.int .i64 0)) (R + 1) (.slice sa t.1.length sc) (.slice ga raws.length gc) raws t := (H3.out.1.tab.keep (fun y _ hy => H5.out.block y hy) H5.out.size).keep (fun y hy _ => by
          have := HBE.out
          have := HAE.out
          have := HRE.out
          have := HWS.out
          rw [Below.heap_setCell _ _ _ _ (show y ≠ B by omega), Below.heap_setCell _ _ _ _ (show y ≠ A by omega), Below.heap_setCell _ _ _ _ (show y ≠ A by omega)]) (by rw [World.size_setCell, World.size_setCell, World.size_setCell]; exact Nat.le_refl _)
        refine leaves_cons (f := 48) (args := #[.pointer (some ⟨A, 0, none⟩), .pointer (some ⟨B, 0, none⟩)]) (by simp) (by simp [go_sem]) ?_
        refine (read_idle _ _ _).mono ?_
        rintro e9 u9 w9 ⟨rfl, rfl, rfl⟩
        exact ⟨_, res19 HZ (by rw [HAE.out]; rfl) (by rw [HBE.out]; rfl), HGOOD.out _ _ _ _ _ _ (R + 1) (by have := HRE.out; have := HWS.out; omega) HZ HTQ.out HBG.out rfl HT5⟩
end Go.Proofs.YtlpnegnpejpdkaaGreatDoor
