/- textReader: a number of an instruction. textReader: an instruction's numbers are read into it. -/
import Derived.Test.YtlpnegnpejpdkaaGreatDoorMlx
import Derived.Test.YtlpnegnpejpdkaaGreatDoorMkx
import Derived.Test.YtlpnegnpejpdkaaGreatDoorMix
namespace Go.Proofs.YtlpnegnpejpdkaaGreatDoor
open Go.RowKit

/-- What is read of an instruction's number of one kind. -/
def numQ (SA : List Byt) (kind : Nat) (l : Byt) (N : List Byt) (F : List Int) : Option (Int × Byt × List Byt × List Int) :=
  if kind = 4 then (match nameQ l with | some (s, m) => (match posP SA s with | some i => some ((i : Int), m, N, F) | none => none) | none => none)
  else if kind = 5 then (match nameQ l with | some (s, m) => some (((nameNum N F s).1 : Int), m, (nameNum N F s).2.1, (nameNum N F s).2.2) | none => none)
  else if kind = 6 then (if oprOfP (wordP l).1 = 0 then none else some ((oprOfP (wordP l).1 : Int), (wordP l).2, N, F))
  else (match numP' l with | some (n, m) => some (n, m, N, F) | none => none)
/-- What a reader's call leaves that answers a number and may number names. -/
def QX (w : World) (R mA mB : Nat) (sv gv : Value) (SA : List Byt) (fv : Value) (x : Option (Int × Byt × List Byt × List Int)) (r : Ending) (w' : World) : Prop := match x with
  | some (n, m, N, F) => ∃ fv', r = .returned (.int .i64 n) ∧ Hid (RL w' R mA mB m sv gv SA N fv' F ∧ LO w R mB fv w' fv')
  | none => r = thrown 170 ∧ Hid (Below mB w w')
/-- What reading asks of memory. -/
structure RdS (w : World) : Prop where
  num : NumIn w
  rows : ∃ rd rcap, RowsAt w rd rcap
  ops : ∃ od ocap, OpsAt w od ocap
theorem RdS.below {w w' : World} (h : RdS w) (hb : Below w.heap.size w w') : RdS w' := by
  obtain ⟨h1, ⟨rd, rcap, h2⟩, ⟨od, ocap, h3⟩⟩ := h
  exact ⟨h1.below hb, ⟨rd, rcap, h2.below hb⟩, ⟨od, ocap, h3.below hb⟩⟩
theorem RL.grown {w w' : World} {R mA mB : Nat} {l : Byt} {sv gv : Value} {SA N : List Byt} {fv : Value} {F : List Int} (h : RL w R mA mB l sv gv SA N fv F) (hb : Below w.heap.size w w') : RL w' R mA mB l sv gv SA N fv F ∧ LO w R mB fv w' fv := by
  obtain ⟨na, hna, ha⟩ := h.a
  obtain ⟨nb, hnb, hm⟩ := h.b
  have hRs := lt_heap h.tb
  obtain ⟨l1, l2⟩ := h.lt
  have hk : ∀ y, y < w.heap.size → w'.heap[y]? = w.heap[y]? := fun y hy => hb.block y hy
  exact ⟨⟨(hk R hRs).trans h.tb, ⟨na, hna, ha.on (hk _ ha.lt)⟩, ⟨nb, hnb, hm.on (hk _ hm.lt)⟩, h.f.keep (fun y _ hy => hk y hy) hb.size, ⟨l1, l2⟩, h.len⟩, ⟨.inl rfl, hb.mono (by omega), hb.size, fun y hy _ _ _ => hk y hy⟩⟩
theorem name_q_len {l s m : Byt} (h : nameQ l = some (s, m)) : s.length ≤ 4096 := by
  unfold nameQ at h
  split at h
  · split at h
    · split at h
      · split at h
        · rename_i hn
          cases h
          exact (name_len hn).2
        · cases h
      · cases h
    · cases h
  · cases h
set_option maxHeartbeats 16000000 in
set_option maxRecDepth 10000 in
theorem qarg_any {w : World} {R mA mB : Nat} {l : Byt} {sv gv : Value} {SA N : List Byt} {fv : Value} {F : List Int} (h : RL w R mA mB l sv gv SA N fv F) (hl : l.length ≤ 8388608) (hNn : N.length < 90000000) (hS : ∀ w', Below mB w w' → RdS w') (kind : Nat) :
    Calls Tryz.prog 117 #[.pointer (some ⟨R, 0, none⟩), .int .i64 (kind : Int)] w fun r w' => QX w R mA mB sv gv SA fv (numQ SA kind l N F) r w' := by
  obtain ⟨l1, l2⟩ := h.lt
  have CG := fun W => giveUp_any 170 W
  unfold thrown at CG
  have H : Hid (RL w R mA mB l sv gv SA N fv F) := h
  obtain ⟨FF, hF⟩ : ∃ FF : Ending → World → Prop, FF = fun r w' => QX w R mA mB sv gv SA fv (numQ SA kind l N F) r w' := ⟨_, rfl⟩
  rw [← hF]
  have HFN : Hid (∀ w', numQ SA kind l N F = none → Below mB w w' → FF (thrown 170) w') := fun w' h1 h2 => by rw [hF]; show QX _ _ _ _ _ _ _ _ _ _ _; rw [h1]; exact ⟨rfl, h2⟩
  have HFS : Hid (∀ w' n m N' F' fv', numQ SA kind l N F = some (n, m, N', F') → RL w' R mA mB m sv gv SA N' fv' F' → LO w R mB fv w' fv' → FF (.returned (.int .i64 n)) w') := fun w' n m N' F' fv' h1 h2 h3 => by rw [hF]; show QX _ _ _ _ _ _ _ _ _ _ _; rw [h1]; exact ⟨fv', rfl, h2, h3⟩
  have HS : Hid (∀ w', Below mB w w' → RdS w') := hS
  clear hF hS
  by_cases h4 : kind = 4
  · have HE : Hid (numQ SA kind l N F = match nameQ l with | some (s, m) => (match posP SA s with | some i => some ((i : Int), m, N, F) | none => none) | none => none) := if_pos h4
    have CN := qname_any h.tb hl
    subst h4
    go_enter Tryz.func117, Tryz.ntmps117
    go_upto_region 3 with fail
    have hD := h.on_rk (w' := w.drew) (l' := l) h.tb ⟨(Below.refl _ _).drew, fun _ _ _ => rfl⟩
    have CN := qname_any hD.1.tb hl
    obtain ⟨D, hDe⟩ : ∃ D, D = w.drew := ⟨_, rfl⟩
    rw [← hDe] at hD CN
    have HD : Hid (RL D R mA mB l sv gv SA N fv F ∧ LO w R mB fv D fv) := hD
    have hS0 : (fun w' : World => w'.cell? ⟨R, 3, none⟩ = some (.map (some mA))) D := heap_cl hD.1.tb rfl
    refine wp_region_M (S := (fun w' : World => w'.cell? ⟨R, 3, none⟩ = some (.map (some mA)))) (L := 100) (n := 12) (by kernel_rfl) rfl (by kernel_rfl) ?_
    rw [← hDe]
    clear hDe hD h
    refine wpAnyK_go (i := 0) (m' := 1) (some 12) (v := .pointer (some ⟨R, 0, none⟩)) rfl rfl (by kernel_rfl) (by kernel_rfl) (by kernel_rfl) (by kernel_rfl) (by kernel_rfl) (fun _ _ _ h => h) (Or.inl ⟨by rfl, ?_⟩) hS0 ?_
    · intro w' hSw
      go_simp
    try simp only [Act.put, List.setIfInBounds_toArray, List.set_cons_zero, List.set_cons_succ]
    refine wpAnyK_go (i := 1) (m' := 3) (some 13) (v := .pointer (some ⟨R, 0, none⟩)) rfl rfl (by kernel_rfl) (by kernel_rfl) (by kernel_rfl) (by kernel_rfl) (by kernel_rfl) (fun _ _ _ h => h) (Or.inl ⟨by rfl, ?_⟩) hS0 ?_
    · intro w' hSw
      go_simp
    try simp only [Act.put, List.setIfInBounds_toArray, List.set_cons_zero, List.set_cons_succ]
    refine wpAnyK_go (i := 2) (m' := 7) (some 14) (v := .pointer (some ⟨R, 3, none⟩)) rfl rfl (by kernel_rfl) (by kernel_rfl) (by kernel_rfl) (by kernel_rfl) (by kernel_rfl) (fun _ _ _ h => h) (Or.inl ⟨by rfl, ?_⟩) hS0 ?_
    · intro w' hSw
      go_simp
    try simp only [Act.put, List.setIfInBounds_toArray, List.set_cons_zero, List.set_cons_succ]
    refine wpAnyK_go (i := 3) (m' := 15) (some 15) (v := .map (some mA)) rfl rfl (by kernel_rfl) (by kernel_rfl) (by kernel_rfl) (by kernel_rfl) (by kernel_rfl) (fun _ _ _ h => h) (Or.inl ⟨by rfl, ?_⟩) hS0 ?_
    · intro w' hSw
      have p0 := hSw
      go_simp
    try simp only [Act.put, List.setIfInBounds_toArray, List.set_cons_zero, List.set_cons_succ]
    refine wpAnyK_go (i := 4) (m' := 31) (some 16) (v := .pointer (some ⟨R, 0, none⟩)) rfl rfl (by kernel_rfl) (by kernel_rfl) (by kernel_rfl) (by kernel_rfl) (by kernel_rfl) (fun _ _ _ h => h) (Or.inl ⟨by rfl, ?_⟩) hS0 ?_
    · intro w' hSw
      go_simp
    try simp only [Act.put, List.setIfInBounds_toArray, List.set_cons_zero, List.set_cons_succ]
    refine wpAnyK_only (i := 5) (m' := 63) (by kernel_rfl) rfl (by kernel_rfl) fun K hK => ?_
    go_simp
    cases hnm : nameQ l with
    | none =>
      rw [hnm] at CN
      replace CN : Calls Tryz.prog 112 #[.pointer (some ⟨R, 0, none⟩)] D fun r w' => r = .panicked [{ v := .iface 28 (.int .i64 170), recovered := false }] ∧ Hid (Rk D R w') := CN
      (with_reducible refine Calls.mono CN ?_)
      rintro e2 w2 ⟨rfl, H2⟩
      go_simp
      show bodyPost Tryz.prog Tryz.f117 FF (.panic [{ v := .iface 28 (.int .i64 170), recovered := false }]) _ w2
      exact ⟨rfl, HFN.out _ (by rw [HE.out, hnm]) (HD.out.2.bel.trans (H2.out.1.mono (by omega)))⟩
    | some p =>
      obtain ⟨s, m⟩ := p
      rw [hnm] at CN
      replace CN : Calls Tryz.prog 112 #[.pointer (some ⟨R, 0, none⟩)] D fun r w' => r = .returned (.string ⟨s.toArray⟩) ∧ Hid (TB w' R m sv gv (.map (some mA)) (.map (some mB)) fv ∧ Rk D R w') := CN
      have hsl := name_q_len hnm
      (with_reducible refine Calls.mono CN ?_)
      rintro e2 w2 ⟨rfl, H2⟩
      go_simp
      have h2 := HD.out.1.on_rk H2.out.1 H2.out.2
      have H3 : Hid (RL w2 R mA mB m sv gv SA N fv F ∧ LO w R mB fv w2 fv) := ⟨h2.1, HD.out.2.trans h2.2⟩
      have hS2 : (fun w' : World => w'.cell? ⟨R, 3, none⟩ = some (.map (some mA))) w2 := heap_cl h2.1.tb rfl
      obtain ⟨na, _, hma⟩ := h2.1.a
      have hlk := hma.look84 s (by omega)
      refine hK.out _ _ (fun _ => hS2) ?_
      clear hK K CN hS0 H2 hma h2
      try simp only [Act.put, List.setIfInBounds_toArray, List.set_cons_zero, List.set_cons_succ]
      refine wpAnyK_only (i := 6) (m' := 127) (by kernel_rfl) rfl (by kernel_rfl) fun K hK => ?_
      go_simp
      refine hK.out _ _ (fun _ => hS2) ?_
      clear hK K
      try simp only [Act.put, List.setIfInBounds_toArray, List.set_cons_zero, List.set_cons_succ]
      cases hps : posP SA s with
      | none =>
        have hE : idxV SA s = none := by unfold idxV; rw [hps]; rfl
        rw [hE]
        simp only [Option.getD_none, Option.isSome_none]
        clear hlk hE
        refine wpAnyK_go (i := 7) (m' := 255) (some 11) (v := .tuple #[.int .i64 0, .bool false]) rfl rfl (by kernel_rfl) (by kernel_rfl) (by kernel_rfl) (by kernel_rfl) (by kernel_rfl) (fun _ _ _ h => h) (Or.inl ⟨by rfl, ?_⟩) hS2 ?_
        · intro w' hSw
          go_simp
        try simp only [Act.put, List.setIfInBounds_toArray, List.set_cons_zero, List.set_cons_succ]
        refine wpAnyK_go (i := 8) (m' := 511) (some 19) (v := .int .i64 0) rfl rfl (by kernel_rfl) (by kernel_rfl) (by kernel_rfl) (by kernel_rfl) (by kernel_rfl) (fun _ _ _ h => h) (Or.inl ⟨by rfl, ?_⟩) hS2 ?_
        · intro w' hSw
          go_simp
        try simp only [Act.put, List.setIfInBounds_toArray, List.set_cons_zero, List.set_cons_succ]
        refine wpAnyK_go (i := 9) (m' := 1023) (some 20) (v := .bool false) rfl rfl (by kernel_rfl) (by kernel_rfl) (by kernel_rfl) (by kernel_rfl) (by kernel_rfl) (fun _ _ _ h => h) (Or.inl ⟨by rfl, ?_⟩) hS2 ?_
        · intro w' hSw
          go_simp
        try simp only [Act.put, List.setIfInBounds_toArray, List.set_cons_zero, List.set_cons_succ]
        refine wpAnyK_go (i := 10) (m' := 2047) (some 5) (v := .int .i64 0) rfl rfl (by kernel_rfl) (by kernel_rfl) (by kernel_rfl) (by kernel_rfl) (by kernel_rfl) (fun _ _ _ h => h) (Or.inl ⟨by rfl, ?_⟩) hS2 ?_
        · intro w' hSw
          go_simp
        try simp only [Act.put, List.setIfInBounds_toArray, List.set_cons_zero, List.set_cons_succ]
        refine wpAnyK_go (i := 11) (m' := 4095) (some 6) (v := .bool false) rfl rfl (by kernel_rfl) (by kernel_rfl) (by kernel_rfl) (by kernel_rfl) (by kernel_rfl) (fun _ _ _ h => h) (Or.inl ⟨by rfl, ?_⟩) hS2 ?_
        · intro w' hSw
          go_simp
        try simp only [Act.put, List.setIfInBounds_toArray, List.set_cons_zero, List.set_cons_succ]
        refine wpAnyK_done (by kernel_rfl) ?_ _
        go_wp2_with (go_at_call 90; (with_reducible refine Calls.mono (CG _) ?_); rintro e7 w7 ⟨rfl, hw⟩; obtain rfl := hw.symm; clear hw)
        refine ⟨rfl, HFN.out _ (by rw [HE.out, hnm]; show (match posP SA s with | some i => some ((i : Int), m, N, F) | none => none) = none; rw [hps]) H3.out.2.bel⟩
      | some i =>
        have hE : idxV SA s = some (.int .i64 (i : Nat)) := by unfold idxV; rw [hps]; rfl
        rw [hE]
        simp only [Option.getD_some, Option.isSome_some]
        clear hlk hE
        refine wpAnyK_go (i := 7) (m' := 255) (some 11) (v := .tuple #[.int .i64 (i : Nat), .bool true]) rfl rfl (by kernel_rfl) (by kernel_rfl) (by kernel_rfl) (by kernel_rfl) (by kernel_rfl) (fun _ _ _ h => h) (Or.inl ⟨by rfl, ?_⟩) hS2 ?_
        · intro w' hSw
          go_simp
        try simp only [Act.put, List.setIfInBounds_toArray, List.set_cons_zero, List.set_cons_succ]
        refine wpAnyK_go (i := 8) (m' := 511) (some 19) (v := .int .i64 (i : Nat)) rfl rfl (by kernel_rfl) (by kernel_rfl) (by kernel_rfl) (by kernel_rfl) (by kernel_rfl) (fun _ _ _ h => h) (Or.inl ⟨by rfl, ?_⟩) hS2 ?_
        · intro w' hSw
          go_simp
        try simp only [Act.put, List.setIfInBounds_toArray, List.set_cons_zero, List.set_cons_succ]
        refine wpAnyK_go (i := 9) (m' := 1023) (some 20) (v := .bool true) rfl rfl (by kernel_rfl) (by kernel_rfl) (by kernel_rfl) (by kernel_rfl) (by kernel_rfl) (fun _ _ _ h => h) (Or.inl ⟨by rfl, ?_⟩) hS2 ?_
        · intro w' hSw
          go_simp
        try simp only [Act.put, List.setIfInBounds_toArray, List.set_cons_zero, List.set_cons_succ]
        refine wpAnyK_go (i := 10) (m' := 2047) (some 5) (v := .int .i64 (i : Nat)) rfl rfl (by kernel_rfl) (by kernel_rfl) (by kernel_rfl) (by kernel_rfl) (by kernel_rfl) (fun _ _ _ h => h) (Or.inl ⟨by rfl, ?_⟩) hS2 ?_
        · intro w' hSw
          go_simp
        try simp only [Act.put, List.setIfInBounds_toArray, List.set_cons_zero, List.set_cons_succ]
        refine wpAnyK_go (i := 11) (m' := 4095) (some 6) (v := .bool true) rfl rfl (by kernel_rfl) (by kernel_rfl) (by kernel_rfl) (by kernel_rfl) (by kernel_rfl) (fun _ _ _ h => h) (Or.inl ⟨by rfl, ?_⟩) hS2 ?_
        · intro w' hSw
          go_simp
        try simp only [Act.put, List.setIfInBounds_toArray, List.set_cons_zero, List.set_cons_succ]
        refine wpAnyK_done (by kernel_rfl) ?_ _
        go_wp2_with (go_at_call 90; (with_reducible refine Calls.mono (CG _) ?_); rintro e7 w7 ⟨rfl, hw⟩; obtain rfl := hw.symm; clear hw)
        exact HFS.out _ _ _ _ _ fv (by rw [HE.out, hnm]; show (match posP SA s with | some i => some ((i : Int), m, N, F) | none => none) = _; rw [hps]) H3.out.1 H3.out.2
  · by_cases h5 : kind = 5
    · have HE : Hid (numQ SA kind l N F = match nameQ l with | some (s, m) => some (((nameNum N F s).1 : Int), m, (nameNum N F s).2.1, (nameNum N F s).2.2) | none => none) := (if_neg h4).trans (if_pos h5)
      have CN := qname_any h.tb hl
      subst h5
      cases hnm : nameQ l with
      | none =>
        rw [hnm] at CN
        replace CN : Calls Tryz.prog 112 #[.pointer (some ⟨R, 0, none⟩)] w fun r w' => r = .panicked [{ v := .iface 28 (.int .i64 170), recovered := false }] ∧ Hid (Rk w R w') := CN
        have HE2 : Hid (numQ SA 5 l N F = none) := by show _ = _; rw [HE.out, hnm]
        clear HE hnm h h4
        go_enter Tryz.func117, Tryz.ntmps117
        go_wp2_with (go_at_call 112; (with_reducible refine Calls.mono CN ?_); rintro e2 w2 ⟨rfl, H2⟩)
        exact ⟨rfl, HFN.out _ HE2.out (H2.out.1.mono (by omega))⟩
      | some p =>
        obtain ⟨s, m⟩ := p
        rw [hnm] at CN
        replace CN : Calls Tryz.prog 112 #[.pointer (some ⟨R, 0, none⟩)] w fun r w' => r = .returned (.string ⟨s.toArray⟩) ∧ Hid (TB w' R m sv gv (.map (some mA)) (.map (some mB)) fv ∧ Rk w R w') := CN
        have hsl := name_q_len hnm
        have HE2 : Hid (numQ SA 5 l N F = some (((nameNum N F s).1 : Int), m, (nameNum N F s).2.1, (nameNum N F s).2.2)) := by show _ = _; rw [HE.out, hnm]
        clear HE hnm h h4
        go_enter Tryz.func117, Tryz.ntmps117
        go_wp2_with (first | (go_at_call 112; (with_reducible refine Calls.mono CN ?_); rintro e2 w2 ⟨rfl, H2⟩; have h2 := H.out.on_rk H2.out.1 H2.out.2; have CG := nname_any h2.1 s hsl hNn; have H3 : Hid (LO w R mB fv w2 fv) := h2.2; clear h2 H2 CN) | (go_at_call 114; (with_reducible refine Calls.mono CG ?_); rintro e3 w3 ⟨fv3, rfl, H4⟩; clear CG))
        exact HFS.out _ _ _ _ _ fv3 HE2.out H4.out.1 (H3.out.trans H4.out.2)
    · by_cases h6 : kind = 6
      · have HE : Hid (numQ SA kind l N F = if oprOfP (wordP l).1 = 0 then none else some ((oprOfP (wordP l).1 : Int), (wordP l).2, N, F)) := (if_neg h4).trans ((if_neg h5).trans (if_pos h6))
        have CW := word_any h.tb hl
        subst h6
        generalize (wordP l).1 = a at *
        generalize (wordP l).2 = m at *
        clear h h4 h5
        by_cases h0 : oprOfP a = 0
        · have HE2 : Hid (numQ SA 6 l N F = none) := by show _ = _; rw [HE.out, if_pos h0]
          clear HE
          go_enter Tryz.func117, Tryz.ntmps117
          go_wp2_with (first | (go_at_call 87; (with_reducible refine Calls.mono CW ?_); rintro e2 w2 ⟨rfl, H2⟩; have h2 := H.out.on_rk H2.out.1 H2.out.2; obtain ⟨_, _, od, ocap, hod⟩ := HS.out w2 h2.2.bel; have CO := oprOf_any hod a; rw [h0] at CO; have H3 : Hid (RL w2 R mA mB m sv gv SA N fv F ∧ LO w R mB fv w2 fv) := h2; clear h2 H2 CW hod) | (go_at_call 134; (with_reducible refine Calls.mono CO ?_); rintro e3 w3 ⟨rfl, H4⟩; clear CO) | (go_at_call 90; (with_reducible refine Calls.mono (CG _) ?_); rintro e7 w7 ⟨rfl, hw⟩; obtain rfl := hw.symm; clear hw))
          exact ⟨rfl, HFN.out _ HE2.out (H3.out.2.bel.trans (H4.out.mono (Nat.le_trans (Nat.le_of_lt l2) (Nat.le_of_lt (lt_heap H3.out.1.tb)))))⟩
        · have HE2 : Hid (numQ SA 6 l N F = some ((oprOfP a : Int), m, N, F)) := by show _ = _; rw [HE.out, if_neg h0]
          clear HE
          have h0i : ¬ ((oprOfP a : Int) = 0) := by omega
          go_enter Tryz.func117, Tryz.ntmps117
          go_wp2_with (first | (go_at_call 87; (with_reducible refine Calls.mono CW ?_); rintro e2 w2 ⟨rfl, H2⟩; have h2 := H.out.on_rk H2.out.1 H2.out.2; obtain ⟨_, _, od, ocap, hod⟩ := HS.out w2 h2.2.bel; have CO := oprOf_any hod a; have H3 : Hid (RL w2 R mA mB m sv gv SA N fv F ∧ LO w R mB fv w2 fv) := h2; clear h2 H2 CW hod) | (go_at_call 134; (with_reducible refine Calls.mono CO ?_); rintro e3 w3 ⟨rfl, H4⟩; clear CO) | (go_at_call 90; (with_reducible refine Calls.mono (CG _) ?_); rintro e7 w7 ⟨rfl, hw⟩; obtain rfl := hw.symm; clear hw))
          have h4 := H3.out.1.grown H4.out
          exact HFS.out _ _ _ _ _ fv HE2.out h4.1 (H3.out.2.trans h4.2)
      · have HE : Hid (numQ SA kind l N F = match numP' l with | some (n, m) => some (n, m, N, F) | none => none) := (if_neg h4).trans ((if_neg h5).trans (if_neg h6))
        have CN := qnum_any h.tb hl fun w' hb => (HS.out w' (hb.mono (Nat.le_of_lt l2))).num
        have i4 : ¬ ((kind : Int) = 4) := by omega
        have i5 : ¬ ((kind : Int) = 5) := by omega
        have i6 : ¬ ((kind : Int) = 6) := by omega
        clear h
        cases hnm : numP' l with
        | none =>
          rw [hnm] at CN
          replace CN : Calls Tryz.prog 113 #[.pointer (some ⟨R, 0, none⟩)] w fun r w' => r = .panicked [{ v := .iface 28 (.int .i64 170), recovered := false }] ∧ Hid (Rk w R w') := CN
          have HE2 : Hid (numQ SA kind l N F = none) := by show _ = _; rw [HE.out, hnm]
          clear HE hnm h4 h5 h6
          go_enter Tryz.func117, Tryz.ntmps117
          go_wp2_with (go_at_call 113; (with_reducible refine Calls.mono CN ?_); rintro e2 w2 ⟨rfl, H2⟩)
          exact ⟨rfl, HFN.out _ HE2.out (H2.out.1.mono (by omega))⟩
        | some p =>
          obtain ⟨n, m⟩ := p
          rw [hnm] at CN
          replace CN : Calls Tryz.prog 113 #[.pointer (some ⟨R, 0, none⟩)] w fun r w' => r = .returned (.int .i64 n) ∧ Hid (TB w' R m sv gv (.map (some mA)) (.map (some mB)) fv ∧ Rk w R w') := CN
          have HE2 : Hid (numQ SA kind l N F = some (n, m, N, F)) := by show _ = _; rw [HE.out, hnm]
          clear HE hnm h4 h5 h6
          go_enter Tryz.func117, Tryz.ntmps117
          go_wp2_with (go_at_call 113; (with_reducible refine Calls.mono CN ?_); rintro e2 w2 ⟨rfl, H2⟩)
          have h2 := H.out.on_rk H2.out.1 H2.out.2
          exact HFS.out _ _ _ _ _ fv HE2.out h2.1 h2.2
end Go.Proofs.YtlpnegnpejpdkaaGreatDoor

namespace Go.Proofs.YtlpnegnpejpdkaaGreatDoor
open Go.RowKit

theorem OwnN.int_keep {w w' : World} {B : Nat} {v : Value} {l : List Int} (h : OwnN EInt 3 B (fun _ => False) w v l) (hk : ∀ b, v.ownBlock = some b → w'.heap[b]? = w.heap[b]?) : OwnN EInt 3 B (fun _ => False) w' v l := by
  have h1 : Own EInt 3 B w' (fun _ => False) v l := by
    obtain ⟨css, q1, q2⟩ := h.row
    have h2 : Own EInt 3 B w (fun _ => False) v l := ⟨⟨css, ⟨q1.1, fun i a b => q1.2 i a b⟩, q2⟩, fun _ h => h.elim⟩
    exact h2.on (fun _ h => h.elim) hk
  refine ⟨?_, fun y hy e => ?_⟩
  · obtain ⟨css, q1, q2⟩ := h1.row
    exact ⟨css, ⟨q1.1, fun i a b => q1.2 i a b⟩, q2⟩
  · rcases hy with hy | hy
    · exact hy.elim
    · exact hy.2.2 e
/-- A reader whose own blocks are kept. -/
theorem RL.kept {w w' : World} {R mA mB : Nat} {l : Byt} {sv gv : Value} {SA N : List Byt} {fv : Value} {F : List Int} (h : RL w R mA mB l sv gv SA N fv F) (hk : ∀ y, y ≤ R ∨ fv.ownBlock = some y → w'.heap[y]? = w.heap[y]?) : RL w' R mA mB l sv gv SA N fv F := by
  obtain ⟨na, hna, ha⟩ := h.a
  obtain ⟨nb, hnb, hm⟩ := h.b
  obtain ⟨l1, l2⟩ := h.lt
  exact ⟨(hk R (.inl (Nat.le_refl _))).trans h.tb, ⟨na, hna, ha.on (hk _ (.inl (by omega)))⟩, ⟨nb, hnb, hm.on (hk _ (.inl (by omega)))⟩, h.f.int_keep fun b e => hk b (.inr e), ⟨l1, l2⟩, h.len⟩

theorem LO.behind {w W W' : World} {R mB : Nat} {fv0 fv : Value} (hk : LO w R mB fv0 W fv) (hb : Below mB W W') (hs : ∀ y, y < w.heap.size → W'.heap[y]? = W.heap[y]?) : LO w R mB fv0 W' fv :=
  ⟨hk.own, hk.bel.trans hb, Nat.le_trans hk.size hb.size, fun y hy hR hm hO => (hs y hy).trans (hk.kept y hy hR hm hO)⟩
abbrev Qst (α : Type) := Option (α × Byt × List Byt × List Int)
def bindQ {α β : Type} (x : Qst α) (f : α → Byt → List Byt → List Int → Qst β) : Qst β := match x with
  | some (a, m, N, F) => f a m N F
  | none => none
def restQ (SA : List Byt) (op : Int) (l : Byt) (N : List Byt) (F : List Int) : Qst Ins :=
  if kindB op ≠ 0 then bindQ (numQ SA (kindA op) l N F) fun a m N F => bindQ (numQ SA (kindB op) m N F) fun b m N F => some ((op, a, b), m, N, F)
  else if kindA op ≠ 0 then bindQ (numQ SA (kindA op) l N F) fun a m N F => some ((op, a, 0), m, N, F) else some ((op, 0, 0), l, N, F)
theorem quo_len (l : Byt) : ∀ s m : Byt, quoR l = some (s, m) → m.length + 1 ≤ l.length := by
  induction hn : l.length using Nat.strongRecOn generalizing l with
  | _ n ih =>
    intro s m h
    cases l with
    | nil => cases h
    | cons b r =>
      rw [quo_cons] at h
      simp only [List.length_cons] at hn
      split at h
      · cases h; omega
      · split at h
        · cases r with
          | nil => cases h
          | cons c q =>
            simp only [List.length_cons] at hn
            dsimp only at h
            split at h
            · cases hq : quoR q with
              | none => rw [hq] at h; cases h
              | some p =>
                obtain ⟨p1, p2⟩ := p
                rw [hq] at h
                cases h
                have := ih q.length (by omega) q rfl p1 p2 hq
                show p2.length + 1 ≤ n
                omega
            · cases h
        · cases hq : quoR r with
          | none => rw [hq] at h; cases h
          | some p =>
            obtain ⟨p1, p2⟩ := p
            rw [hq] at h
            cases h
            have := ih r.length (by omega) r rfl p1 p2 hq
            show p2.length + 1 ≤ n
            omega
theorem skip_len (l : Byt) : (skipP l).length ≤ l.length := (List.dropWhile_suffix _).length_le
theorem word_lenQ (l : Byt) : (wordP l).2.length ≤ l.length := Nat.le_trans (List.dropWhile_suffix _).length_le (skip_len l)
theorem name_q_left {l s m : Byt} (h : nameQ l = some (s, m)) : m.length + 2 ≤ l.length := by
  have h1 := skip_len l
  unfold nameQ at h
  split at h
  · rename_i b r hs
    rw [hs] at h1
    simp only [List.length_cons] at h1
    split at h
    · split at h
      · rename_i hq
        split at h
        · cases h
          have := quo_len _ _ _ hq
          omega
        · cases h
      · cases h
    · cases h
  · cases h
theorem num_p_len {l m : Byt} {n : Int} (h : numP' l = some (n, m)) : m.length ≤ l.length := by
  unfold numP' at h
  split at h
  · cases h; exact word_lenQ l
  · cases h
theorem name_num_len (N : List Byt) (F : List Int) (x : Byt) : (nameNum N F x).2.1.length ≤ N.length + 1 := by
  unfold nameNum
  split
  · exact Nat.le_succ _
  · simp
/-- What is read is shorter by what is numbered. -/
theorem num_q_len {SA : List Byt} {k : Nat} {l : Byt} {N : List Byt} {F : List Int} {n : Int} {m : Byt} {N' : List Byt} {F' : List Int} (h : numQ SA k l N F = some (n, m, N', F')) : m.length ≤ l.length ∧ N'.length + m.length ≤ N.length + l.length := by
  unfold numQ at h
  split at h
  · split at h
    · rename_i hn
      have := name_q_left hn
      split at h
      · cases h; omega
      · cases h
    · cases h
  · split at h
    · split at h
      · rename_i s m hn
        have h1 := name_q_left hn
        have h2 := name_num_len N F s
        cases h
        omega
      · cases h
    · split at h
      · split at h
        · cases h
        · cases h
          have := word_lenQ l
          omega
      · split at h
        · rename_i hn
          have := num_p_len hn
          cases h
          omega
        · cases h
theorem seek_ok {L : List Byt} {p : Nat → Bool} : ∀ (n i : Nat) (a : Byt), (∀ j, j < i + n → L.getD j [] ≠ [] → p j = true) → seekF L n i a ≠ 0 → p (seekF L n i a) = true
  | 0, _, _, _, h => (h rfl).elim
  | n + 1, i, a, hp, h => by
    unfold seekF at h ⊢
    split
    · rename_i hc
      exact hp i (by omega) (by rw [hc.1]; exact hc.2)
    · rename_i hc
      rw [if_neg hc] at h
      exact seek_ok n (i + 1) a (fun j hj => hp j (by omega)) h
theorem op_of_ok {a : Byt} (h : opOfP a ≠ 0) : isOpP (opOfP a : Nat) = true :=
  seek_ok (p := fun j => isOpP (j : Nat)) 18 0 a (by decide) h
/-- What a reader's call leaves that answers an instruction. -/
def QI (w : World) (R mA mB : Nat) (sv gv : Value) (SA : List Byt) (fv : Value) (x : Qst Ins) (r : Ending) (w' : World) : Prop := match x with
  | some (n, m, N, F) => ∃ fv', r = .returned (.agg #[.int .i64 n.1, .int .i64 n.2.1, .int .i64 n.2.2]) ∧ Hid (RL w' R mA mB m sv gv SA N fv' F ∧ LO w R mB fv w' fv')
  | none => r = thrown 170 ∧ Hid (Below mB w w')
/-- Between instrOf's steps: the result's block and the instruction's. -/
structure JW (w W : World) (R mA mB : Nat) (sv gv : Value) (SA : List Byt) (fv0 : Value) (m : Byt) (N : List Byt) (fv : Value) (F : List Int) (op a b : Int) : Prop where
  x : ∃ u v z, W.heap[w.heap.size]? = some (.cells #[u, v, z] 53 (0, 0))
  y : W.heap[w.heap.size + 1]? = some (.cells #[.int .i64 op, .int .i64 a, .int .i64 b] 53 (0, 0))
  rl : RL W R mA mB m sv gv SA N fv F
  lo : LO w R mB fv0 W fv
  lt : R < w.heap.size
  ne : ∀ y, fv.ownBlock = some y → y ≠ w.heap.size ∧ y ≠ w.heap.size + 1
theorem JW.call {w W W' : World} {R mA mB : Nat} {sv gv : Value} {SA : List Byt} {fv0 : Value} {m m' : Byt} {N N' : List Byt} {fv fv' : Value} {F F' : List Int} {op a b : Int} (h : JW w W R mA mB sv gv SA fv0 m N fv F op a b) (h1 : RL W' R mA mB m' sv gv SA N' fv' F') (h2 : LO W R mB fv W' fv') : JW w W' R mA mB sv gv SA fv0 m' N' fv' F' op a b := by
  obtain ⟨⟨u, v, z, hx⟩, hy, hr, hk, hl, hn⟩ := h
  obtain ⟨l1, l2⟩ := hr.lt
  have sx := lt_heap hx
  have sy := lt_heap hy
  refine ⟨⟨u, v, z, (h2.kept _ sx (by omega) (by omega) fun e => (hn _ e).1 rfl).trans hx⟩, (h2.kept _ sy (by omega) (by omega) fun e => (hn _ e).2 rfl).trans hy, h1, hk.trans h2, hl, fun y e => ?_⟩
  rcases h2.own with e2 | ⟨g, e2, hg⟩
  · exact hn y (e2 ▸ e)
  · rw [e2] at e
    injection e with e
    omega
theorem JW.thrown {w W W' : World} {R mA mB : Nat} {sv gv : Value} {SA : List Byt} {fv0 : Value} {m : Byt} {N : List Byt} {fv : Value} {F : List Int} {op a b : Int} (h : JW w W R mA mB sv gv SA fv0 m N fv F op a b) (h2 : Below mB W W') : Below mB w W' := h.lo.bel.trans h2
theorem JW.turn {w W W' : World} {R mA mB : Nat} {sv gv : Value} {SA : List Byt} {fv0 : Value} {m : Byt} {N : List Byt} {fv : Value} {F : List Int} {op a b a' b' : Int} (h : JW w W R mA mB sv gv SA fv0 m N fv F op a b) (hy : W'.heap[w.heap.size + 1]? = some (.cells #[.int .i64 op, .int .i64 a', .int .i64 b'] 53 (0, 0))) (hb : Below (w.heap.size + 1) W W') (hs : ∀ y, y ≠ w.heap.size + 1 → W'.heap[y]? = W.heap[y]?) : JW w W' R mA mB sv gv SA fv0 m N fv F op a' b' := by
  obtain ⟨⟨u, v, z, hx⟩, _, hr, hk, hl, hn⟩ := h
  obtain ⟨l1, l2⟩ := hr.lt
  refine ⟨⟨u, v, z, (hs _ (by omega)).trans hx⟩, hy, hr.kept (fun y hy => hs y ?_), hk.behind (hb.mono (by omega)) (fun y hy => hs y (by omega)), hl, hn⟩
  rcases hy with hy | hy
  · omega
  · exact (hn y hy).2
theorem JW.setA' {w W : World} {R mA mB Y : Nat} {sv gv : Value} {SA : List Byt} {fv0 : Value} {m : Byt} {N : List Byt} {fv : Value} {F : List Int} {op a b : Int} (h : JW w W R mA mB sv gv SA fv0 m N fv F op a b) (hY : Y = w.heap.size + 1) (a' : Int) : JW w (W.setCell ⟨Y, 1, none⟩ (.int .i64 a')) R mA mB sv gv SA fv0 m N fv F op a' b := by
  subst hY
  exact h.turn ((setCell_block h.y).trans rfl) ((Below.refl (w.heap.size + 1) W).setCell (p := ⟨w.heap.size + 1, _, none⟩) (Nat.le_refl _) _) fun _ hy => Below.heap_setCell _ _ _ _ hy
theorem JW.setB' {w W : World} {R mA mB Y : Nat} {sv gv : Value} {SA : List Byt} {fv0 : Value} {m : Byt} {N : List Byt} {fv : Value} {F : List Int} {op a b : Int} (h : JW w W R mA mB sv gv SA fv0 m N fv F op a b) (hY : Y = w.heap.size + 1) (b' : Int) : JW w (W.setCell ⟨Y, 2, none⟩ (.int .i64 b')) R mA mB sv gv SA fv0 m N fv F op a b' := by
  subst hY
  exact h.turn ((setCell_block h.y).trans rfl) ((Below.refl (w.heap.size + 1) W).setCell (p := ⟨w.heap.size + 1, _, none⟩) (Nat.le_refl _) _) fun _ hy => Below.heap_setCell _ _ _ _ hy
theorem JW.fin {w W : World} {R mA mB : Nat} {sv gv : Value} {SA : List Byt} {fv0 : Value} {m : Byt} {N : List Byt} {fv : Value} {F : List Int} {op a b : Int} (h : JW w W R mA mB sv gv SA fv0 m N fv F op a b) (x y z : Value) :
    RL (((W.setCell ⟨w.heap.size, 0, none⟩ x).setCell ⟨w.heap.size, 1, none⟩ y).setCell ⟨w.heap.size, 2, none⟩ z) R mA mB m sv gv SA N fv F ∧ LO w R mB fv0 (((W.setCell ⟨w.heap.size, 0, none⟩ x).setCell ⟨w.heap.size, 1, none⟩ y).setCell ⟨w.heap.size, 2, none⟩ z) fv := by
  obtain ⟨⟨u, v, q, hx⟩, _, hr, hk, hl, hn⟩ := h
  obtain ⟨l1, l2⟩ := hr.lt
  have hb := (((Below.refl w.heap.size W).setCell (p := ⟨w.heap.size, 0, none⟩) (Nat.le_refl _) x).setCell (p := ⟨w.heap.size, 1, none⟩) (Nat.le_refl _) y).setCell (p := ⟨w.heap.size, 2, none⟩) (Nat.le_refl _) z
  have hs : ∀ g, g ≠ w.heap.size → (((W.setCell ⟨w.heap.size, 0, none⟩ x).setCell ⟨w.heap.size, 1, none⟩ y).setCell ⟨w.heap.size, 2, none⟩ z).heap[g]? = W.heap[g]? := fun g hg => by
    rw [Below.heap_setCell _ _ _ _ hg, Below.heap_setCell _ _ _ _ hg, Below.heap_setCell _ _ _ _ hg]
  refine ⟨hr.kept fun y hy => hs y ?_, hk.behind (hb.mono (by omega)) (fun y hy => hs y (by omega))⟩
  rcases hy with hy | hy
  · omega
  · exact (hn y hy).1
theorem JW.drew {w W : World} {R mA mB : Nat} {sv gv : Value} {SA : List Byt} {fv0 : Value} {m : Byt} {N : List Byt} {fv : Value} {F : List Int} {op a b : Int} (h : JW w W R mA mB sv gv SA fv0 m N fv F op a b) : JW w W.drew R mA mB sv gv SA fv0 m N fv F op a b := by
  obtain ⟨⟨u, v, q, hx⟩, hy, hr, hk, hl, hn⟩ := h
  exact ⟨⟨u, v, q, hx⟩, hy, hr.kept (fun _ _ => rfl), hk.behind ((Below.refl _ _).drew) (fun _ _ => rfl), hl, hn⟩
theorem JW.facts' {w W : World} {R mA mB X Y : Nat} {sv gv : Value} {SA : List Byt} {fv0 : Value} {m : Byt} {N : List Byt} {fv : Value} {F : List Int} {op a b : Int} (h : JW w W R mA mB sv gv SA fv0 m N fv F op a b) (hX : X = w.heap.size) (hY : Y = w.heap.size + 1) : (W.cell? ⟨Y, 0, none⟩ = some (.int .i64 op) ∧ W.cell? ⟨Y, 1, none⟩ = some (.int .i64 a) ∧ W.cell? ⟨Y, 2, none⟩ = some (.int .i64 b)) ∧ (∃ u v z, W.cell? ⟨X, 0, none⟩ = some u ∧ W.cell? ⟨X, 1, none⟩ = some v ∧ W.cell? ⟨X, 2, none⟩ = some z) ∧ (W.frozen? ⟨X, 0, none⟩ = false ∧ W.frozen? ⟨X, 1, none⟩ = false ∧ W.frozen? ⟨X, 2, none⟩ = false) ∧ W.frozen? ⟨Y, 1, none⟩ = false ∧ W.frozen? ⟨Y, 2, none⟩ = false := by
  subst hX; subst hY
  obtain ⟨⟨u, v, q, hx⟩, hy, _⟩ := h
  exact ⟨⟨heap_cl hy rfl, heap_cl hy rfl, heap_cl hy rfl⟩, ⟨u, v, q, heap_cl hx rfl, heap_cl hx rfl, heap_cl hx rfl⟩, ⟨heap_frozen hx, heap_frozen hx, heap_frozen hx⟩, heap_frozen hy, heap_frozen hy⟩
theorem JW.done {w W : World} {R mA mB X : Nat} {sv gv : Value} {SA : List Byt} {fv0 : Value} {m : Byt} {N : List Byt} {fv : Value} {F : List Int} {op a b : Int} {G : Ending → World → Prop} (h : JW w W R mA mB sv gv SA fv0 m N fv F op a b) (hX : X = w.heap.size) (hF : ∀ w', RL w' R mA mB m sv gv SA N fv F → LO w R mB fv0 w' fv → G (.returned (.agg #[.int .i64 op, .int .i64 a, .int .i64 b])) w') (A : Act) (h4 : A.tmps[4]? = some (.pointer (some ⟨X, 0, none⟩))) (hd : A.defers = []) :
    bodyPost Tryz.prog Tryz.f116 G .ret A (((W.setCell ⟨X, 0, none⟩ (.int .i64 op)).setCell ⟨X, 1, none⟩ (.int .i64 a)).setCell ⟨X, 2, none⟩ (.int .i64 b)) := by
  obtain ⟨x, y, z, hx⟩ := h.x
  subst hX
  have hb := (setCell_block ((setCell_block ((setCell_block hx (v := .int .i64 op) (i := 0)).trans rfl) (v := .int .i64 a) (i := 1)).trans rfl) (v := .int .i64 b) (i := 2)).trans rfl
  refine bodyPost_ret (v := .agg #[.int .i64 op, .int .i64 a, .int .i64 b]) (res116 h4 (heap_cl hb rfl) (heap_cl hb rfl) (heap_cl hb rfl)) hd (hF _ (h.fin _ _ _).1 (h.fin _ _ _).2)
set_option maxHeartbeats 16000000 in
set_option maxRecDepth 10000 in
theorem qins {w : World} {R mA mB : Nat} {l : Byt} {sv gv : Value} {SA N : List Byt} {fv : Value} {F : List Int} (h : RL w R mA mB l sv gv SA N fv F) (hlN : N.length + l.length ≤ 8388608) (hS : ∀ w', Below mB w w' → RdS w') (op : Nat) (hop : isOpP (op : Int) = true) :
    Calls Tryz.prog 116 #[.int .i64 (op : Int), .func (.func 117) #[.pointer (some ⟨R, 0, none⟩)] #[]] w fun r w' => QI w R mA mB sv gv SA fv (restQ SA (op : Int) l N F) r w' := by
  have hop2 := op_range hop
  have hRl := lt_heap h.tb
  obtain ⟨l1, l2⟩ := h.lt
  obtain ⟨W, hW⟩ : ∃ W, W = (w.alloc (.cells #[.int .i64 0, .int .i64 0, .int .i64 0] 53)).alloc (.cells #[.int .i64 (op : Int), .int .i64 0, .int .i64 0] 53) := ⟨_, rfl⟩
  have hBW : Below w.heap.size w W := by rw [hW]; exact ((Below.refl _ _).alloc (Nat.le_refl _) _).alloc ((Below.refl _ _).alloc (Nat.le_refl _) _).size _
  have HI : Hid (JW w W R mA mB sv gv SA fv l N fv F (op : Int) 0 0) := by
    refine ⟨⟨.int .i64 0, .int .i64 0, .int .i64 0, ?_⟩, ?_, h.kept (fun y hy => hBW.block y ?_), ⟨.inl rfl, hBW.mono (by omega), hBW.size, fun y hy _ _ _ => hBW.block y hy⟩, hRl, fun y e => ?_⟩
    · rw [hW]
      have e1 := new_blk w (.cells #[.int .i64 0, .int .i64 0, .int .i64 0] 53)
      exact (((Below.refl (w.alloc (.cells #[.int .i64 0, .int .i64 0, .int .i64 0] 53)).heap.size _).alloc (Nat.le_refl _) _).block _ (lt_heap e1)).trans e1
    · rw [hW]
      have e1 := new_blk (w.alloc (.cells #[.int .i64 0, .int .i64 0, .int .i64 0] 53)) (.cells #[.int .i64 (op : Int), .int .i64 0, .int .i64 0] 53)
      have e2 : (w.alloc (.cells #[.int .i64 0, .int .i64 0, .int .i64 0] 53)).heap.size = w.heap.size + 1 := by show (w.heap.push _).size = _; exact Array.size_push _
      rw [e2] at e1
      exact e1
    · rcases hy with hy | hy
      · omega
      · exact (h.f.lt y hy).2
    · have := (h.f.lt y e).2
      omega
  have HM : Hid (manyP (op : Int) = if kindB (op : Int) ≠ 0 then 2 else if kindA (op : Int) ≠ 0 then 1 else 0) := rfl
  obtain ⟨G, hG⟩ : ∃ G : Ending → World → Prop, G = fun r w' => QI w R mA mB sv gv SA fv (restQ SA (op : Int) l N F) r w' := ⟨_, rfl⟩
  rw [← hG]
  have HFN : Hid (∀ w', restQ SA (op : Int) l N F = none → Below mB w w' → G (thrown 170) w') := fun w' h1 h3 => by rw [hG]; show QI _ _ _ _ _ _ _ _ _ _ _; rw [h1]; exact ⟨rfl, h3⟩
  have HFS : Hid (∀ w' a b m N' F' fv', restQ SA (op : Int) l N F = some (((op : Int), a, b), m, N', F') → RL w' R mA mB m sv gv SA N' fv' F' → LO w R mB fv w' fv' → G (.returned (.agg #[.int .i64 (op : Int), .int .i64 a, .int .i64 b])) w') := fun w' a b m N' F' fv' h1 h3 h4 => by rw [hG]; show QI _ _ _ _ _ _ _ _ _ _ _; rw [h1]; exact ⟨fv', rfl, h3, h4⟩
  have HRE : Hid (restQ SA (op : Int) l N F = if kindB (op : Int) ≠ 0 then bindQ (numQ SA (kindA (op : Int)) l N F) fun a m N F => bindQ (numQ SA (kindB (op : Int)) m N F) fun b m N F => some (((op : Int), a, b), m, N, F) else if kindA (op : Int) ≠ 0 then bindQ (numQ SA (kindA (op : Int)) l N F) fun a m N F => some (((op : Int), a, 0), m, N, F) else some (((op : Int), 0, 0), l, N, F)) := rfl
  have HS : Hid (∀ w', Below mB w w' → RdS w') := hS
  have hSW := HS.out W (hBW.mono (by omega))
  obtain ⟨_, ⟨rd, rcap, hrw⟩, _⟩ := hSW
  obtain ⟨g, o, rfl, hc, hg, q1, q2, q3⟩ := hrw.row op (by omega)
  have r0 := hrw.cell
  obtain ⟨k1, k2⟩ := kinds_at (i := op) rfl
  rw [← k1] at q2
  rw [← k2] at q3
  have CM := numbers_any (w := W.drew) (hrw.below ((Below.refl _ _).drew)) (op : Int) hop
  have HSd : Hid (∀ W', Below mB W.drew W' → RdS W') := fun W' hb => HS.out W' (((hBW.mono (by omega)).drew).trans hb)
  have i1 : (0 : Int) ≤ (op : Int) := by omega
  have i2 : (op : Int) < 18 := by omega
  obtain ⟨X, hX⟩ : ∃ X, X = w.heap.size := ⟨_, rfl⟩
  obtain ⟨Y, hY⟩ : ∃ Y, Y = w.heap.size + 1 := ⟨_, rfl⟩
  have HXE : Hid (X = w.heap.size) := hX
  have HYE : Hid (Y = w.heap.size + 1) := hY
  obtain ⟨⟨y0, y1, y2⟩, ⟨xu, xv, xz, x0, x1, x2⟩, ⟨fx0, fx1, fx2⟩, fy1, fy2⟩ := HI.out.facts' HXE.out HYE.out
  have hXY : X ≠ Y := by omega
  have hYX : Y ≠ X := by omega
  clear hG hBW k1 k2 hX hY hop hop2 hS h hrw q1
  go_enter Tryz.func116, Tryz.ntmps116
  go_upto_region 2 with fail
  rw [← hW, ← HYE.out, ← HXE.out]
  clear hW
  go_region
  all_goals
    by_cases hb : kindB (op : Int) = 0
    · clear q2 q3 r0
      by_cases ha : kindA (op : Int) = 0
      · rw [HM.out, if_neg (by simp [hb]), if_neg (by simp [ha])] at CM
        go_wp2_with (go_at_call 118; (with_reducible refine Calls.mono CM ?_); rintro e2 w2 ⟨rfl, hw⟩; obtain rfl := hw.symm; clear hw)
        exact HI.out.drew.done HXE.out (fun w' h1 h2 => HFS.out _ 0 0 l N F fv (by rw [HRE.out, if_neg (by simp [hb]), if_neg (by simp [ha])]) h1 h2) _ rfl rfl
      · rw [HM.out, if_neg (by simp [hb]), if_pos ha] at CM
        have CA := qarg_any HI.out.drew.rl (by omega) (by omega) HSd.out (kindA (op : Int))
        cases hA : numQ SA (kindA (op : Int)) l N F with
        | none =>
          rw [hA] at CA
          replace CA : Calls Tryz.prog 117 #[.pointer (some ⟨R, 0, none⟩), .int .i64 (kindA (op : Int) : Nat)] W.drew fun r w' => r = .panicked [{ v := .iface 28 (.int .i64 170), recovered := false }] ∧ Hid (Below mB W.drew w') := CA
          go_wp2_with (first | (go_at_call 118; (with_reducible refine Calls.mono CM ?_); rintro e2 w2 ⟨rfl, hw⟩; obtain rfl := hw.symm; clear hw) | (go_at_call 117; (with_reducible refine Calls.mono CA ?_); rintro e3 w3 ⟨rfl, H3⟩))
          exact ⟨rfl, HFN.out _ (by rw [HRE.out, if_neg (by simp [hb]), if_pos ha, hA]; rfl) (HI.out.drew.thrown H3.out)⟩
        | some p =>
          obtain ⟨a, m, N', F'⟩ := p
          rw [hA] at CA
          replace CA : Calls Tryz.prog 117 #[.pointer (some ⟨R, 0, none⟩), .int .i64 (kindA (op : Int) : Nat)] W.drew fun r w' => ∃ fv', r = .returned (.int .i64 a) ∧ Hid (RL w' R mA mB m sv gv SA N' fv' F' ∧ LO W.drew R mB fv w' fv') := CA
          clear y0 y1 y2 x0 x1 x2 fx0 fx1 fx2 fy1 fy2
          go_wp2_with (first | (go_at_call 118; (with_reducible refine Calls.mono CM ?_); rintro e2 w2 ⟨rfl, hw⟩; obtain rfl := hw.symm; clear hw) | (go_at_call 117; (with_reducible refine Calls.mono CA ?_); rintro e3 w3 ⟨fv3, rfl, H3⟩; have HI3 : Hid (JW w w3 R mA mB sv gv SA fv m N' fv3 F' (op : Int) 0 0) := HI.out.drew.call H3.out.1 H3.out.2; obtain ⟨⟨y0, y1, y2⟩, ⟨xu, xv, xz, x0, x1, x2⟩, ⟨fx0, fx1, fx2⟩, fy1, fy2⟩ := HI3.out.facts' HXE.out HYE.out))
          exact (HI3.out.setA' HYE.out a).done HXE.out (fun w' h1 h2 => HFS.out _ a 0 m N' F' fv3 (by rw [HRE.out, if_neg (by simp [hb]), if_pos ha, hA]; rfl) h1 h2) _ rfl rfl
    · rw [HM.out, if_pos hb] at CM
      have CA := qarg_any HI.out.drew.rl (by omega) (by omega) HSd.out (kindA (op : Int))
      clear q2 q3 r0
      cases hA : numQ SA (kindA (op : Int)) l N F with
      | none =>
        rw [hA] at CA
        replace CA : Calls Tryz.prog 117 #[.pointer (some ⟨R, 0, none⟩), .int .i64 (kindA (op : Int) : Nat)] W.drew fun r w' => r = .panicked [{ v := .iface 28 (.int .i64 170), recovered := false }] ∧ Hid (Below mB W.drew w') := CA
        go_wp2_with (first | (go_at_call 118; (with_reducible refine Calls.mono CM ?_); rintro e2 w2 ⟨rfl, hw⟩; obtain rfl := hw.symm; clear hw) | (go_at_call 117; (with_reducible refine Calls.mono CA ?_); rintro e3 w3 ⟨rfl, H3⟩))
        exact ⟨rfl, HFN.out _ (by rw [HRE.out, if_pos hb, hA]; rfl) (HI.out.drew.thrown H3.out)⟩
      | some p =>
        obtain ⟨a, m, N', F'⟩ := p
        obtain ⟨n1, n2⟩ := num_q_len hA
        rw [hA] at CA
        replace CA : Calls Tryz.prog 117 #[.pointer (some ⟨R, 0, none⟩), .int .i64 (kindA (op : Int) : Nat)] W.drew fun r w' => ∃ fv', r = .returned (.int .i64 a) ∧ Hid (RL w' R mA mB m sv gv SA N' fv' F' ∧ LO W.drew R mB fv w' fv') := CA
        clear y0 y1 y2 x0 x1 x2 fx0 fx1 fx2 fy1 fy2
        have HN : Hid (m.length ≤ 8388608 ∧ N'.length < 90000000) := ⟨by omega, by omega⟩
        clear n1 n2
        go_upto_region 7 with (first | (go_at_call 118; (with_reducible refine Calls.mono CM ?_); rintro e2 w2 ⟨rfl, hw⟩; obtain rfl := hw.symm; clear hw) | (go_at_call 117; (with_reducible refine Calls.mono CA ?_); rintro e3 w3 ⟨fv3, rfl, H3⟩; have HI3 : Hid (JW w w3 R mA mB sv gv SA fv m N' fv3 F' (op : Int) 0 0) := HI.out.drew.call H3.out.1 H3.out.2; obtain ⟨⟨y0, y1, y2⟩, ⟨xu, xv, xz, x0, x1, x2⟩, ⟨fx0, fx1, fx2⟩, fy1, fy2⟩ := HI3.out.facts' HXE.out HYE.out))
        have HI4 : Hid (JW w (w3.setCell ⟨Y, 1, none⟩ (.int .i64 a)) R mA mB sv gv SA fv m N' fv3 F' (op : Int) a 0) := HI3.out.setA' HYE.out a
        clear y0 y1 y2 x0 x1 x2 fx0 fx1 fx2 fy1 fy2 HI3 H3 CA CM HI
        generalize w3.setCell ⟨Y, 1, none⟩ (.int .i64 a) = W4 at *
        obtain ⟨_, ⟨rd4, rcap4, hrw4⟩, _⟩ := HS.out W4 HI4.out.lo.bel
        obtain ⟨g4, o4, rfl, hc4, hg4, -, q2, q3⟩ := hrw4.row op (by omega)
        obtain ⟨k1, k2⟩ := kinds_at (i := op) rfl
        rw [← k1] at q2
        rw [← k2] at q3
        have r0 := hrw4.cell
        have CB := qarg_any HI4.out.drew.rl HN.out.1 HN.out.2 (fun W' hb => HS.out W' (((HI4.out.lo.bel).drew).trans hb)) (kindB (op : Int))
        obtain ⟨⟨y0, y1, y2⟩, ⟨xu, xv, xz, x0, x1, x2⟩, ⟨fx0, fx1, fx2⟩, fy1, fy2⟩ := HI4.out.facts' HXE.out HYE.out
        clear k1 k2 hrw4
        go_region
        all_goals
          clear q2 q3 r0 y0 y1 y2 x0 x1 x2 fx0 fx1 fx2 fy1 fy2
          cases hB : numQ SA (kindB (op : Int)) m N' F' with
          | none =>
            rw [hB] at CB
            replace CB : Calls Tryz.prog 117 #[.pointer (some ⟨R, 0, none⟩), .int .i64 (kindB (op : Int) : Nat)] W4.drew fun r w' => r = .panicked [{ v := .iface 28 (.int .i64 170), recovered := false }] ∧ Hid (Below mB W4.drew w') := CB
            go_wp2_with (go_at_call 117; (with_reducible refine Calls.mono CB ?_); rintro e5 w5 ⟨rfl, H5⟩)
            exact ⟨rfl, HFN.out _ (by rw [HRE.out, if_pos hb, hA]; show bindQ (numQ SA (kindB (op : Int)) m N' F') _ = _; rw [hB]; rfl) (HI4.out.drew.thrown H5.out)⟩
          | some p =>
            obtain ⟨b, n, N2, F2⟩ := p
            rw [hB] at CB
            replace CB : Calls Tryz.prog 117 #[.pointer (some ⟨R, 0, none⟩), .int .i64 (kindB (op : Int) : Nat)] W4.drew fun r w' => ∃ fv', r = .returned (.int .i64 b) ∧ Hid (RL w' R mA mB n sv gv SA N2 fv' F2 ∧ LO W4.drew R mB fv3 w' fv') := CB
            go_wp2_with (go_at_call 117; (with_reducible refine Calls.mono CB ?_); rintro e5 w5 ⟨fv5, rfl, H5⟩; have HI3 : Hid (JW w w5 R mA mB sv gv SA fv n N2 fv5 F2 (op : Int) a 0) := HI4.out.drew.call H5.out.1 H5.out.2; obtain ⟨⟨y0, y1, y2⟩, ⟨xu, xv, xz, x0, x1, x2⟩, ⟨fx0, fx1, fx2⟩, fy1, fy2⟩ := HI3.out.facts' HXE.out HYE.out)
            exact (HI3.out.setB' HYE.out b).done HXE.out (fun w' h1 h2 => HFS.out _ a b n N2 F2 fv5 (by rw [HRE.out, if_pos hb, hA]; show bindQ (numQ SA (kindB (op : Int)) m N' F') _ = _; rw [hB]; rfl) h1 h2) _ rfl rfl
end Go.Proofs.YtlpnegnpejpdkaaGreatDoor
