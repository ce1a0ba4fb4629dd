/- byteReader: a table is read. -/
import Derived.Test.YtlpnegnpejpdkaaGreatDoorMjx
import Derived.Test.YtlpnegnpejpdkaaGreatDoorKz
namespace Go.Proofs.YtlpnegnpejpdkaaGreatDoor
open Go.RowKit

/-- What a reader's call leaves that answers a table: nothing may be left. -/
def RT (w : World) (R : Nat) (x : Option (Tab × Byt)) (r : Ending) (w' : World) : Prop :=
  (∀ t, x = some (t, []) → ∃ sv gv raws, r = .returned (.agg #[sv, gv]) ∧ Hid (TabR w' (w.heap.size + 2) sv gv raws t ∧ Rk w R w')) ∧ ((∀ t, x ≠ some (t, [])) → r = thrown 171 ∧ Hid (Rk w R w'))
theorem res64 {w : World} {X : Nat} {tm : Array Value} {a b : Value} (h4 : tm[2]? = some (.pointer (some ⟨X, 0, none⟩))) (x0 : w.cell? ⟨X, 0, none⟩ = some a) (x1 : w.cell? ⟨X, 1, none⟩ = some b) : (results Tryz.f64 tm).run Tryz.prog w = .ok (.agg #[a, b]) w := by
  simp [results, Tryz.f64, go_sem, h4, x0, x1]
theorem TW.fin {w wr : World} {R X : Nat} {sv gv : Value} {raws : List (Byt × Int × Value)} {t : Tab} {left : Nat} {m : Byt} (h : TW w wr R X sv gv raws t left m) :
    ((wr.setCell ⟨w.heap.size, 0, none⟩ sv).setCell ⟨w.heap.size, 1, none⟩ gv).cell? ⟨w.heap.size, 0, none⟩ = some sv ∧ ((wr.setCell ⟨w.heap.size, 0, none⟩ sv).setCell ⟨w.heap.size, 1, none⟩ gv).cell? ⟨w.heap.size, 1, none⟩ = some gv ∧ TabR ((wr.setCell ⟨w.heap.size, 0, none⟩ sv).setCell ⟨w.heap.size, 1, none⟩ gv) (w.heap.size + 2) sv gv raws t ∧ Rk w R ((wr.setCell ⟨w.heap.size, 0, none⟩ sv).setCell ⟨w.heap.size, 1, none⟩ gv) := by
  have hb := ((Below.refl w.heap.size wr).setCell (p := ⟨w.heap.size, 0, none⟩) (Nat.le_refl _) sv).setCell (p := ⟨w.heap.size, 1, none⟩) (Nat.le_refl _) gv
  have hs : ∀ g, g ≠ w.heap.size → ((wr.setCell ⟨w.heap.size, 0, none⟩ sv).setCell ⟨w.heap.size, 1, none⟩ gv).heap[g]? = wr.heap[g]? := fun g hg => by
    rw [Below.heap_setCell _ _ _ _ hg, Below.heap_setCell _ _ _ _ hg]
  have hz := (setCell_block ((setCell_block h.z (v := sv) (i := 0)).trans rfl) (v := gv) (i := 1)).trans rfl
  obtain ⟨hR, hXe⟩ := h.lt
  have ht := h.tab.keep (w' := (wr.setCell ⟨w.heap.size, 0, none⟩ sv).setCell ⟨w.heap.size, 1, none⟩ gv) (fun y hy _ => hs y (by omega)) (by rw [World.size_setCell, World.size_setCell]; exact Nat.le_refl _)
  rw [hXe] at ht
  exact ⟨heap_cl hz rfl, heap_cl hz rfl, ht, h.rk.1.trans (hb.mono (Nat.le_of_lt hR)), fun y hy hyR => (hs y (by omega)).trans (h.rk.2 y hy hyR)⟩
set_option maxHeartbeats 16000000 in
set_option maxRecDepth 10000 in
theorem rtab {w : World} {rd : Option Addr} {rcap R : Nat} {l : Byt} (hR : RowsAt w rd rcap) (h : Rd w R 200000 l) (h1R : 1 < R) (hgR : ∀ g o, rd = some ⟨g, o, none⟩ → g < R) (hll : l.length < 9223372036854775808) :
    Calls Tryz.prog 64 #[.pointer (some ⟨R, 0, none⟩)] w fun r w' => RT w R (tabR l) r w' := by
  have hRl := h.lt
  obtain ⟨T, hT⟩ : ∃ T, T = tabR l := ⟨_, rfl⟩
  rw [← hT]
  have HT : Hid (T = bindR (cntR 2000 l) fun n r => bindR (timesR shpR n r) fun s r => bindR (cntR 2000 r) fun n r => bindR (glbsR n 200000 r) fun g r => some ((s, g), r)) := hT
  clear hT
  obtain ⟨F, hF⟩ : ∃ F : Ending → World → Prop, F = fun r w' => RT w R T r w' := ⟨_, rfl⟩
  rw [← hF]
  have HFN : Hid (∀ r w', T = none → r = thrown 171 → Rk w R w' → F r w') := fun r w' h1 h2 h3 => by rw [hF]; show RT w R T r w'; exact And.intro (fun t e => by rw [h1] at e; cases e) fun _ => ⟨h2, h3⟩
  have HFO : Hid (∀ r w' t m, T = some (t, m) → m ≠ [] → r = thrown 171 → Rk w R w' → F r w') := fun r w' t m h1 hm h2 h3 => by
    rw [hF]
    show RT w R T r w'
    refine ⟨fun t' e => ?_, fun _ => ⟨h2, h3⟩⟩
    rw [h1] at e
    cases e
    exact absurd rfl hm
  have HFS : Hid (∀ r w' t sv gv raws, T = some (t, []) → r = .returned (.agg #[sv, gv]) → TabR w' (w.heap.size + 2) sv gv raws t → Rk w R w' → F r w') := fun r w' t sv gv raws h1 h2 h3 h4 => by
    rw [hF]
    show RT w R T r w'
    refine ⟨fun t' e => ?_, fun hn => absurd h1 (hn t)⟩
    rw [h1] at e
    cases e
    exact ⟨sv, gv, raws, h2, h3, h4⟩
  have HRW : Hid (∀ w2 : World, Below R w w2 → w.heap.size ≤ w2.heap.size → RowsAt w2 rd rcap) := fun w2 hb hs => hR.under h1R hgR hb hs
  have CG := fun W => giveUp_any 171 W
  unfold thrown at CG
  obtain ⟨W, hW⟩ : ∃ W, W = (w.alloc (.cells #[.slice none 0 0, .slice none 0 0] 25)).alloc (.cells #[.slice none 0 0, .slice none 0 0] 25) := ⟨_, rfl⟩
  obtain ⟨X, hX⟩ : ∃ X, X = w.heap.size + 1 := ⟨_, rfl⟩
  have e2 : (w.alloc (.cells #[.slice none 0 0, .slice none 0 0] 25)).heap.size = w.heap.size + 1 := World.size_alloc _ _
  have hb1 : Below w.heap.size w (w.alloc (.cells #[.slice none 0 0, .slice none 0 0] 25)) := (Below.refl _ _).alloc (Nat.le_refl _) _
  have hb2 : Below (w.heap.size + 1) (w.alloc (.cells #[.slice none 0 0, .slice none 0 0] 25)) W := by rw [hW, ← e2]; exact (Below.refl _ _).alloc (Nat.le_refl _) _
  have hbW : Below w.heap.size w W := hb1.trans (hb2.mono (by omega))
  have HTW : Hid (TW w W R X (.slice none 0 0) (.slice none 0 0) [] ([], []) 200000 l) := by
    refine ⟨by rw [hW, hX, ← e2]; exact new_blk _ _, (hb2.block _ (by omega)).trans (new_blk _ _), ⟨OwnN.nil _ _ _ _ _, OwnN.nil _ _ _ _ _, rfl, fun i a b => by simp at a, ?_⟩, h.on (hbW.mono (Nat.le_of_lt hRl)) (hbW.block R hRl), ⟨hbW.mono (Nat.le_of_lt hRl), fun y hy _ => hbW.block y hy⟩, ⟨hRl, hX⟩, hll⟩
    simp [Apt, Value.ownBlock]
  have HXE : Hid (X = w.heap.size + 1) := hX
  have CN := rcnt HTW.out.rd 2000 hll
  clear hb1 hb2 hbW e2 hF hX hR h
  cases hn : cntR 2000 l with
  | none =>
    rw [hn] at CN
    replace CN : Calls Tryz.prog 99 #[.pointer (some ⟨R, 0, none⟩), .int .i64 (2000 : Nat)] W fun r w' => r = .panicked [{ v := .iface 28 (.int .i64 171), recovered := false }] ∧ Hid (Rk W R w') := CN
    go_enter Tryz.func64, Tryz.ntmps64
    go_upto_region 2 with fail
    rw [← hW, ← HXE.out]
    clear hW
    go_wp2_with (go_at_call 99; (with_reducible refine Calls.mono CN ?_); rintro e2 w2 ⟨rfl, HH⟩)
    exact ⟨rfl, HFN.out _ _ (by rw [HT.out, hn]; rfl) rfl (HTW.out.thrown HH.out)⟩
  | some p =>
    obtain ⟨n, m⟩ := p
    rw [hn] at CN
    replace CN : Calls Tryz.prog 99 #[.pointer (some ⟨R, 0, none⟩), .int .i64 (2000 : Nat)] W fun r w' => r = .returned (.int .i64 n) ∧ Hid (Rd w' R 200000 m ∧ Rk W R w') := CN
    have hn2 := (cnt_is hn).2.1
    have HML : Hid (m.length ≤ l.length) := cnt_less hn
    have HT1 : Hid (T = bindR (timesR shpR n m) fun s r => bindR (cntR 2000 r) fun n r => bindR (glbsR n 200000 r) fun g r => some ((s, g), r)) := by show _ = _; rw [HT.out, hn]; rfl
    clear hn HT
    go_enter Tryz.func64, Tryz.ntmps64
    go_upto_region 2 with fail
    rw [← hW, ← HXE.out]
    clear hW
    go_upto_region 3 with (go_at_call 99; (with_reducible refine Calls.mono CN ?_); rintro e2 w2 ⟨rfl, HH⟩)
    have HTW2 : Hid (TW w w2 R X (.slice none 0 0) (.slice none 0 0) [] ([], []) 200000 m) := HTW.out.call HH.out.1 HH.out.2 HML.out
    clear CN HH HTW
    obtain ⟨K1, hK1⟩ : ∃ K1 : List Shp → Byt → Option (Tab × Byt), K1 = fun s r => bindR (cntR 2000 r) fun n r => bindR (glbsR n 200000 r) fun g r => some ((s, g), r) := ⟨_, rfl⟩
    have HK1 : Hid (∀ s r, K1 s r = bindR (cntR 2000 r) fun n r => bindR (glbsR n 200000 r) fun g r => some ((s, g), r)) := fun s r => by rw [hK1]
    rw [← hK1] at HT1
    clear hK1
    go_loopw [6] (fun iv wr => ∃ (done : List Shp) (sv : Value) (m : Byt), done.length ≤ n ∧ iv = .int .i64 (done.length : Nat) ∧ Hid (TW w wr R X sv (.slice none 0 0) [] (done, []) 200000 m) ∧ Hid (T = bindR (timesR shpR (n - done.length) m) fun s r => K1 (done ++ s) r)) (fun iv _ => n - (intOf iv).toNat)
    case atStart => exact ⟨[], .slice none 0 0, m, by simp, by go_num, HTW2.out, HT1.out⟩
    case round =>
      clear HTW2 HT1 HML
      obtain ⟨done, sv, m, hdn, rfl, HW, HTT⟩ := hrel
      obtain ⟨i, hi⟩ : ∃ i, i = done.length := ⟨_, rfl⟩
      have HI : Hid (i = done.length) := hi
      rw [← hi] at hdn ⊢
      clear hi
      by_cases hin : i < n
      · have i1 : (0 : Int) ≤ (i : Int) := by omega
        have i2 : (i : Int) < (n : Int) := by omega
        have HTT2 : Hid (T = bindR (timesR shpR ((n - i - 1) + 1) m) fun s r => K1 (done ++ s) r) := by rw [show n - i - 1 + 1 = n - done.length by have := HI.out; omega]; exact HTT.out
        clear HTT
        go_upto_region 4 with fail
        have HWD := HW.out.drew
        obtain ⟨D, hD⟩ : ∃ D, D = wr.drew := ⟨_, rfl⟩
        rw [← hD] at HWD
        have HW2 : Hid (TW w D R X sv (.slice none 0 0) [] (done, []) 200000 m) := HWD
        have hS0 : (fun w' : World => w'.cell? ⟨X, 0, none⟩ = some sv) D := heap_cl HWD.x rfl
        have CN := rname HWD.rd HWD.ml
        clear HW HWD
        refine wp_region_M (S := (fun w' : World => w'.cell? ⟨X, 0, none⟩ = some sv)) (L := 10) (n := 11) (by kernel_rfl) rfl (by kernel_rfl) ?_
        rw [← hD]
        clear hD
        refine wpAnyK_go (i := 0) (m' := 1) (some 8) (v := .pointer (some ⟨X, 0, none⟩)) rfl rfl (by kernel_rfl) (by kernel_rfl) (by kernel_rfl) (by kernel_rfl) (by kernel_rfl) (fun _ _ _ h => h) (Or.inl ⟨by rfl, ?_⟩) hS0 ?_
        · intro w' hSw
          go_simp
        try simp only [Act.put, List.setIfInBounds_toArray, List.set_cons_zero, List.set_cons_succ]
        refine wpAnyK_go (i := 1) (m' := 3) (some 9) (v := sv) rfl rfl (by kernel_rfl) (by kernel_rfl) (by kernel_rfl) (by kernel_rfl) (by kernel_rfl) (fun _ _ _ h => h) (Or.inl ⟨by rfl, ?_⟩) hS0 ?_
        · intro w' hSw
          have p0 := hSw
          go_simp
        try simp only [Act.put, List.setIfInBounds_toArray, List.set_cons_zero, List.set_cons_succ]
        refine wpAnyK_go (i := 2) (m' := 7) (some 10) (v := .pointer (some ⟨R, 0, none⟩)) rfl rfl (by kernel_rfl) (by kernel_rfl) (by kernel_rfl) (by kernel_rfl) (by kernel_rfl) (fun _ _ _ h => h) (Or.inl ⟨by rfl, ?_⟩) hS0 ?_
        · intro w' hSw
          go_simp
        try simp only [Act.put, List.setIfInBounds_toArray, List.set_cons_zero, List.set_cons_succ]
        refine wpAnyK_go (i := 4) (m' := 23) (some 12) (v := .pointer (some ⟨R, 0, none⟩)) rfl rfl (by kernel_rfl) (by kernel_rfl) (by kernel_rfl) (by kernel_rfl) (by kernel_rfl) (fun _ _ _ h => h) (Or.inl ⟨by rfl, ?_⟩) hS0 ?_
        · intro w' hSw
          go_simp
        try simp only [Act.put, List.setIfInBounds_toArray, List.set_cons_zero, List.set_cons_succ]
        refine wpAnyK_only (i := 3) (m' := 31) (by kernel_rfl) rfl (by kernel_rfl) fun K hK => ?_
        go_simp
        cases hnm : nameR m with
        | none =>
          rw [hnm] at CN
          replace CN : Calls Tryz.prog 100 #[.pointer (some ⟨R, 0, none⟩)] D fun r w' => r = .panicked [{ v := .iface 28 (.int .i64 171), recovered := false }] ∧ Hid (Rk D R w') := CN
          (with_reducible refine Calls.mono CN ?_)
          rintro e2 w2 ⟨rfl, H2⟩
          go_simp
          show bodyPost Tryz.prog Tryz.f64 F (.panic [{ v := .iface 28 (.int .i64 171), recovered := false }]) _ w2
          exact ⟨rfl, HFN.out _ _ (times_no HTT2.out (by rw [shp_step, hnm]; rfl)) rfl (HW2.out.thrown H2.out)⟩
        | some p =>
          obtain ⟨nm, m1⟩ := p
          rw [hnm] at CN
          replace CN : Calls Tryz.prog 100 #[.pointer (some ⟨R, 0, none⟩)] D fun r w' => r = .returned (.string ⟨nm.toArray⟩) ∧ Hid (Rd w' R 200000 m1 ∧ Rk D R w') := CN
          (with_reducible refine Calls.mono CN ?_)
          rintro e2 w2 ⟨rfl, H2⟩
          go_simp
          have HW3 : Hid (TW w w2 R X sv (.slice none 0 0) [] (done, []) 200000 m1) := HW2.out.call H2.out.1 H2.out.2 (name_less hnm)
          have hS2 : (fun w' : World => w'.cell? ⟨X, 0, none⟩ = some sv) w2 := heap_cl HW3.out.x rfl
          refine hK.out _ _ (fun _ => hS2) ?_
          clear hK K CN hS0 H2 HW2
          try simp only [Act.put, List.setIfInBounds_toArray, List.set_cons_zero, List.set_cons_succ]
          have CM := rnum HW3.out.rd
          refine wpAnyK_only (i := 5) (m' := 63) (by kernel_rfl) rfl (by kernel_rfl) fun K hK => ?_
          go_simp
          cases hnum : numR 0 0 m1 with
          | none =>
            rw [hnum] at CM
            replace CM : Calls Tryz.prog 101 #[.pointer (some ⟨R, 0, none⟩)] w2 fun r w' => r = .panicked [{ v := .iface 28 (.int .i64 171), recovered := false }] ∧ Hid (Rk w2 R w') := CM
            (with_reducible refine Calls.mono CM ?_)
            rintro e4 w4 ⟨rfl, H4⟩
            go_simp
            show bodyPost Tryz.prog Tryz.f64 F (.panic [{ v := .iface 28 (.int .i64 171), recovered := false }]) _ w4
            exact ⟨rfl, HFN.out _ _ (times_no HTT2.out (by rw [shp_step, hnm]; show bindR (numR 0 0 m1) _ = _; rw [hnum]; rfl)) rfl (HW3.out.thrown H4.out)⟩
          | some p =>
            obtain ⟨q, m2⟩ := p
            rw [hnum] at CM
            replace CM : Calls Tryz.prog 101 #[.pointer (some ⟨R, 0, none⟩)] w2 fun r w' => r = .returned (.int .i64 q) ∧ Hid (Rd w' R 200000 m2 ∧ Rk w2 R w') := CM
            (with_reducible refine Calls.mono CM ?_)
            rintro e4 w4 ⟨rfl, H4⟩
            go_simp
            have HW4 : Hid (TW w w4 R X sv (.slice none 0 0) [] (done, []) 200000 m2) := HW3.out.call H4.out.1 H4.out.2 (num_less hnum)
            have HSH : Hid (shpR m = some ((nm, (q : Int)), m2)) := by show _ = _; rw [shp_step, hnm]; show bindR (numR 0 0 m1) _ = _; rw [hnum]; rfl
            have hnl : nm.length < 140737488355328 := by have := (name_is hnm).2; omega
            have hS4 : (fun w' : World => w'.cell? ⟨X, 0, none⟩ = some sv) w4 := heap_cl HW4.out.x rfl
            refine hK.out _ _ (fun _ => hS4) ?_
            clear hK K CM hS2 H4 HW3 hnm hnum
            try simp only [Act.put, List.setIfInBounds_toArray, List.set_cons_zero, List.set_cons_succ]
            refine wpAnyK_only (i := 6) (m' := 127) (by kernel_rfl) rfl (by kernel_rfl) fun K hK => ?_
            go_simp
            refine hK.out _ _ (fun _ => hS4) ?_
            clear hK K
            try simp only [Act.put, List.setIfInBounds_toArray, List.set_cons_zero, List.set_cons_succ]
            refine wpAnyK_only (i := 7) (m' := 255) (by kernel_rfl) rfl (by kernel_rfl) fun K hK => ?_
            go_simp
            have hb5 : Below w4.heap.size w4 (w4.alloc (.cells #[.string ⟨nm.toArray⟩, .int .i64 (q : Int)] 48)) := (Below.refl _ _).alloc (Nat.le_refl _) _
            refine hK.out _ _ (fun _ => heap_cl ((hb5.block X HW4.out.size).trans HW4.out.x) rfl) ?_
            clear hK K
            try simp only [Act.put, List.setIfInBounds_toArray, List.set_cons_zero, List.set_cons_succ]
            refine wpAnyK_only (i := 8) (m' := 511) (by kernel_rfl) rfl (by kernel_rfl) fun K hK => ?_
            refine step_append_N2 (E := EShp) (B := X + 1) (S := fun _ => False) (w1 := w4) (w2 := w4) (cs := [.string ⟨nm.toArray⟩, .int .i64 (q : Int)]) (p := (nm, (q : Int))) (l := done) (v := sv) Tryz.ty22 rfl _ _ rfl rfl HW4.out.tab.shp (fun _ h => h.elim) HW4.out.size (Below.refl _ _) w4.heap.size rfl rfl (And.intro rfl hnl) (by have := HI.out; omega) ?_
            intro g c6 w6 O6 H6
            have hX6 : w6.heap[X]? = some (.cells #[sv, .slice none 0 0] 25 (0, 0)) := (H6.out.1.block X (Nat.lt_succ_self _)).trans HW4.out.x
            have HW6 : Hid (TabR w6 (X + 1) (.slice (some ⟨g, 0, none⟩) (done.length + 1) c6) (.slice none 0 0) [] (done ++ [(nm, (q : Int))], [])) := ⟨O6, OwnN.nil _ _ _ _ _, rfl, fun i a b => by simp at a, by simp [Apt, Value.ownBlock]⟩
            refine hK.out _ _ (fun _ => heap_cl hX6 rfl) ?_
            clear hK K
            try simp only [Act.put, List.setIfInBounds_toArray]
            refine wpAnyK_only (i := 9) (m' := 1023) (by kernel_rfl) rfl (by kernel_rfl) fun K hK => ?_
            go_simp
            refine hK.out _ _ (fun _ => heap_cl hX6 rfl) ?_
            clear hK K
            have f6 : w6.frozen? ⟨X, 0, none⟩ = false := heap_frozen hX6
            have p6 : w6.cell? ⟨X, 0, none⟩ = some sv := heap_cl hX6 rfl
            refine wpAnyK_only (i := 10) (m' := 2047) (by kernel_rfl) rfl (by kernel_rfl) fun K hK => ?_
            go_simp
            refine hK.out _ _ (fun h => absurd rfl h) ?_
            clear hK K
            have HWT : Hid (TW w (w6.setCell ⟨X, 0, none⟩ (.slice (some ⟨g, 0, none⟩) (done.length + 1) c6)) R X (.slice (some ⟨g, 0, none⟩) (done.length + 1) c6) (.slice none 0 0) [] (done ++ [(nm, (q : Int))], []) 200000 m2) :=
              HW4.out.turn H6.out.1 HW6.out ((setCell_block hX6).trans rfl) ((Below.refl X w6).setCell (p := ⟨X, 0, none⟩) (Nat.le_refl X) _) (fun y hy => Below.heap_setCell _ _ _ _ hy) (by rw [World.size_setCell]; exact Nat.le_refl _)
            clear HW4 HW6 hX6 f6 p6 O6 H6 hS4 hb5
            refine wpAnyK_done (by kernel_rfl) ?_ _
            generalize w6.setCell ⟨X, 0, none⟩ (.slice (some ⟨g, 0, none⟩) (done.length + 1) c6) = w8 at *
            go_wp2
            go_roundw
            case rel =>
              refine ⟨done ++ [(nm, (q : Int))], .slice (some ⟨g, 0, none⟩) (done.length + 1) c6, m2, by rw [List.length_append]; simp only [List.length_cons, List.length_nil]; have := HI.out; omega, by rw [List.length_append]; simp only [List.length_cons, List.length_nil]; rw [← HI.out]; go_num, HWT.out, ?_⟩
              have := times_go HTT2.out HSH.out
              rw [show n - (done ++ [(nm, (q : Int))]).length = n - i - 1 by rw [List.length_append]; simp only [List.length_cons, List.length_nil]; have := HI.out; omega]
              exact this
            case measure => simp [intOf]; omega
      · have e3 : ¬ ((i : Int) < (n : Int)) := by omega
        have HT2 : Hid (T = K1 done m) := by
          have := HTT.out
          rw [show n - done.length = 0 by have := HI.out; omega] at this
          show _ = _
          rw [this]
          show K1 (done ++ []) m = _
          rw [List.append_nil]
        have CN := rcnt HW.out.rd 2000 HW.out.ml
        clear HTT hin
        cases hn3 : cntR 2000 m with
        | none =>
          rw [hn3] at CN
          replace CN : Calls Tryz.prog 99 #[.pointer (some ⟨R, 0, none⟩), .int .i64 (2000 : Nat)] wr fun r w' => r = .panicked [{ v := .iface 28 (.int .i64 171), recovered := false }] ∧ Hid (Rk wr R w') := CN
          go_wp2_with (go_at_call 99; (with_reducible refine Calls.mono CN ?_); rintro e2 w2 ⟨rfl, HH⟩)
          exact ⟨rfl, HFN.out _ _ (by rw [HT2.out, HK1.out, hn3]; rfl) rfl (HW.out.thrown HH.out)⟩
        | some p =>
          obtain ⟨n3, m3⟩ := p
          rw [hn3] at CN
          replace CN : Calls Tryz.prog 99 #[.pointer (some ⟨R, 0, none⟩), .int .i64 (2000 : Nat)] wr fun r w' => r = .returned (.int .i64 n3) ∧ Hid (Rd w' R 200000 m3 ∧ Rk wr R w') := CN
          have hn32 := (cnt_is hn3).2.1
          have HML3 : Hid (m3.length ≤ m.length) := cnt_less hn3
          have HT3 : Hid (T = bindR (glbsR n3 200000 m3) fun g r => some ((done, g), r)) := by show _ = _; rw [HT2.out, HK1.out, hn3]; rfl
          clear hn3 HT2
          go_upto_region 7 with (go_at_call 99; (with_reducible refine Calls.mono CN ?_); rintro e2 w2 ⟨rfl, HH⟩)
          have HTW5 : Hid (TW w w2 R X sv (.slice none 0 0) [] (done, []) 200000 m3) := HW.out.call HH.out.1 HH.out.2 HML3.out
          clear CN HH HW HML3
          clear HI hdn e3
          go_loopw [21] (fun iv wr => ∃ (done2 : List Glb) (gv : Value) (raws : List (Byt × Int × Value)) (left : Nat) (m : Byt), done2.length ≤ n3 ∧ left ≤ 200000 ∧ iv = .int .i64 (done2.length : Nat) ∧ Hid (TW w wr R X sv gv raws (done, done2) left m) ∧ Hid (T = bindR (glbsR (n3 - done2.length) left m) fun g r => some ((done, done2 ++ g), r))) (fun iv _ => n3 - (intOf iv).toNat)
          case atStart => exact ⟨[], .slice none 0 0, [], 200000, m3, by simp, Nat.le_refl _, by go_num, HTW5.out, HT3.out⟩
          case round =>
            clear HTW5 HT3
            obtain ⟨done2, gv, raws, left, m, hdn, hleft, rfl, HW, HTT⟩ := hrel
            obtain ⟨i, hi⟩ : ∃ i, i = done2.length := ⟨_, rfl⟩
            have HI : Hid (i = done2.length) := hi
            rw [← hi] at hdn ⊢
            clear hi
            by_cases hin : i < n3
            · have i1 : (0 : Int) ≤ (i : Int) := by omega
              have i2 : (i : Int) < (n3 : Int) := by omega
              have HTT2 : Hid (T = bindR (glbsR ((n3 - i - 1) + 1) left m) fun g r => some ((done, done2 ++ g), r)) := by rw [show n3 - i - 1 + 1 = n3 - done2.length by have := HI.out; omega]; exact HTT.out
              clear HTT
              go_upto_region 8 with fail
              have HWD := HW.out.drew
              obtain ⟨D, hD⟩ : ∃ D, D = wr.drew := ⟨_, rfl⟩
              rw [← hD] at HWD
              have HW2 : Hid (TW w D R X sv gv raws (done, done2) left m) := HWD
              have hS0 : (fun w' : World => w'.cell? ⟨X, 1, none⟩ = some gv) D := heap_cl HWD.x rfl
              have CP := rname HWD.rd HWD.ml
              clear HW HWD
              refine wp_region_M (S := (fun w' : World => w'.cell? ⟨X, 1, none⟩ = some gv)) (L := 12) (n := 13) (by kernel_rfl) rfl (by kernel_rfl) ?_
              rw [← hD]
              clear hD
              refine wpAnyK_go (i := 0) (m' := 1) (some 23) (v := .pointer (some ⟨X, 1, none⟩)) rfl rfl (by kernel_rfl) (by kernel_rfl) (by kernel_rfl) (by kernel_rfl) (by kernel_rfl) (fun _ _ _ h => h) (Or.inl ⟨by rfl, ?_⟩) hS0 ?_
              · intro w' hSw
                go_simp
              try simp only [Act.put, List.setIfInBounds_toArray, List.set_cons_zero, List.set_cons_succ]
              refine wpAnyK_go (i := 1) (m' := 3) (some 24) (v := gv) rfl rfl (by kernel_rfl) (by kernel_rfl) (by kernel_rfl) (by kernel_rfl) (by kernel_rfl) (fun _ _ _ h => h) (Or.inl ⟨by rfl, ?_⟩) hS0 ?_
              · intro w' hSw
                have p0 := hSw
                go_simp
              try simp only [Act.put, List.setIfInBounds_toArray, List.set_cons_zero, List.set_cons_succ]
              refine wpAnyK_go (i := 2) (m' := 7) (some 25) (v := .pointer (some ⟨R, 0, none⟩)) rfl rfl (by kernel_rfl) (by kernel_rfl) (by kernel_rfl) (by kernel_rfl) (by kernel_rfl) (fun _ _ _ h => h) (Or.inl ⟨by rfl, ?_⟩) hS0 ?_
              · intro w' hSw
                go_simp
              try simp only [Act.put, List.setIfInBounds_toArray, List.set_cons_zero, List.set_cons_succ]
              refine wpAnyK_go (i := 4) (m' := 23) (some 27) (v := .pointer (some ⟨R, 0, none⟩)) rfl rfl (by kernel_rfl) (by kernel_rfl) (by kernel_rfl) (by kernel_rfl) (by kernel_rfl) (fun _ _ _ h => h) (Or.inl ⟨by rfl, ?_⟩) hS0 ?_
              · intro w' hSw
                go_simp
              try simp only [Act.put, List.setIfInBounds_toArray, List.set_cons_zero, List.set_cons_succ]
              refine wpAnyK_go (i := 6) (m' := 87) (some 29) (v := .pointer (some ⟨R, 0, none⟩)) rfl rfl (by kernel_rfl) (by kernel_rfl) (by kernel_rfl) (by kernel_rfl) (by kernel_rfl) (fun _ _ _ h => h) (Or.inl ⟨by rfl, ?_⟩) hS0 ?_
              · intro w' hSw
                go_simp
              try simp only [Act.put, List.setIfInBounds_toArray, List.set_cons_zero, List.set_cons_succ]
              refine wpAnyK_only (i := 3) (m' := 95) (by kernel_rfl) rfl (by kernel_rfl) fun K hK => ?_
              go_simp
              cases hnm : nameR m with
              | none =>
                rw [hnm] at CP
                replace CP : Calls Tryz.prog 100 #[.pointer (some ⟨R, 0, none⟩)] D fun r w' => r = .panicked [{ v := .iface 28 (.int .i64 171), recovered := false }] ∧ Hid (Rk D R w') := CP
                (with_reducible refine Calls.mono CP ?_)
                rintro e9 w9 ⟨rfl, H9⟩
                go_simp
                show bodyPost Tryz.prog Tryz.f64 F (.panic [{ v := .iface 28 (.int .i64 171), recovered := false }]) _ w9
                exact ⟨rfl, HFN.out _ _ (glbs_no HTT2.out (by rw [glb_step, hnm]; rfl)) rfl (HW2.out.thrown H9.out)⟩
              | some p =>
                obtain ⟨nm, m1⟩ := p
                rw [hnm] at CP
                replace CP : Calls Tryz.prog 100 #[.pointer (some ⟨R, 0, none⟩)] D fun r w' => r = .returned (.string ⟨nm.toArray⟩) ∧ Hid (Rd w' R (left : Int) m1 ∧ Rk D R w') := CP
                (with_reducible refine Calls.mono CP ?_)
                rintro e2 w2 ⟨rfl, H2⟩
                go_simp
                have HW3 : Hid (TW w w2 R X sv gv raws (done, done2) left m1) := HW2.out.call H2.out.1 H2.out.2 (name_less hnm)
                have hS2 : (fun w' : World => w'.cell? ⟨X, 1, none⟩ = some gv) w2 := heap_cl HW3.out.x rfl
                refine hK.out _ _ (fun _ => hS2) ?_
                clear hK K CP hS0 H2 HW2
                try simp only [Act.put, List.setIfInBounds_toArray, List.set_cons_zero, List.set_cons_succ]
                have CP := rnum HW3.out.rd
                refine wpAnyK_only (i := 5) (m' := 127) (by kernel_rfl) rfl (by kernel_rfl) fun K hK => ?_
                go_simp
                cases hnum : numR 0 0 m1 with
                | none =>
                  rw [hnum] at CP
                  replace CP : Calls Tryz.prog 101 #[.pointer (some ⟨R, 0, none⟩)] w2 fun r w' => r = .panicked [{ v := .iface 28 (.int .i64 171), recovered := false }] ∧ Hid (Rk w2 R w') := CP
                  (with_reducible refine Calls.mono CP ?_)
                  rintro e9 w9 ⟨rfl, H9⟩
                  go_simp
                  show bodyPost Tryz.prog Tryz.f64 F (.panic [{ v := .iface 28 (.int .i64 171), recovered := false }]) _ w9
                  exact ⟨rfl, HFN.out _ _ (glbs_no HTT2.out (by rw [glb_step, hnm]; show bindR (numR 0 0 m1) _ = _; rw [hnum]; rfl)) rfl (HW3.out.thrown H9.out)⟩
                | some p =>
                  obtain ⟨q, m2⟩ := p
                  rw [hnum] at CP
                  replace CP : Calls Tryz.prog 101 #[.pointer (some ⟨R, 0, none⟩)] w2 fun r w' => r = .returned (.int .i64 q) ∧ Hid (Rd w' R (left : Int) m2 ∧ Rk w2 R w') := CP
                  (with_reducible refine Calls.mono CP ?_)
                  rintro e4 w4 ⟨rfl, H4⟩
                  go_simp
                  have HW4 : Hid (TW w w4 R X sv gv raws (done, done2) left m2) := HW3.out.call H4.out.1 H4.out.2 (num_less hnum)
                  have HGL : Hid (glbR left m = bindR (codeR left m2) fun c r => some ((nm, (q : Int), c), r)) := by show _ = _; rw [glb_step, hnm]; show bindR (numR 0 0 m1) _ = _; rw [hnum]; rfl
                  have hnl : nm.length < 140737488355328 := by have := (name_is hnm).2; omega
                  have hS4 : (fun w' : World => w'.cell? ⟨X, 1, none⟩ = some gv) w4 := heap_cl HW4.out.x rfl
                  refine hK.out _ _ (fun _ => hS4) ?_
                  clear hK K CP hS2 H4 HW3 hnm hnum
                  try simp only [Act.put, List.setIfInBounds_toArray, List.set_cons_zero, List.set_cons_succ]
                  have CP := rcode (HRW.out w4 HW4.out.rk.1 (HW4.out.rk.size (Nat.le_of_lt hRl))) HW4.out.rd h1R hgR HW4.out.ml hleft
                  refine wpAnyK_only (i := 7) (m' := 255) (by kernel_rfl) rfl (by kernel_rfl) fun K hK => ?_
                  go_simp
                  cases hc : codeR left m2 with
                  | none =>
                    rw [hc] at CP
                    replace CP : Calls Tryz.prog 102 #[.pointer (some ⟨R, 0, none⟩)] w4 fun r w' => r = .panicked [{ v := .iface 28 (.int .i64 171), recovered := false }] ∧ Hid (Rk w4 R w') := CP
                    (with_reducible refine Calls.mono CP ?_)
                    rintro e9 w9 ⟨rfl, H9⟩
                    go_simp
                    show bodyPost Tryz.prog Tryz.f64 F (.panic [{ v := .iface 28 (.int .i64 171), recovered := false }]) _ w9
                    exact ⟨rfl, HFN.out _ _ (glbs_no HTT2.out (by rw [HGL.out, hc]; rfl)) rfl (HW4.out.thrown H9.out)⟩
                  | some p =>
                    obtain ⟨c, m5⟩ := p
                    rw [hc] at CP
                    replace CP : Calls Tryz.prog 102 #[.pointer (some ⟨R, 0, none⟩)] w4 fun r w' => ∃ v, r = .returned v ∧ Hid (Own EIns 53 w4.heap.size w' (fun _ => False) v c ∧ Rd w' R ((left - c.length : Nat) : Int) m5 ∧ Rk w4 R w') := CP
                    (with_reducible refine Calls.mono CP ?_)
                    rintro e5 w5 ⟨cv, rfl, H5⟩
                    go_simp
                    have HW5 : Hid (TW w w5 R X sv gv raws (done, done2) (left - c.length) m5) := HW4.out.call H5.out.2.1 H5.out.2.2 (code_less hc).1
                    have HGB : Hid (glbR left m = some ((nm, (q : Int), c), m5)) := by show _ = _; rw [HGL.out, hc]; rfl
                    have HCV : Hid (Own EIns 53 w4.heap.size w5 (fun _ => False) cv c ∧ ∀ v ∈ (sv :: gv :: raws.map fun r => r.2.2), ∀ b, v.ownBlock = some b → b < w4.heap.size) := ⟨H5.out.1, HW4.out.tab.lt⟩
                    have hX4 := HW4.out.size
                    have hcl : c.length ≤ left := (code_less hc).2
                    obtain ⟨ca, cc, rfl⟩ := HCV.out.1.len
                    have hS5 : (fun w' : World => w'.cell? ⟨X, 1, none⟩ = some gv) w5 := heap_cl HW5.out.x rfl
                    refine hK.out _ _ (fun _ => hS5) ?_
                    clear hK K CP hS4 H5 HW4 hc HGL
                    try simp only [Act.put, List.setIfInBounds_toArray, List.set_cons_zero, List.set_cons_succ]
                    refine wpAnyK_only (i := 8) (m' := 511) (by kernel_rfl) rfl (by kernel_rfl) fun K hK => ?_
                    go_simp
                    refine hK.out _ _ (fun _ => hS5) ?_
                    clear hK K
                    try simp only [Act.put, List.setIfInBounds_toArray, List.set_cons_zero, List.set_cons_succ]
                    refine wpAnyK_only (i := 9) (m' := 1023) (by kernel_rfl) rfl (by kernel_rfl) fun K hK => ?_
                    go_simp
                    have hb5 : Below w5.heap.size w5 (w5.alloc (.cells #[.string ⟨nm.toArray⟩, .int .i64 (q : Int), .slice ca c.length cc] 51)) := (Below.refl _ _).alloc (Nat.le_refl _) _
                    refine hK.out _ _ (fun _ => heap_cl ((hb5.block X HW5.out.size).trans HW5.out.x) rfl) ?_
                    clear hK K
                    try simp only [Act.put, List.setIfInBounds_toArray, List.set_cons_zero, List.set_cons_succ]
                    refine wpAnyK_only (i := 10) (m' := 2047) (by kernel_rfl) rfl (by kernel_rfl) fun K hK => ?_
                    refine step_append_N2 (E := EGr) (B := X + 1) (S := fun _ => False) (w1 := w5) (w2 := w5) (cs := [.string ⟨nm.toArray⟩, .int .i64 (q : Int), .slice ca c.length cc]) (p := (nm, (q : Int), .slice ca c.length cc)) (l := raws) (v := gv) Tryz.ty23 rfl _ _ rfl rfl HW5.out.tab.glb (fun _ h => h.elim) HW5.out.size (Below.refl _ _) w5.heap.size rfl rfl (And.intro rfl (And.intro hnl rfl)) (by have := HI.out; have : raws.length = done2.length := HW5.out.tab.len; omega) ?_
                    intro g c6 w6 O6 H6
                    have hX6 : w6.heap[X]? = some (.cells #[sv, gv] 25 (0, 0)) := (H6.out.1.block X (Nat.lt_succ_self _)).trans HW5.out.x
                    have HW6 : Hid (TabR w6 (X + 1) sv (.slice (some ⟨g, 0, none⟩) (raws.length + 1) c6) (raws ++ [(nm, (q : Int), .slice ca c.length cc)]) (done, done2 ++ [(nm, (q : Int), c)])) := HW5.out.tab.put HCV.out.2 hX4 HCV.out.1 O6 (fun y hy hne => H6.out.2.1 y hy hne) (H6.out.2.2.1.imp (fun e => e.symm) fun e => ⟨g, rfl, e⟩)
                    refine hK.out _ _ (fun _ => heap_cl hX6 rfl) ?_
                    clear hK K
                    try simp only [Act.put, List.setIfInBounds_toArray]
                    refine wpAnyK_only (i := 11) (m' := 4095) (by kernel_rfl) rfl (by kernel_rfl) fun K hK => ?_
                    go_simp
                    refine hK.out _ _ (fun _ => heap_cl hX6 rfl) ?_
                    clear hK K
                    have f6 : w6.frozen? ⟨X, 1, none⟩ = false := heap_frozen hX6
                    have p6 : w6.cell? ⟨X, 1, none⟩ = some gv := heap_cl hX6 rfl
                    refine wpAnyK_only (i := 12) (m' := 8191) (by kernel_rfl) rfl (by kernel_rfl) fun K hK => ?_
                    go_simp
                    refine hK.out _ _ (fun h => absurd rfl h) ?_
                    clear hK K
                    have HWT : Hid (TW w (w6.setCell ⟨X, 1, none⟩ (.slice (some ⟨g, 0, none⟩) (raws.length + 1) c6)) R X sv (.slice (some ⟨g, 0, none⟩) (raws.length + 1) c6) (raws ++ [(nm, (q : Int), .slice ca c.length cc)]) (done, done2 ++ [(nm, (q : Int), c)]) (left - c.length) m5) :=
                      HW5.out.turn H6.out.1 HW6.out ((setCell_block hX6).trans rfl) ((Below.refl X w6).setCell (p := ⟨X, 1, none⟩) (Nat.le_refl X) _) (fun y hy => Below.heap_setCell _ _ _ _ hy) (by rw [World.size_setCell]; exact Nat.le_refl _)
                    clear HW5 HW6 hX6 f6 p6 O6 H6 hS5 hb5 HCV
                    refine wpAnyK_done (by kernel_rfl) ?_ _
                    generalize w6.setCell ⟨X, 1, none⟩ (.slice (some ⟨g, 0, none⟩) (raws.length + 1) c6) = w8 at *
                    go_wp2
                    go_roundw
                    case rel =>
                      refine ⟨done2 ++ [(nm, (q : Int), c)], _, _, left - c.length, m5, by rw [List.length_append]; simp only [List.length_cons, List.length_nil]; have := HI.out; omega, by omega, by rw [List.length_append]; simp only [List.length_cons, List.length_nil]; rw [← HI.out]; go_num, HWT.out, ?_⟩
                      have := glbs_go (K := fun g r => some ((done, g), r)) HTT2.out HGB.out
                      rw [show n3 - (done2 ++ [(nm, (q : Int), c)]).length = n3 - i - 1 by rw [List.length_append]; simp only [List.length_cons, List.length_nil]; have := HI.out; omega]
                      exact this
                    case measure => simp [intOf]; omega
            · have e4 : ¬ ((i : Int) < (n3 : Int)) := by omega
              have HT4 : Hid (T = some ((done, done2), m)) := by
                have := HTT.out
                rw [show n3 - done2.length = 0 by have := HI.out; omega] at this
                show _ = _
                rw [this]
                show some ((done, done2 ++ []), m) = _
                rw [List.append_nil]
              obtain ⟨g', o', cap', hRb, _⟩ := HW.out.rd
              have p2 : wr.cell? ⟨R, 0, none⟩ = some (.slice (some ⟨g', o', none⟩) m.length cap') := heap_cl hRb rfl
              clear HTT hin hRb
              by_cases hm : m = []
              · have hm0 : ¬ ((m.length : Int) > 0) := by rw [hm]; simp
                obtain ⟨sa, sc, hsv⟩ := HW.out.tab.shp.len
                obtain ⟨ga, gc, hgv⟩ := HW.out.tab.glb.len
                subst hsv
                subst hgv
                have x0 : wr.cell? ⟨X, 0, none⟩ = some _ := heap_cl HW.out.x rfl
                have x1 : wr.cell? ⟨X, 1, none⟩ = some _ := heap_cl HW.out.x rfl
                have f0 : wr.frozen? ⟨w.heap.size, 0, none⟩ = false := heap_frozen HW.out.z
                have f1 : wr.frozen? ⟨w.heap.size, 1, none⟩ = false := heap_frozen HW.out.z
                have z0 : wr.cell? ⟨w.heap.size, 0, none⟩ = some (.slice none 0 0) := heap_cl HW.out.z rfl
                have z1 : wr.cell? ⟨w.heap.size, 1, none⟩ = some (.slice none 0 0) := heap_cl HW.out.z rfl
                go_wp2
                obtain ⟨E1, E2, E3, E4⟩ := HW.out.fin
                exact bodyPost_ret (res64 rfl E1 E2) rfl (HFS.out _ _ _ _ _ _ (by rw [HT4.out, hm]) rfl E3 E4)
              · have hm0 : ((m.length : Int) > 0) := by have := List.length_pos_iff.2 hm; omega
                go_wp2_with (go_at_call 90; (with_reducible refine Calls.mono (CG _) ?_); rintro e7 w7 ⟨rfl, hw⟩; obtain rfl := hw.symm; clear hw)
                exact ⟨rfl, HFO.out _ _ _ _ HT4.out hm rfl HW.out.rk⟩
end Go.Proofs.YtlpnegnpejpdkaaGreatDoor
