/- The reference's looks at a type: contracts of form, Nodes, Wrong. The reference's looks at a type: contracts of Nodes, Wrong. The reference's text of a type: contracts of text and Print. The reference's reading of a type, its small parts: contracts of begins, word, leaf. The reference's reading of a type: contract of leaf; what a reading of a type is. What a reading of a type is: where one begins, where its arguments end; nothing of the program stands here. -/
import Derived.Test.YtgdflaapgfpdeaaGreatDoorXa
import Derived.Test.YtgdflaapgfpdeaaGreatDoorTl
import Derived.Deep.CutBlock
namespace Go.Proofs.YtgdflaapgfpdeaaGreatDoor
open Go.RowKit

set_option maxHeartbeats 8000000 in
set_option maxRecDepth 10000 in
theorem form_step (d : Nat) (IH : ∀ (x : Value) (t : Tn d) (w : World) (B : Nat), B ≤ w.heap.size → TyAt w B d x t →
    Calls Tryz.prog 58 #[x] w fun r w' => r = .returned (.bool (formB d t)) ∧ Below w.heap.size w w') : ∀ (x : Value) (t : Tn (d + 1)) (w : World) (B : Nat), B ≤ w.heap.size → TyAt w B (d + 1) x t →
    Calls Tryz.prog 58 #[x] w fun r w' => r = .returned (.bool (formB (d + 1) t)) ∧ Below w.heap.size w w'
  | x, ((k, n), ts), w, B, hB, ⟨v, hx, h1, h2, h⟩ => by
    simp only at hx h1 h2 h
    subst hx
    obtain ⟨ad, cap, rfl, hrow⟩ := h.cells
    rw [form_succ]
    have CV := fun W => ref_variable ⟨n.toArray⟩ W (by show n.toArray.size < _; simpa using h1)
    have CD := fun W => ref_data ⟨n.toArray⟩ W (by show n.toArray.size < _; simpa using h1)
    have HN : Hid ((⟨n.toArray⟩ : ByteArray).toList = n) := bytes_list n
    rw [show (⟨n.toArray⟩ : ByteArray).data.toList = n by simp] at CV CD
    generalize hok : okB k n ts.length = ok
    have HO : Hid (okB k n ts.length = ok) := hok
    generalize hR : (ok && ts.all (formB d)) = R
    have HR : Hid ((ok && ts.all (formB d)) = R) := hR
    clear hR hok
    generalize hs : (⟨n.toArray⟩ : ByteArray) = s at CV CD HN ⊢
    clear hs
    obtain ⟨W, hW, hbW, hsW, b0, b1, b2⟩ := cells_box w (.int .i64 k) (.string s) (.slice ad ts.length cap) 24
    have HW : Hid (Below w.heap.size w W) := hbW
    have HS : Hid (W.heap.size = w.heap.size + 1) := hsW
    have HB : Hid (B ≤ w.heap.size) := hB
    have HC : Hid (ts ≠ [] → ∃ g o, ad = some ⟨g, o, none⟩ ∧ ts.length ≤ cap ∧ g < B ∧
      ∀ j (h : j < ts.length), ∃ k n ad' len' cap', (∀ w', Below B w w' → w'.cell? ⟨g, o + j * 3, none⟩ = some (.int .i64 k) ∧ w'.cell? ⟨g, o + j * 3 + 1, none⟩ = some (.string n) ∧ w'.cell? ⟨g, o + j * 3 + 2, none⟩ = some (.slice ad' len' cap')) ∧ TyAt w B d (.agg #[.int .i64 k, .string n, .slice ad' len' cap']) ts[j]) := hrow
    clear hrow h hB h1
    go_enter Tryz.func58, Tryz.ntmps58
    go_upto_block 0 with fail
    rw [← hW]
    generalize hz : w.heap.size = z at b0 b1 b2 ⊢
    have HZ : Hid (w.heap.size = z) := hz
    clear hW hbW hsW hz
    go_cut [3] from 4 (fun b wc => b = .bool ok ∧ wc = W)
    case first =>
      have HO := HO.out
      have HNo := HN.out
      unfold okB at HO
      have he : s.toList.isEmpty = n.isEmpty := by rw [HNo]
      have he2 : (s.toList == []) = n.isEmpty := by rw [HNo]; cases n <;> rfl
      generalize hne : n.isEmpty = ne at HO he he2
      generalize varB n = vb at HO CV
      generalize dataB n = db at HO CD
      have hnl : ne = true → s.toList = [] := fun h => by rw [h] at hne; rw [HNo]; simpa using hne
      have hnl2 : ne = false → ¬ s.toList = [] := fun h => by rw [h] at hne; rw [HNo]; simpa using hne
      clear HNo IH
      by_cases k1 : k = 1
      · rw [if_pos k1] at HO
        have H1 : Hid ((ne && decide (ts.length = 0)) = ok) := HO
        clear HO
        subst k1
        by_cases hl : ts.length = 0
        · have hl' : ((ts.length : Int) == 0) = true := by rw [hl]; rfl
          replace hl : Hid (ts.length = 0) := hl
          cases ne
          · have q1 := hnl2 rfl
            clear hnl hnl2
            go_wp2
            go_meet
            exact ⟨by rw [← H1.out]; rfl, rfl⟩
          · have q1 := hnl rfl
            clear hnl hnl2
            go_wp2
            go_meet
            exact ⟨by rw [← H1.out]; simp [hl.out] <;> omega, rfl⟩
        · have hl' : ((ts.length : Int) == 0) = false := by rw [beq_eq_false_iff_ne]; omega
          replace hl : Hid (¬ ts.length = 0) := hl
          cases ne
          · have q1 := hnl2 rfl
            clear hnl hnl2
            go_wp2
            go_meet
            exact ⟨by rw [← H1.out]; rfl, rfl⟩
          · have q1 := hnl rfl
            clear hnl hnl2
            go_wp2
            go_meet
            exact ⟨by rw [← H1.out]; simp [hl.out] <;> omega, rfl⟩
      rw [if_neg k1] at HO
      by_cases k2 : k = 2
      · rw [if_pos k2] at HO
        have H1 : Hid ((vb && decide (ts.length = 0)) = ok) := HO
        clear HO hnl hnl2 he he2
        subst k2
        by_cases hl : ts.length = 0
        · have hl' : ((ts.length : Int) == 0) = true := by rw [hl]; rfl
          replace hl : Hid (ts.length = 0) := hl
          cases vb
          all_goals
            go_wp2_with (go_at_call 69; (with_reducible refine Calls.mono (CV _) ?_); rintro e w' ⟨rfl, rfl⟩)
            go_meet
            exact ⟨by rw [← H1.out]; simp [hl.out] <;> omega, rfl⟩
        · have hl' : ((ts.length : Int) == 0) = false := by rw [beq_eq_false_iff_ne]; omega
          replace hl : Hid (¬ ts.length = 0) := hl
          cases vb
          all_goals
            go_wp2_with (go_at_call 69; (with_reducible refine Calls.mono (CV _) ?_); rintro e w' ⟨rfl, rfl⟩)
            go_meet
            exact ⟨by rw [← H1.out]; simp [hl.out] <;> omega, rfl⟩
      rw [if_neg k2] at HO
      by_cases k3 : k = 3
      · rw [if_pos k3] at HO
        have H1 : Hid ((ne && decide (ts.length = 2)) = ok) := HO
        clear HO
        subst k3
        by_cases hl : ts.length = 2
        · have hl' : ((ts.length : Int) == 2) = true := by simp; omega
          replace hl : Hid (ts.length = 2) := hl
          cases ne
          · have q1 := hnl2 rfl
            clear hnl hnl2
            go_wp2
            go_meet
            exact ⟨by rw [← H1.out]; rfl, rfl⟩
          · have q1 := hnl rfl
            clear hnl hnl2
            go_wp2
            go_meet
            exact ⟨by rw [← H1.out]; simp [hl.out] <;> omega, rfl⟩
        · have hl' : ((ts.length : Int) == 2) = false := by simp; omega
          replace hl : Hid (¬ ts.length = 2) := hl
          cases ne
          · have q1 := hnl2 rfl
            clear hnl hnl2
            go_wp2
            go_meet
            exact ⟨by rw [← H1.out]; rfl, rfl⟩
          · have q1 := hnl rfl
            clear hnl hnl2
            go_wp2
            go_meet
            exact ⟨by rw [← H1.out]; simp [hl.out] <;> omega, rfl⟩
      rw [if_neg k3] at HO
      by_cases k4 : k = 4
      · rw [if_pos k4] at HO
        have H1 : Hid ((db && decide (ts.length ≤ 6)) = ok) := HO
        clear HO hnl hnl2 he he2
        subst k4
        by_cases hl : ts.length ≤ 6
        · have hl' : (ts.length : Int) ≤ 6 := by omega
          replace hl : Hid (ts.length ≤ 6) := hl
          cases db
          all_goals
            go_wp2_with (go_at_call 70; (with_reducible refine Calls.mono (CD _) ?_); rintro e w' ⟨rfl, rfl⟩)
            go_meet
            exact ⟨by rw [← H1.out]; simp [hl.out] <;> omega, rfl⟩
        · have hl' : ¬ (ts.length : Int) ≤ 6 := by omega
          replace hl : Hid (¬ ts.length ≤ 6) := hl
          cases db
          all_goals
            go_wp2_with (go_at_call 70; (with_reducible refine Calls.mono (CD _) ?_); rintro e w' ⟨rfl, rfl⟩)
            go_meet
            exact ⟨by rw [← H1.out]; simp [hl.out] <;> omega, rfl⟩
      rw [if_neg k4] at HO
      have H1 : Hid (false = ok) := HO
      clear HO hnl hnl2 he he2
      go_wp2
      go_meet
      exact ⟨by rw [← H1.out], rfl⟩
    case rest =>
      obtain ⟨rfl, rfl⟩ := hcut
      clear CV CD
      go_wp2
      go_loopw [3, 6] (fun b i wr => ∃ (j : Nat) (c : Bool), j ≤ ts.length ∧ i = .int .i64 j ∧ b = .bool c ∧ Below (z + 1) wc wr ∧ Hid ((c && (ts.drop j).all (formB d)) = R)) (fun _ i _ => ts.length - (intOf i).toNat)
      case atStart => exact ⟨0, ok, by omega, by go_num, rfl, Below.refl _ _, HR.out⟩
      case round =>
        obtain ⟨j, c, hj, rfl, rfl, hbel, HJ⟩ := hrel
        have x2 := (hbel.cell (p := ⟨z, 2, none⟩) (by simp)).trans b2
        by_cases hlt : j < ts.length
        · cases c with
          | true =>
            obtain ⟨g, o, rfl, hcap, hg, hel⟩ := HC.out (by intro h; rw [h] at hlt; simp at hlt)
            obtain ⟨k1, n1, ad1, l1, cp1, hcel, T1⟩ := hel j hlt
            have hzB : B ≤ z := by have := HB.out; have := HZ.out; omega
            have hwz : Below z w wr := by
              have := HW.out
              rw [HZ.out] at this
              exact this.trans (hbel.mono (by omega))
            obtain ⟨p0, p1, p2⟩ := hcel wr (hwz.mono hzB)
            have hzr : z + 1 ≤ wr.heap.size := by have := hbel.size; have := HS.out; have := HZ.out; omega
            have CJ := IH _ _ wr B (by omega) (T1.on (hwz.mono hzB))
            have HN2 : Hid ((formB d ts[j] && (ts.drop (j + 1)).all (formB d)) = R) := by
              show _ = R
              rw [← HJ.out, drop_all' hlt, Bool.true_and]
            generalize formB d ts[j] = c2 at CJ HN2
            have i1 : (0 : Int) ≤ (j : Int) := by omega
            have i2 : (j : Int) < (ts.length : Int) := by omega
            have hjl : j + 1 ≤ ts.length := hlt
            clear T1 IH b0 b1 b2 hcel hel HJ
            go_wp2_with (go_at_call 58; (with_reducible refine Calls.mono CJ ?_); rintro e' w1 ⟨rfl, hb1⟩)
            have hb2 : Below (z + 1) wc w1 := hbel.trans (hb1.mono hzr)
            go_roundw
            case rel => exact ⟨j + 1, c2, hjl, by go_num, rfl, hb2, HN2⟩
            case measure => simp [intOf]; omega
          | false =>
            have HF : Hid (false = R) := by rw [← HJ.out, Bool.false_and]; rfl
            clear IH
            go_wp2
            go_ret
            exact ⟨ret_bool HF.out, by have h := HW.out; rw [HZ.out] at h ⊢; exact h.trans (hbel.mono (by omega))⟩
        · have HF : Hid (c = R) := by rw [← HJ.out, List.drop_eq_nil_of_le (by omega), List.all_nil, Bool.and_true]; rfl
          clear IH
          go_wp2
          go_ret
          exact ⟨ret_bool HF.out, by have h := HW.out; rw [HZ.out] at h ⊢; exact h.trans (hbel.mono (by omega))⟩
theorem form_any : ∀ (d : Nat) (x : Value) (t : Tn d) (w : World) (B : Nat), B ≤ w.heap.size → TyAt w B d x t →
    Calls Tryz.prog 58 #[x] w fun r w' => r = .returned (.bool (formB d t)) ∧ Below w.heap.size w w'
  | 0, _, _, _, _, _, h => h.elim
  | d + 1, x, t, w, B, hB, h => form_step d (form_any d) x t w B hB h
end Go.Proofs.YtgdflaapgfpdeaaGreatDoor

namespace Go.Proofs.YtgdflaapgfpdeaaGreatDoor
open Go.RowKit

set_option maxHeartbeats 4000000 in
set_option maxRecDepth 10000 in
theorem nodes_step (d : Nat) (IH : ∀ (x : Value) (t : Tn d) (w : World) (B : Nat), B ≤ w.heap.size → TyAt w B d x t → (flat d t).length ≤ 4194304 →
    Calls Tryz.prog 59 #[x] w fun r w' => r = .returned (.int .i64 (flat d t).length) ∧ Below w.heap.size w w') : ∀ (x : Value) (t : Tn (d + 1)) (w : World) (B : Nat), B ≤ w.heap.size → TyAt w B (d + 1) x t → (flat (d + 1) t).length ≤ 4194304 →
    Calls Tryz.prog 59 #[x] w fun r w' => r = .returned (.int .i64 (flat (d + 1) t).length) ∧ Below w.heap.size w w'
  | x, ((k, n), ts), w, B, hB, ⟨v, hx, h1, h2, h⟩, hN => by
    simp only at hx h1 h2 h
    subst hx
    obtain ⟨ad, cap, rfl, hrow⟩ := h.cells
    rw [flat_succ, List.length_cons] at hN ⊢
    generalize hR : (flats d ts).length + 1 = R at hN ⊢
    have HR : Hid (1 + (flats d ts).length = R) := by show _ = R; omega
    obtain ⟨W, hW, hbW, hsW, b0, b1, b2⟩ := cells_box w (.int .i64 k) (.string ⟨n.toArray⟩) (.slice ad ts.length cap) 24
    have HW : Hid (Below w.heap.size w W) := hbW
    have HS : Hid (W.heap.size = w.heap.size + 1) := hsW
    have HB : Hid (B ≤ w.heap.size) := hB
    have HC : Hid (ts ≠ [] → ∃ g o, ad = some ⟨g, o, none⟩ ∧ ts.length ≤ cap ∧ g < B ∧
      ∀ j (h : j < ts.length), ∃ k n ad' len' cap', (∀ w', Below B w w' → w'.cell? ⟨g, o + j * 3, none⟩ = some (.int .i64 k) ∧ w'.cell? ⟨g, o + j * 3 + 1, none⟩ = some (.string n) ∧ w'.cell? ⟨g, o + j * 3 + 2, none⟩ = some (.slice ad' len' cap')) ∧ TyAt w B d (.agg #[.int .i64 k, .string n, .slice ad' len' cap']) ts[j]) := hrow
    clear hrow h hB h1 hR
    go_enter Tryz.func59, Tryz.ntmps59
    go_wp2
    rw [← hW]
    generalize hz : w.heap.size = z at b0 b1 b2 ⊢
    have HZ : Hid (w.heap.size = z) := hz
    clear hW hbW hsW hz
    go_loopw [3, 4] (fun b i wr => ∃ (j N : Nat), j ≤ ts.length ∧ i = .int .i64 j ∧ b = .int .i64 N ∧ Below (z + 1) W wr ∧ Hid (N + (flats d (ts.drop j)).length = R)) (fun _ i _ => ts.length - (intOf i).toNat)
    case atStart => exact ⟨0, 1, by omega, by go_num, by go_num, Below.refl _ _, HR.out⟩
    case round =>
      obtain ⟨j, N, hj, rfl, rfl, hbel, HJ⟩ := hrel
      have x2 := (hbel.cell (p := ⟨z, 2, none⟩) (by simp)).trans b2
      by_cases hlt : j < ts.length
      · obtain ⟨g, o, rfl, hcap, hg, hel⟩ := HC.out (by intro h; rw [h] at hlt; simp at hlt)
        obtain ⟨k1, n1, ad1, l1, cp1, hcel, T1⟩ := hel j hlt
        have hzB : B ≤ z := by have := HB.out; have := HZ.out; omega
        have hwz : Below z w wr := by
          have := HW.out
          rw [HZ.out] at this
          exact this.trans (hbel.mono (by omega))
        obtain ⟨p0, p1, p2⟩ := hcel wr (hwz.mono hzB)
        have hzr : z + 1 ≤ wr.heap.size := by have := hbel.size; have := HS.out; have := HZ.out; omega
        have HN2 : Hid (N + (flat d ts[j]).length + (flats d (ts.drop (j + 1))).length = R) := by
          show _ = R
          rw [← HJ.out, List.drop_eq_getElem_cons hlt, flats_cons, List.length_append]
          omega
        have hsm : N + (flat d ts[j]).length ≤ 4194304 := by have := HN2.out; omega
        have CJ := IH _ _ wr B (by omega) (T1.on (hwz.mono hzB)) (by omega)
        generalize (flat d ts[j]).length = m at CJ HN2 hsm
        have i1 : (0 : Int) ≤ (j : Int) := by omega
        have i2 : (j : Int) < (ts.length : Int) := by omega
        have hjl : j + 1 ≤ ts.length := hlt
        clear T1 IH b0 b1 b2 hcel hel HJ hN
        go_wp2_with (go_at_call 59; (with_reducible refine Calls.mono CJ ?_); rintro e' w1 ⟨rfl, hb1⟩)
        have hb2 : Below (z + 1) W w1 := hbel.trans (hb1.mono hzr)
        go_roundw
        case rel => exact ⟨j + 1, N + m, hjl, by go_num, by go_num, hb2, HN2⟩
        case measure => simp [intOf]; omega
      · have HF : Hid (R = N) := by
          show R = N
          have := HJ.out
          rw [List.drop_eq_nil_of_le (by omega)] at this
          simpa [flats] using this.symm
        clear IH
        go_wp2
        go_ret
        exact ⟨by rw [HF.out]; rfl, by have h := HW.out; rw [HZ.out] at h ⊢; exact h.trans (hbel.mono (by omega))⟩
theorem nodes_any : ∀ (d : Nat) (x : Value) (t : Tn d) (w : World) (B : Nat), B ≤ w.heap.size → TyAt w B d x t → (flat d t).length ≤ 4194304 →
    Calls Tryz.prog 59 #[x] w fun r w' => r = .returned (.int .i64 (flat d t).length) ∧ Below w.heap.size w w'
  | 0, _, _, _, _, _, h, _ => h.elim
  | d + 1, x, t, w, B, hB, h, hN => nodes_step d (nodes_any d) x t w B hB h hN
set_option maxHeartbeats 4000000 in
set_option maxRecDepth 10000 in
theorem wrong_any (d : Nat) (x : Value) (t : Tn d) (w : World) (B : Nat) (hB : B ≤ w.heap.size) (h : TyAt w B d x t) (hN : (flat d t).length ≤ 4194304) :
    Calls Tryz.prog 45 #[x] w fun r w' => r = .returned (.int .i64 (wrongT d t)) ∧ Below w.heap.size w w' := by
  obtain ⟨d, rfl⟩ : ∃ e, d = e + 1 := by
    cases d with
    | zero => exact h.elim
    | succ e => exact ⟨e, rfl⟩
  have CF := fun W (hb : Below w.heap.size w W) => form_any _ x t W B (Nat.le_trans hB hb.size) (h.on (hb.mono hB))
  have CN := fun W (hb : Below w.heap.size w W) => nodes_any _ x t W B (Nat.le_trans hB hb.size) (h.on (hb.mono hB)) hN
  unfold wrongT
  generalize formB (d + 1) t = fb at CF ⊢
  generalize (flat (d + 1) t).length = nn at CN ⊢ hN
  obtain ⟨v, hx, h1, h2, h⟩ := h
  subst hx
  obtain ⟨ad, cap, rfl⟩ := h.len
  generalize t.1.1 = k at *
  generalize t.1.2 = n at *
  generalize t.2.length = len at *
  clear h
  obtain ⟨W, hW, hbW, hsW, b0, b1, b2⟩ := cells_box w (.int .i64 k) (.string ⟨n.toArray⟩) (.slice ad len cap) 24
  have CF := CF W hbW
  have HW : Hid (Below w.heap.size w W) := hbW
  have HS : Hid (W.heap.size = w.heap.size + 1) := hsW
  have HH : Hid (W = w.alloc (Obj.cells #[.int .i64 k, .string ⟨n.toArray⟩, .slice ad len cap] 24)) := hW
  have HX : Hid (∀ w1, Below W.heap.size W w1 → Below w.heap.size w w1) := fun w1 h1 => HW.out.trans (h1.mono (by have := HS.out; omega))
  clear hbW hsW
  cases fb with
  | false =>
    clear CN
    go_enter Tryz.func45, Tryz.ntmps45
    rw [hW] at CF
    go_wp2_with (go_at_call 58; (with_reducible refine Calls.mono CF ?_); rintro e' w1 ⟨rfl, hb1⟩)
    go_ret
    exact ⟨rfl, HX.out _ (by rw [HH.out]; exact hb1)⟩
  | true =>
    have X1 : ∀ w1, Below W.heap.size W w1 → w1.cell? ⟨w.heap.size, 0, none⟩ = some (.int .i64 k) ∧ w1.cell? ⟨w.heap.size, 1, none⟩ = some (.string ⟨n.toArray⟩) ∧ w1.cell? ⟨w.heap.size, 2, none⟩ = some (.slice ad len cap) := fun w1 hb => by
      have := HS.out
      exact ⟨(hb.cell (by simp; omega)).trans b0, (hb.cell (by simp; omega)).trans b1, (hb.cell (by simp; omega)).trans b2⟩
    have CN2 := fun w1 (hb : Below W.heap.size W w1) => CN w1 (HX.out w1 hb)
    rw [hW] at CF X1 CN2
    by_cases hbig : 500 < nn
    · rw [if_pos rfl, if_pos hbig]
      clear CN b0 b1 b2 hW
      go_enter Tryz.func45, Tryz.ntmps45
      go_wp2_with (first
        | (go_at_call 58; (with_reducible refine Calls.mono CF ?_); rintro e' w1 ⟨rfl, hb1⟩; obtain ⟨y0, y1, y2⟩ := X1 w1 hb1)
        | (go_at_call 59; (with_reducible refine Calls.mono (CN2 _ hb1) ?_); rintro e' w2 ⟨rfl, hb2⟩))
      go_ret
      exact ⟨rfl, (HX.out _ (by rw [HH.out]; exact hb1)).trans (hb2.mono (by have := hb1.size; simp at this; omega))⟩
    · rw [if_pos rfl, if_neg hbig]
      clear CN b0 b1 b2 hW
      go_enter Tryz.func45, Tryz.ntmps45
      go_wp2_with (first
        | (go_at_call 58; (with_reducible refine Calls.mono CF ?_); rintro e' w1 ⟨rfl, hb1⟩; obtain ⟨y0, y1, y2⟩ := X1 w1 hb1)
        | (go_at_call 59; (with_reducible refine Calls.mono (CN2 _ hb1) ?_); rintro e' w2 ⟨rfl, hb2⟩))
      go_ret
      exact ⟨rfl, (HX.out _ (by rw [HH.out]; exact hb1)).trans (hb2.mono (by have := hb1.size; simp at this; omega))⟩
end Go.Proofs.YtgdflaapgfpdeaaGreatDoor

namespace Go.Proofs.YtgdflaapgfpdeaaGreatDoor
open Go.RowKit

end Go.Proofs.YtgdflaapgfpdeaaGreatDoor

namespace Go.Proofs.YtgdflaapgfpdeaaGreatDoor
open Go.RowKit

end Go.Proofs.YtgdflaapgfpdeaaGreatDoor

namespace Go.Proofs.YtgdflaapgfpdeaaGreatDoor
open Go.RowKit

end Go.Proofs.YtgdflaapgfpdeaaGreatDoor

namespace Go.Proofs.YtgdflaapgfpdeaaGreatDoor

end Go.Proofs.YtgdflaapgfpdeaaGreatDoor
