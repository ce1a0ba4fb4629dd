/- The reference's Apply: its contract. -/
import Derived.Test.YthcejnpknjepfaaGreatMox
import Derived.Deep.QuietTactic
import Derived.BigQuiet
namespace Go.Proofs.YthcejnpknjepfaaGreat
open Go.RowKit

/-- find among the bounds ahead. -/
theorem BdAt.findTo {w : World} {B g o cap : Nat} {bs : List Bd} (x : List UInt8) (h : BdAt w B (.slice (some ⟨g, o, none⟩) bs.length cap) bs) (j : Nat) (hj : j < bs.length) : Calls Tryz.prog 58 #[.slice (some ⟨g, o, none⟩) j cap, strV x] w fun r w' => r = .returned (.int .i64 (findI ((bs.take j).map (·.1)) x)) ∧ w' = w := by
  have hl : ((bs.take j).map (·.1)).length = j := by rw [List.length_map, List.length_take]; omega
  have := find_some ((bs.take j).map (·.1)) x g o cap w (by rw [hl]; obtain ⟨_, _, _, h1, _⟩ := h; omega) fun i hi => by
    rw [hl] at hi
    rw [List.getElem_map, List.getElem_take]
    obtain ⟨g', o', cap', k, n, ad, len, cp, hv, _, _, _, hc, _⟩ := h.type i (by omega)
    simp only [Value.slice.injEq, Option.some.injEq, Addr.mk.injEq, and_true, true_and] at hv
    obtain ⟨⟨rfl, rfl⟩, rfl⟩ := hv
    exact (hc w (Below.refl _ _)).1
  rw [hl] at this
  exact this
theorem find_at {ns : List (List UInt8)} {x : List UInt8} : decide (0 ≤ findI ns x) = decide (x ∈ ns) := by
  induction ns with
  | nil => rfl
  | cons a r ih =>
    unfold findI at ih ⊢
    rw [idxN, List.length_cons]
    by_cases e : a = x
    · rw [if_pos e]; simp [e]
    · rw [if_neg e]
      have : (x ∈ a :: r) ↔ x ∈ r := ⟨fun h => by
        rcases List.mem_cons.1 h with h | h
        · exact absurd h.symm e
        · exact h, List.mem_cons_of_mem _⟩
      rw [decide_eq_decide.2 this, ← ih]
      by_cases h : idxN r x < r.length
      · rw [if_pos h, if_pos (by omega)]
        simp
        omega
      · rw [if_neg h, if_neg (by omega)]
set_option maxHeartbeats 16000000 in
set_option maxRecDepth 10000 in
theorem apply_ref (bs : List Bd) (bv : Value) (d : Nat) (x : Value) (t : Tn d) (w : World) (B : Nat) (hB : B ≤ w.heap.size) (hv : BdAt w B bv bs) (hx : TyAt w B d x t) (hM : ∀ x ∈ bs, (flat x.2.1 x.2.2).length ≤ 4194304) (hN : (flat d t).length ≤ 4194304) :
    Calls Tryz.prog 39 #[bv, x] w (ApPost bs d t w) := by
  obtain ⟨k, n, ad, len, cap, rfl⟩ := tree_form hx
  obtain ⟨W, hW⟩ : ∃ W, W = (w.alloc (Obj.cells #[.int .i64 k, .string n, .slice ad len cap] 25)).alloc (Obj.cells #[.int .i64 0, .string ⟨#[]⟩, .slice none 0 0] 25) := ⟨_, rfl⟩
  have hbW : Below w.heap.size w W := by rw [hW]; exact ((Below.refl _ _).alloc (Nat.le_refl _) _).alloc (by simp) _
  have hsW : W.heap.size = w.heap.size + 2 := by rw [hW]; simp
  have arg : W.heap[w.heap.size]? = some (.cells #[.int .i64 k, .string n, .slice ad len cap] 25 (0, 0)) := by
    rw [hW, Below.heap_alloc _ _ _ (by simp)]
    show (w.heap.push _)[w.heap.size]? = _
    simp
  have res : W.heap[w.heap.size + 1]? = some (.cells #[.int .i64 0, .string ⟨#[]⟩, .slice none 0 0] 25 (0, 0)) := by
    rw [hW]
    show ((w.heap.push _).push _)[w.heap.size + 1]? = _
    rw [Array.getElem?_push, if_pos (by simp)]
  have HX : Hid (∀ w1, Below W.heap.size W w1 → Below w.heap.size w w1 ∧ w1.heap[w.heap.size]? = some (.cells #[.int .i64 k, .string n, .slice ad len cap] 25 (0, 0)) ∧ w1.heap[w.heap.size + 1]? = some (.cells #[.int .i64 0, .string ⟨#[]⟩, .slice none 0 0] 25 (0, 0))) := fun w1 hb => ⟨hbW.trans (hb.mono hbW.size), (hb.block _ (lt_of_heap arg)).trans arg, (hb.block _ (lt_of_heap res)).trans res⟩
  have HV : Hid (∀ w1, Below W.heap.size W w1 → B ≤ w1.heap.size ∧ BdAt w1 B bv bs ∧ TyAt w1 B d (.agg #[.int .i64 k, .string n, .slice ad len cap]) t) := fun w1 hb => by
    have hb2 := hbW.trans (hb.mono hbW.size)
    exact ⟨Nat.le_trans hB hb2.size, hv.below (hb2.mono hB) (Nat.le_refl _), hx.on (hb2.mono hB)⟩
  have HM : Hid (∀ x ∈ bs, (flat x.2.1 x.2.2).length ≤ 4194304) := hM
  have HNN : Hid ((flat d t).length ≤ 4194304) := hN
  -- how it ends where something is wrong
  have BAD : Hid (∀ (w1 : World) (c : Int), Below W.heap.size W w1 → applyE bs d t = c → c ≠ 0 → ∃ V, V = ((w1.setCell ⟨w.heap.size + 1, 0, none⟩ (.int .i64 0)).setCell ⟨w.heap.size + 1, 1, none⟩ (.string ⟨#[]⟩)).setCell ⟨w.heap.size + 1, 2, none⟩ (.slice none 0 0) ∧ (V.cell? ⟨w.heap.size + 1, 0, none⟩ = some (.int .i64 0) ∧ V.cell? ⟨w.heap.size + 1, 1, none⟩ = some (.string ⟨#[]⟩) ∧ V.cell? ⟨w.heap.size + 1, 2, none⟩ = some (.slice none 0 0)) ∧ ApPost bs d t w (.returned (.tuple #[.agg #[.int .i64 0, .string ⟨#[]⟩, .slice none 0 0], .int .i64 c])) V) := fun w1 c hb he h0 => by
    obtain ⟨h1, _, h3⟩ := HX.out w1 hb
    obtain ⟨V, hV, hv1, hoth, hszV, hbV⟩ := store3 h3 (.int .i64 0) (.string ⟨#[]⟩) (.slice none 0 0)
    exact ⟨V, hV, heap_cells hv1, ApPost.bad (h1.trans (hbV.mono (by omega))) c he h0⟩
  obtain ⟨adv, capv, rfl, hlv, _⟩ := id hv
  have HW0 : Hid (Below W.heap.size W W) := Below.refl _ _
  obtain ⟨r0, r1, r2⟩ := heap_cells res
  have g0 := heap_frozen (o := 0) res
  have g1 := heap_frozen (o := 1) res
  have g2 := heap_frozen (o := 2) res
  clear hx hv hM hN hB hbW arg res
  by_cases hlong : 100000 < bs.length
  · have hE : applyE bs d t = 2 := by unfold applyE; rw [if_pos hlong]
    obtain ⟨V, hV, hc, HP⟩ := BAD.out W 2 HW0.out hE (by omega)
    have HP : Hid (ApPost bs d t w (.returned (.tuple #[.agg #[.int .i64 0, .string ⟨#[]⟩, .slice none 0 0], .int .i64 2])) V) := HP
    have hlong' : (100000 : Int) < (bs.length : Int) := by omega
    clear hsW HX HV HM HNN BAD hE
    go_enter Tryz.func39, Tryz.ntmps39
    go_upto_region 1 with fail
    rw [← hW]
    generalize hz : w.heap.size = z at r0 r1 r2 g0 g1 g2 hc hV ⊢
    clear hW hz
    go_wp2
    rw [← hV]
    obtain ⟨s0, s1, s2⟩ := hc
    exact bodyPost_ret (v := .tuple #[.agg #[.int .i64 0, .string ⟨#[]⟩, .slice none 0 0], .int .i64 2]) (by simp [results, Tryz.results39, go_sem, s0, s1, s2]) rfl HP.out
  · have hlong' : ¬ (100000 : Int) < (bs.length : Int) := by omega
    have hl5 : bs.length ≤ 100000 := by omega
    clear r0 r1 r2 g0 g1 g2
    go_enter Tryz.func39, Tryz.ntmps39
    go_upto_region 1 with fail
    rw [← hW]
    generalize hz : w.heap.size = z
    have HZ : Hid (w.heap.size = z) := hz
    clear hW hz
    go_wp2_with fail
    go_loopw [6] (fun i wr => ∃ j : Nat, j ≤ bs.length ∧ i = .int .i64 j ∧ Hid (Below W.heap.size W wr ∧ valE bs j = 0)) (fun i _ => bs.length - (intOf i).toNat)
    case atStart => exact ⟨0, by omega, by go_num, HW0.out, rfl⟩
    case round =>
      obtain ⟨j, hj, rfl, HP⟩ := hrel
      have hzz := HZ.out
      by_cases hlt : j < bs.length
      · obtain ⟨hbw, hv0⟩ := HP.out
        obtain ⟨hBw, hvw, hxw⟩ := HV.out wr hbw
        obtain ⟨g, o, cap', k1, n1, ad1, len1, cap1, hve, hbl, hgB, hnl, hc, hT⟩ := hvw.type j hlt
        simp only [Value.slice.injEq, true_and] at hve
        obtain ⟨rfl, rfl⟩ := hve
        obtain ⟨p0, p1, p2, p3⟩ := hc wr (Below.refl _ _)
        have CV := ref_variable ⟨bs[j].1.toArray⟩ wr (by show bs[j].1.toArray.size < _; simpa using hnl)
        rw [show (⟨bs[j].1.toArray⟩ : ByteArray).data.toList = bs[j].1 from rfl] at CV
        have CF : ∀ q, Calls Tryz.prog 58 #[.slice (some ⟨g, o, none⟩) j capv, strV bs[j].1] (wr.drewN q) fun r w' => r = .returned (.int .i64 (findI ((bs.take j).map (·.1)) bs[j].1)) ∧ w' = wr.drewN q := fun q => (hvw.below (w' := wr.drewN q) (B' := B) ⟨rfl, rfl, rfl, Nat.le_refl _, fun _ _ => rfl⟩ (Nat.le_refl _)).findTo bs[j].1 j hlt
        have i1 : (0 : Int) ≤ (j : Int) := by omega
        have i2 : (j : Int) < (bs.length : Int) := by omega
        have i3 : (j : Int) ≤ (capv : Int) := by omega
        have HBW : Hid (Below W.heap.size W wr ∧ valE bs j = 0) := HP.out
        have HCW : Hid (∀ q, Calls Tryz.prog 34 #[.agg #[.int .i64 k1, .string n1, .slice ad1 len1 cap1]] (wr.drewN q) fun r w' => r = .returned (.int .i64 (wrongT bs[j].2.1 bs[j].2.2)) ∧ Below wr.heap.size wr w') := fun q => by
          refine Calls.mono (wrong_any _ _ bs[j].2.2 (wr.drewN q) B hBw (hT.on (w' := wr.drewN q) ⟨rfl, rfl, rfl, Nat.le_refl _, fun _ _ => rfl⟩) (HM.out _ (List.getElem_mem hlt))) ?_
          rintro r w' ⟨h1, h2⟩
          exact ⟨h1, ⟨h2.os, h2.tape, h2.output, h2.size, h2.block⟩⟩
        have HBA : Hid (badAt bs j = if varB bs[j].1 = true ∧ bs[j].1 ∉ (bs.take j).map (·.1) then wrongT bs[j].2.1 bs[j].2.2 else 53) := badAt_of hlt
        have hfa : decide (0 ≤ findI ((bs.take j).map (·.1)) bs[j].1) = decide (bs[j].1 ∈ (bs.take j).map (·.1)) := find_at
        generalize findI ((bs.take j).map (·.1)) bs[j].1 = fi at *
        clear hvw hxw hT hc hv0 hbw HP
        go_upto_region 7 with (go_at_call 65; (with_reducible refine Calls.mono CV ?_); rintro e' w1 ⟨rfl, rfl⟩)
        clear CV
        go_quiet (first | (go_at_call 58; exact Calls.quiet_of_same (CF _)))
        have hbN : Below W.heap.size W (w1.drewN nq) := HBW.out.1.trans ⟨rfl, rfl, rfl, Nat.le_refl _, fun _ _ => rfl⟩
        obtain ⟨hBN, ag, rs⟩ := HX.out _ hbN
        rw [hzz] at rs
        obtain ⟨r0, r1, r2⟩ := heap_cells rs
        have g0 := heap_frozen (o := 0) rs
        have g1 := heap_frozen (o := 1) rs
        have g2 := heap_frozen (o := 2) rs
        have HE : Hid (∀ c, badAt bs j = c → c ≠ 0 → applyE bs d t = c) := fun c hc h0 => by
          unfold applyE
          rw [if_neg hlong, valE_bad HBW.out.2 (by rw [hc]; exact h0) hlt, if_neg (by rw [hc]; exact h0), hc]
        by_cases hok : varB bs[j].1 = true ∧ bs[j].1 ∉ (bs.take j).map (·.1)
        · rw [hok.1]
          have hfi : ¬ (0 : Int) ≤ fi := by
            have := hfa
            rw [decide_eq_false hok.2] at this
            exact of_decide_eq_false this
          have CW := HCW.out nq
          have HB2 : Hid (badAt bs j = wrongT bs[j].2.1 bs[j].2.2) := by have := HBA.out; rw [if_pos hok] at this; exact this
          have HN : Hid (∀ w2, Below w1.heap.size w1 w2 → Below W.heap.size W w2 ∧ w2.heap[z + 1]? = some (.cells #[.int .i64 0, .string ⟨#[]⟩, .slice none 0 0] 25 (0, 0))) := fun w2 hb => by
            have h1 := HBW.out.1.trans (hb.mono HBW.out.1.size)
            have h2 := (HX.out w2 h1).2.2
            rw [hzz] at h2
            exact ⟨h1, h2⟩
          generalize wrongT bs[j].2.1 bs[j].2.2 = c at *
          clear hfa hok hbN hBN ag rs r0 r1 r2 g0 g1 g2 CF HCW
          by_cases hc0 : c = 0
          · subst hc0
            have HV0 : Hid (valE bs (j + 1) = 0) := valE_next HBW.out.2 HB2.out
            go_wp2_with (go_at_call 34; (with_reducible refine Calls.mono CW ?_); rintro e' w2 ⟨rfl, hb2⟩)
            go_roundw
            case rel => exact ⟨j + 1, by omega, by go_num, (HN.out w2 hb2).1, HV0.out⟩
            case measure => simp [intOf]; omega
          · have hcb : (c != 0) = true := by simpa using hc0
            go_upto_region 12 with (go_at_call 34; (with_reducible refine Calls.mono CW ?_); rintro e' w2 ⟨rfl, hb2⟩)
            obtain ⟨hb3, rs⟩ := HN.out w2 hb2
            obtain ⟨r0, r1, r2⟩ := heap_cells rs
            have g0 := heap_frozen (o := 0) rs
            have g1 := heap_frozen (o := 1) rs
            have g2 := heap_frozen (o := 2) rs
            obtain ⟨V, hV, hc, HP⟩ := BAD.out w2 c hb3 (HE.out c HB2.out hc0) hc0
            have HP : Hid (ApPost bs d t w (.returned (.tuple #[.agg #[.int .i64 0, .string ⟨#[]⟩, .slice none 0 0], .int .i64 c])) V) := HP
            rw [hzz] at hV hc
            clear CW rs
            go_wp2
            rw [← hV]
            obtain ⟨s0, s1, s2⟩ := hc
            exact bodyPost_ret (v := .tuple #[.agg #[.int .i64 0, .string ⟨#[]⟩, .slice none 0 0], .int .i64 c]) (by simp [results, Tryz.results39, go_sem, s0, s1, s2]) rfl HP.out
        · obtain ⟨V, hV, hc, HP⟩ := BAD.out _ 53 hbN (HE.out 53 (by rw [HBA.out, if_neg hok]) (by omega)) (by omega)
          have HP : Hid (ApPost bs d t w (.returned (.tuple #[.agg #[.int .i64 0, .string ⟨#[]⟩, .slice none 0 0], .int .i64 53])) V) := HP
          rw [hzz] at hV hc
          have hdo : varB bs[j].1 = false ∨ (varB bs[j].1 = true ∧ (0 : Int) ≤ fi) := by
            cases hvb : varB bs[j].1 with
            | false => exact .inl rfl
            | true =>
              refine .inr ⟨rfl, ?_⟩
              have := hfa
              rw [decide_eq_true (Decidable.not_not.1 fun h => hok ⟨hvb, h⟩)] at this
              exact of_decide_eq_true this
          clear hfa hok hbN hBN ag rs CF HCW
          rcases hdo with hdo | ⟨hdo, hdf⟩
          · rw [hdo]
            go_wp2
            rw [← hV]
            obtain ⟨s0, s1, s2⟩ := hc
            exact bodyPost_ret (v := .tuple #[.agg #[.int .i64 0, .string ⟨#[]⟩, .slice none 0 0], .int .i64 53]) (by simp [results, Tryz.results39, go_sem, s0, s1, s2]) rfl HP.out
          · rw [hdo]
            go_wp2
            rw [← hV]
            obtain ⟨s0, s1, s2⟩ := hc
            exact bodyPost_ret (v := .tuple #[.agg #[.int .i64 0, .string ⟨#[]⟩, .slice none 0 0], .int .i64 53]) (by simp [results, Tryz.results39, go_sem, s0, s1, s2]) rfl HP.out
      · have e : j = bs.length := by omega
        have h1 : ¬ (j : Int) < (bs.length : Int) := by omega
        have hdf : decide (j < bs.length) = false := decide_eq_false hlt
        obtain ⟨hbw, hv0⟩ := HP.out
        rw [e] at hv0
        obtain ⟨hBw, hvw, hxw⟩ := HV.out wr hbw
        obtain ⟨hB1, ag, rs⟩ := HX.out wr hbw
        rw [hzz] at ag
        obtain ⟨x0, x1, x2⟩ := heap_cells ag
        have CW := wrong_any _ _ t wr B hBw hxw HNN.out
        have HB1 : Hid (∀ w2, Below wr.heap.size wr w2 → Below W.heap.size W w2 ∧ Below w.heap.size w w2 ∧ w2.heap[z]? = some (.cells #[.int .i64 k, .string n, .slice ad len cap] 25 (0, 0)) ∧ w2.heap[z + 1]? = some (.cells #[.int .i64 0, .string ⟨#[]⟩, .slice none 0 0] 25 (0, 0))) := fun w2 hb => by
          have h1 := hbw.trans (hb.mono hbw.size)
          have h2 := HX.out w2 h1
          rw [hzz] at h2
          exact ⟨h1, by rw [hzz]; exact h2.1, h2.2.1, h2.2.2⟩
        by_cases hw0 : wrongT d t = 0
        · rw [hw0] at CW
          obtain ⟨hF, hS⟩ := wrong_zero hw0
          have HCR : Hid (∀ w2, Below wr.heap.size wr w2 → Calls Tryz.prog 66 #[.slice adv bs.length capv, .agg #[.int .i64 k, .string n, .slice ad len cap], .int .i64 (500 : Nat)] w2 (RpPost w2 (bdLev bs + d) (subT (bdLev bs) (bdLift bs (bdLev bs)) d t) 500)) := fun w2 hb => by
            obtain ⟨h1, h2, h3⟩ := HV.out w2 (HB1.out w2 hb).1
            exact replace_any bs (bdLev bs) (fun n u h => bdLev_le HM.out h) d _ t w2 B _ 500 h1 h2 h3 (by omega) (by omega)
          have HSL : Hid (flat (bdLev bs + d) (subT (bdLev bs) (bdLift bs (bdLev bs)) d t) = subF (bdRow bs) (flat d t)) := sub_lev hF
          have HAE : Hid (applyE bs d t = if (subF (bdRow bs) (flat d t)).length ≤ 500 then 0 else 4) := by
            show _ = _
            unfold applyE
            rw [if_neg hlong, if_pos hv0, if_pos hw0]
          generalize subT (bdLev bs) (bdLift bs (bdLev bs)) d t = TT at *
          generalize bdLev bs + d = DD at *
          clear hvw hxw hv0 hF hS ag rs hB1 hw0
          go_upto_region 14 with (go_at_call 34; (with_reducible refine Calls.mono CW ?_); rintro e' w2 ⟨rfl, hb2⟩)
          obtain ⟨_, _, ag2, rs2⟩ := HB1.out w2 hb2
          have CR := HCR.out w2 hb2
          obtain ⟨y0, y1, y2⟩ := heap_cells ag2
          clear ag2 rs2 CW x0 x1 x2 hdf h1
          go_upto_region 17 with (go_at_call 66; (with_reducible refine Calls.mono CR ?_); intro e' w3 hpost; obtain ⟨hb3, kd, nm, ad3, l3, c3, cc, rfl, hT3⟩ := hpost)
          obtain ⟨U, hU, hbU, hsU, c0', c1', c2'⟩ := cells_box w3 (.int .i64 kd) (.string nm) (.slice ad3 l3 c3) 25
          rw [← hU]
          have hbU3 : Below wr.heap.size wr U := (hb2.trans (hb3.mono hb2.size)).trans (hbU.mono (by have := hb2.size; have := hb3.size; omega))
          obtain ⟨hb4, hb5, _, rs4⟩ := HB1.out U hbU3
          obtain ⟨r0, r1, r2⟩ := heap_cells rs4
          have g0 := heap_frozen (o := 0) rs4
          have g1 := heap_frozen (o := 1) rs4
          have g2 := heap_frozen (o := 2) rs4
          have hs2 : W.heap.size ≤ w2.heap.size := Nat.le_trans hbw.size hb2.size
          by_cases hok : (flat DD TT).length ≤ 500
          · rw [decide_eq_true hok]
            obtain ⟨hcc, hTS⟩ := hT3 hok
            have HTU : Hid (TyS U (fun g => w2.heap.size ≤ g ∧ g < w3.heap.size) DD (.agg #[.int .i64 kd, .string nm, .slice ad3 l3 c3]) TT) := TyS.on (fun g q => q) (fun g q => hbU.block g q.2) _ _ _ hTS
            have HRU : Hid (U.heap[z + 1]? = some (.cells #[.int .i64 0, .string ⟨#[]⟩, .slice none 0 0] 25 (0, 0))) := rs4
            have HS3 : Hid (z + 2 ≤ w2.heap.size ∧ U.heap.size = w3.heap.size + 1 ∧ Below w.heap.size w U) := ⟨by omega, hsU, hb5⟩
            have HA0 : Hid (applyE bs d t = 0 ∧ flat DD TT = applyF bs d t) := by
              have h1 := HAE.out
              rw [← HSL.out, if_pos hok] at h1
              exact ⟨h1, by unfold applyF; rw [h1, if_pos rfl]; exact HSL.out⟩
            generalize hq : w3.heap.size = q3 at c0' c1' c2' ⊢
            have HQ3 : Hid (w3.heap.size = q3) := hq
            clear hU hbU hsU hb2 hb3 hb4 hb5 rs4 hT3 CR y0 y1 y2 hq hok hcc hTS hbU3 hs2 HAE
            go_wp2
            obtain ⟨V, hV, hv1, hoth, hszV, hbV⟩ := store3 HRU.out (.int .i64 kd) (.string nm) (.slice ad3 l3 c3)
            rw [← hV]
            obtain ⟨s0, s1, s2⟩ := heap_cells hv1
            refine bodyPost_ret (v := .tuple #[.agg #[.int .i64 kd, .string nm, .slice ad3 l3 c3], .int .i64 0]) (by simp [results, Tryz.results39, go_sem, s0, s1, s2]) rfl ?_
            obtain ⟨a1, a2, a3⟩ := HS3.out
            refine ⟨a3.trans (hbV.mono (by omega)), kd, nm, ad3, l3, c3, DD, TT, by rw [HA0.out.1], TyS.at (S := fun g => w2.heap.size ≤ g ∧ g < w3.heap.size) (fun g q => by omega) _ _ _ (TyS.on (fun g q => q) (fun g q => hoth g (by omega)) _ _ _ HTU.out), HA0.out.2⟩
          · rw [decide_eq_false hok]
            have HA0 : applyE bs d t = 4 := by
              have h1 := HAE.out
              rw [← HSL.out, if_neg hok] at h1
              exact h1
            obtain ⟨V, hV, hc, HP⟩ := BAD.out U 4 hb4 HA0 (by omega)
            have HP : Hid (ApPost bs d t w (.returned (.tuple #[.agg #[.int .i64 0, .string ⟨#[]⟩, .slice none 0 0], .int .i64 4])) V) := HP
            rw [hzz] at hV hc
            clear hU hbU hsU hb2 hb3 hb4 hb5 rs4 hT3 CR y0 y1 y2 hok hbU3 hs2 HAE HA0
            go_wp2
            rw [← hV]
            obtain ⟨s0, s1, s2⟩ := hc
            exact bodyPost_ret (v := .tuple #[.agg #[.int .i64 0, .string ⟨#[]⟩, .slice none 0 0], .int .i64 4]) (by simp [results, Tryz.results39, go_sem, s0, s1, s2]) rfl HP.out
        · have HAE : applyE bs d t = wrongT d t := by
            unfold applyE
            rw [if_neg hlong, if_pos hv0, if_neg hw0]
          generalize wrongT d t = c at *
          have hcb : (c != 0) = true := by simpa using hw0
          clear hvw hxw hv0 ag rs hB1
          go_upto_region 15 with (go_at_call 34; (with_reducible refine Calls.mono CW ?_); rintro e' w2 ⟨rfl, hb2⟩)
          obtain ⟨hb3, _, _, rs⟩ := HB1.out w2 hb2
          obtain ⟨r0, r1, r2⟩ := heap_cells rs
          have g0 := heap_frozen (o := 0) rs
          have g1 := heap_frozen (o := 1) rs
          have g2 := heap_frozen (o := 2) rs
          obtain ⟨V, hV, hc, HP⟩ := BAD.out w2 c hb3 HAE hw0
          have HP : Hid (ApPost bs d t w (.returned (.tuple #[.agg #[.int .i64 0, .string ⟨#[]⟩, .slice none 0 0], .int .i64 c])) V) := HP
          rw [hzz] at hV hc
          clear CW rs x0 x1 x2
          go_wp2
          rw [← hV]
          obtain ⟨s0, s1, s2⟩ := hc
          exact bodyPost_ret (v := .tuple #[.agg #[.int .i64 0, .string ⟨#[]⟩, .slice none 0 0], .int .i64 c]) (by simp [results, Tryz.results39, go_sem, s0, s1, s2]) rfl HP.out
end Go.Proofs.YthcejnpknjepfaaGreat
