/- The program's Apply: its contract. -/
import Derived.Test.YtikpipenhamdbaaAb
import Derived.Test.YtikpipenhamdbaaMjx
namespace Go.Proofs.Ytikpipenhamdbaa
open Go.RowKit

theorem own_wide {w : World} {lo : Nat} : ∀ (d : Nat) (x : Value) (t : Tn d) (rws : List (Value × Nat)), TyO w lo d x t rws → ∀ p ∈ rws, p.2 ≤ (flat d t).length
  | 0, _, t, _, _ => t.elim
  | d + 1, x, ((k, n), ts), rws, ⟨v, hx, h1, h2, h⟩ => by
    rcases h with ⟨h0, _, rfl⟩ | ⟨h0, es, rss, k1, k2, hown, rfl, hj⟩
    · intro p hp; simp at hp
    · have k1 : es.length = ts.length := k1
      have k2 : rss.length = ts.length := k2
      have hp0 : ts.length ≤ (flats d ts).length := flats_pos d ts
      intro p hp
      rw [flat_succ, List.length_cons]
      rcases List.mem_cons.1 hp with rfl | hp
      · show ts.length ≤ _; omega
      · obtain ⟨l, hl, hpl⟩ := List.mem_flatten.1 hp
        obtain ⟨j, hj', rfl⟩ := List.getElem_of_mem hl
        have := own_wide d _ _ _ (hj j (by show j < ts.length; omega) (by omega) hj') p hpl
        have h3 : (flat d ts[j]).length ≤ (flats d ts).length := flats_mem (List.getElem_mem _)
        have : p.2 ≤ (flat d ts[j]).length := this
        omega
theorem more_less (bs : List Bd) (n : List UInt8) : moreN bs n = lessN (bdRow bs) n := by
  unfold moreN lessN bdRow
  cases bdSays bs n with
  | none => rfl
  | some u => rfl
theorem above_sub {bs : List Bd} {d : Nat} {t : Tn d} (hf : formB d t = true) : (flat d t).length + ((namesT d t).map (moreN bs)).sum = (subF (bdRow bs) (flat d t)).length := by
  rw [sub_len (bdRow bs) (fun n r h => by
    unfold bdRow at h
    obtain ⟨u, _, hu⟩ := Option.map_eq_some_iff.1 h
    rw [← hu]
    exact flat_pos _ _) d t hf]
  rw [show moreN bs = lessN (bdRow bs) from funext (more_less bs)]
/-- What the program's Apply answers: its owner's. -/
def ApOwn (bs : List Bd) (d : Nat) (t : Tn d) (w : World) (r : Ending) (w' : World) : Prop :=
  Below w.heap.size w w' ∧ ∃ (k : Int) (n : ByteArray) (ad : Option Addr) (len cap D : Nat) (tt : Tn D) (rws : List (Value × Nat)), r = .returned (.tuple #[.agg #[.int .i64 k, .string n, .slice ad len cap], .int .i64 (applyE bs d t)]) ∧ TyO w' w.heap.size D (.agg #[.int .i64 k, .string n, .slice ad len cap]) tt rws ∧ SepB w.heap.size w'.heap.size rws ∧ flat D tt = applyF bs d t ∧ (flat D tt).length ≤ 500
theorem zero_own (w : World) (lo : Nat) : TyO w lo 1 (.agg #[.int .i64 0, .string ⟨#[]⟩, .slice none 0 0]) ((0, []), []) [] := by
  refine ⟨.slice none 0 0, rfl, by show ([] : List UInt8).length < _; simp, by show ([] : List (Tn 0)).length < _; simp, ?_⟩
  exact .inl ⟨rfl, ⟨none, 0, rfl⟩, rfl⟩
theorem ApOwn.bad {bs : List Bd} {d : Nat} {t : Tn d} {w w' : World} (hb : Below w.heap.size w w') (c : Int) (h : applyE bs d t = c) (h0 : c ≠ 0) : ApOwn bs d t w (.returned (.tuple #[.agg #[.int .i64 0, .string ⟨#[]⟩, .slice none 0 0], .int .i64 c])) w' :=
  ⟨hb, 0, ⟨#[]⟩, none, 0, 0, 1, ((0, []), []), [], by rw [h], zero_own _ _, ⟨fun p hp => by simp at hp, by simp⟩, by unfold applyF; rw [h, if_neg h0]; rfl, by show ([(0, [], 0)] : List Nd).length ≤ 500; simp⟩
set_option maxHeartbeats 16000000 in
set_option maxRecDepth 10000 in
theorem apply_any (bs : List Bd) (bv : Value) (d : Nat) (x : Value) (t : Tn d) (w : World) (B : Nat) (hB : B ≤ w.heap.size) (hv : BdAt w B bv bs) (hx : TyAt w B d x t) (hM : ∀ x ∈ bs, (flat x.2.1 x.2.2).length ≤ 4194304) (hN : (flat d t).length ≤ 4194304) :
    Calls Try.prog 7 #[bv, x] w (ApOwn bs d t w) := by
  obtain ⟨k, n, ad, len, cap, rfl⟩ := tree_form hx
  obtain ⟨W, hW⟩ : ∃ W, W = (w.alloc (Obj.cells #[.int .i64 k, .string n, .slice ad len cap] 31)).alloc (Obj.cells #[.int .i64 0, .string ⟨#[]⟩, .slice none 0 0] 31) := ⟨_, rfl⟩
  have hbW : Below w.heap.size w W := by rw [hW]; exact ((Below.refl _ _).alloc (Nat.le_refl _) _).alloc (by simp) _
  have hsW : W.heap.size = w.heap.size + 2 := by rw [hW]; simp
  have arg : W.heap[w.heap.size]? = some (.cells #[.int .i64 k, .string n, .slice ad len cap] 31 (0, 0)) := by
    rw [hW, Below.heap_alloc _ _ _ (by simp)]
    show (w.heap.push _)[w.heap.size]? = _
    simp
  have res : W.heap[w.heap.size + 1]? = some (.cells #[.int .i64 0, .string ⟨#[]⟩, .slice none 0 0] 31 (0, 0)) := by
    rw [hW]
    show ((w.heap.push _).push _)[w.heap.size + 1]? = _
    rw [Array.getElem?_push, if_pos (by simp)]
  have HX : Hid (∀ w1, Below W.heap.size W w1 → Below w.heap.size w w1 ∧ w1.heap[w.heap.size]? = some (.cells #[.int .i64 k, .string n, .slice ad len cap] 31 (0, 0)) ∧ w1.heap[w.heap.size + 1]? = some (.cells #[.int .i64 0, .string ⟨#[]⟩, .slice none 0 0] 31 (0, 0))) := fun w1 hb => ⟨hbW.trans (hb.mono hbW.size), (hb.block _ (lt_of_heap arg)).trans arg, (hb.block _ (lt_of_heap res)).trans res⟩
  have BAD : Hid (∀ (w1 : World) (c : Int), Below W.heap.size W w1 → applyE bs d t = c → c ≠ 0 → ∃ V, V = ((w1.setCell ⟨w.heap.size + 1, 0, none⟩ (.int .i64 0)).setCell ⟨w.heap.size + 1, 1, none⟩ (.string ⟨#[]⟩)).setCell ⟨w.heap.size + 1, 2, none⟩ (.slice none 0 0) ∧ (V.cell? ⟨w.heap.size + 1, 0, none⟩ = some (.int .i64 0) ∧ V.cell? ⟨w.heap.size + 1, 1, none⟩ = some (.string ⟨#[]⟩) ∧ V.cell? ⟨w.heap.size + 1, 2, none⟩ = some (.slice none 0 0)) ∧ ApOwn bs d t w (.returned (.tuple #[.agg #[.int .i64 0, .string ⟨#[]⟩, .slice none 0 0], .int .i64 c])) V) := fun w1 c hb he h0 => by
    obtain ⟨h1, _, h3⟩ := HX.out w1 hb
    obtain ⟨V, hV, hv1, hoth, hszV, hbV⟩ := store3 h3 (.int .i64 0) (.string ⟨#[]⟩) (.slice none 0 0)
    exact ⟨V, hV, heap_cells hv1, ApOwn.bad (h1.trans (hbV.mono (by omega))) c he h0⟩
  obtain ⟨adv, capv, rfl, hlv, _⟩ := id hv
  have HW0 : Hid (Below W.heap.size W W) := Below.refl _ _
  by_cases hlong : 100000 < bs.length
  · have hE : applyE bs d t = 2 := by unfold applyE; rw [if_pos hlong]
    obtain ⟨r0, r1, r2⟩ := heap_cells res
    have g0 := heap_frozen (o := 0) res
    have g1 := heap_frozen (o := 1) res
    have g2 := heap_frozen (o := 2) res
    obtain ⟨V, hV, hc, HP⟩ := BAD.out W 2 HW0.out hE (by omega)
    have HP : Hid (ApOwn bs d t w (.returned (.tuple #[.agg #[.int .i64 0, .string ⟨#[]⟩, .slice none 0 0], .int .i64 2])) V) := HP
    have hlong' : (100000 : Int) < (bs.length : Int) := by omega
    clear hsW HX BAD hE hx hv hM hN hB hbW arg res
    go_enter Try.func7, Try.ntmps7
    go_upto_region 1 with fail
    rw [← hW]
    generalize hz : w.heap.size = z at r0 r1 r2 g0 g1 g2 hc hV ⊢
    clear hW hz
    go_wp2
    rw [← hV]
    obtain ⟨s0, s1, s2⟩ := hc
    exact bodyPost_ret (v := .tuple #[.agg #[.int .i64 0, .string ⟨#[]⟩, .slice none 0 0], .int .i64 2]) (by simp [results, Try.results7, go_sem, s0, s1, s2]) rfl HP.out
  · have hlong' : ¬ (100000 : Int) < (bs.length : Int) := by omega
    have CVal := values_any _ bs W B (Nat.le_trans hB hbW.size) (hv.below (hbW.mono hB) (Nat.le_refl _)) (by omega) hM
    have HVS : Hid (∀ w1 w2, Below W.heap.size W w1 → Vs w1 W.heap.size B bs → Below w1.heap.size w1 w2 → Vs w2 W.heap.size B bs ∧ Below W.heap.size W w2) := fun w1 w2 h1 h2 h3 => ⟨h2.on (h3.block _ h2.lt) (h3.mono (by have := h2.lt; have := hbW.size; omega)), h1.trans (h3.mono h1.size)⟩
    have CWr : Hid (∀ w1, Below W.heap.size W w1 → Calls Try.prog 16 #[.slice (some ⟨w1.heap.size, 0, none⟩) 1 1] (w1.alloc (Obj.cells #[.int .i64 k, .string n, .slice ad len cap] 31)) fun r w' => r = .returned (.int .i64 (wrongT d t)) ∧ Below w1.heap.size w1 w') := fun w1 h1 => by
      have hb1 : Below w1.heap.size w1 (w1.alloc (Obj.cells #[.int .i64 k, .string n, .slice ad len cap] 31)) := (Below.refl _ _).alloc (Nat.le_refl _) _
      obtain ⟨c0, c1, c2⟩ := cells_new w1 (.int .i64 k) (.string n) (.slice ad len cap) 31
      have hb2 := (hbW.trans (h1.mono (by omega))).trans (hb1.mono (by have := h1.size; omega))
      have := wrong_one d k n ad len cap t w _ B w1.heap.size (Nat.le_trans hB hb2.size) (by simp) hx (hb2.mono hB) (by omega) c0 c1 c2
      refine Calls.mono this ?_
      rintro r w' ⟨rfl, hb⟩
      exact ⟨rfl, hb1.trans (hb.mono hb1.size)⟩
    have HBx : Hid (TyAt w B d (.agg #[.int .i64 k, .string n, .slice ad len cap]) t ∧ B ≤ w.heap.size ∧ Below w.heap.size w W) := ⟨hx, hB, hbW⟩
    obtain ⟨x0, x1, x2⟩ := heap_cells arg
    have HSW : Hid (W.heap.size = w.heap.size + 2) := hsW
    have HL5 : Hid (bs.length ≤ 100000) := by show _ ≤ _; omega
    clear hx hv hM hN hB hbW arg res hsW
    go_enter Try.func7, Try.ntmps7
    go_upto_region 1 with fail
    rw [← hW]
    generalize hz : w.heap.size = z at x0 x1 x2 ⊢
    have HZ : Hid (w.heap.size = z) := hz
    have hzz := hz
    clear hW hz
    go_upto_region 4 with (go_at_call 21; (with_reducible refine Calls.mono CVal ?_); intro e' w1 hpost; obtain ⟨hb1, hcase⟩ := hpost; rcases hcase with ⟨hv0, rfl, hlt1, hVs1⟩ | ⟨hv0, rfl⟩)
    · obtain ⟨_, hgood⟩ := valE_good (Nat.le_refl _) hv0
      rw [List.take_length] at hgood
      have HLE : Hid (∀ n u, bdSays bs n = some u → u.1 ≤ bdLev bs ∧ (flat u.1 u.2).length ≤ 500) := fun n u h => bdLev_le (fun x hx => (wrong_zero (hgood x hx).2).2) h
      obtain ⟨_, ag1, _⟩ := HX.out w1 hb1
      rw [hzz] at ag1
      obtain ⟨p0, p1, p2⟩ := heap_cells ag1
      have CW := CWr.out w1 hb1
      have HB1 : Hid (Below W.heap.size W w1 ∧ Vs w1 W.heap.size B bs) := ⟨hb1, hVs1⟩
      by_cases hw0 : wrongT d t = 0
      · rw [hw0] at CW
        obtain ⟨hF, hS⟩ := wrong_zero hw0
        have HAE : Hid (applyE bs d t = if (subF (bdRow bs) (flat d t)).length ≤ 500 then 0 else 4) := by
          show _ = _
          unfold applyE
          rw [if_neg hlong, if_pos hv0, if_pos hw0]
        have CA : Hid (∀ w2, Below W.heap.size W w2 → Vs w2 W.heap.size B bs → Calls Try.prog 22 #[.map (some W.heap.size), .agg #[.int .i64 k, .string n, .slice ad len cap]] w2 fun r w' => r = .returned (.bool (decide (500 < (subF (bdRow bs) (flat d t)).length))) ∧ Below w2.heap.size w2 w') := fun w2 h2 hVs => by
          obtain ⟨a1, a2, a3⟩ := HBx.out
          have hb2 : Below w.heap.size w w2 := a3.trans (h2.mono a3.size)
          have := above_any W.heap.size B bs d _ t w2 (TyAt.below (hb2.mono a2) (Nat.le_trans a2 hb2.size) _ _ _ a1) (Nat.le_trans a2 hb2.size) hVs (fun n u h => by have := (HLE.out n u h).2; omega) hS
          rw [above_sub hF] at this
          exact this
        have CP : Hid (∀ w3, Below W.heap.size W w3 → Vs w3 W.heap.size B bs → Calls Try.prog 23 #[.map (some W.heap.size), .agg #[.int .i64 k, .string n, .slice ad len cap]] w3 (PutPost w3 (bdLev bs + d) (subT (bdLev bs) (bdLift bs (bdLev bs)) d t))) := fun w3 h3 hVs => by
          obtain ⟨a1, a2, a3⟩ := HBx.out
          have hb3 : Below w.heap.size w w3 := a3.trans (h3.mono a3.size)
          obtain ⟨s, hMv, hsay⟩ := hVs
          refine put_any (bdLev bs) _ s W.heap.size bs.length B d _ t w3 B (Nat.le_trans a2 hb3.size) (Nat.le_trans a2 hb3.size) (a1.on (hb3.mono a2)) hMv (fun n => ?_) (by omega)
          rcases hsay n with ⟨e1, e2⟩ | ⟨v', u, e1, e2, hT⟩
          · exact .inl ⟨e1, by unfold bdLift; rw [e2]; rfl⟩
          · obtain ⟨t', b1, b2, b3, _⟩ := lift_at (bdLev bs) u (HLE.out n u e2).1
            refine .inr ⟨v', t', e1, by unfold bdLift; rw [e2]; exact b1, b3 _ _ _ hT, ?_⟩
            rw [b2]
            have := (HLE.out n u e2).2
            omega
        have HSL : Hid (flat (bdLev bs + d) (subT (bdLev bs) (bdLift bs (bdLev bs)) d t) = subF (bdRow bs) (flat d t)) := sub_lev hF
        generalize subT (bdLev bs) (bdLift bs (bdLev bs)) d t = TT at *
        generalize bdLev bs + d = DD at *
        clear CVal hgood hVs1 hb1 ag1 hF hS CWr hw0 hv0
        go_upto_region 9 with (go_at_call 16; (with_reducible refine Calls.mono CW ?_); rintro e' w2 ⟨rfl, hb2⟩)
        obtain ⟨hVs2, hb2'⟩ := HVS.out w1 w2 HB1.out.1 HB1.out.2 hb2
        obtain ⟨_, ag2, rs2⟩ := HX.out w2 hb2'
        rw [hzz] at ag2
        obtain ⟨y0, y1, y2⟩ := heap_cells ag2
        have CA2 := CA.out w2 hb2' hVs2
        have HB2 : Hid (Below W.heap.size W w2 ∧ Vs w2 W.heap.size B bs) := ⟨hb2', hVs2⟩
        by_cases hok : (subF (bdRow bs) (flat d t)).length ≤ 500
        · rw [decide_eq_false (by omega : ¬ 500 < (subF (bdRow bs) (flat d t)).length)] at CA2
          have HA0 : Hid (applyE bs d t = 0 ∧ flat DD TT = applyF bs d t ∧ (flat DD TT).length ≤ 500) := by
            have h1 := HAE.out
            rw [if_pos hok] at h1
            exact ⟨h1, by unfold applyF; rw [h1, if_pos rfl]; exact HSL.out, by rw [HSL.out]; exact hok⟩
          clear CW p0 p1 p2 ag2 rs2 hVs2 hb2' hok x0 x1 x2 HAE
          go_upto_region 11 with (go_at_call 22; (with_reducible refine Calls.mono CA2 ?_); rintro e' w3 ⟨rfl, hb3⟩)
          obtain ⟨hVs3, hb3'⟩ := HVS.out w2 w3 HB2.out.1 HB2.out.2 hb3
          obtain ⟨_, ag3, _⟩ := HX.out w3 hb3'
          rw [hzz] at ag3
          obtain ⟨q0, q1, q2⟩ := heap_cells ag3
          have CP3 := CP.out w3 hb3' hVs3
          have HS3 : Hid (Below W.heap.size W w3) := hb3'
          clear y0 y1 y2 CA2 ag3 hVs3 hb3' hb3 hb2
          go_wp2_with (go_at_call 23; (with_reducible refine Calls.mono CP3 ?_); intro e' w4 hp; obtain ⟨hb4, k4, n4, ad4, l4, cp4, rws4, rfl, hT4, hS4⟩ := hp; obtain ⟨hB4, _, r4⟩ := HX.out w4 (HS3.out.trans (hb4.mono HS3.out.size)); rw [HZ.out] at r4; obtain ⟨r0, r1, r2⟩ := heap_cells r4; have f0 := heap_frozen (o := 0) r4; have f1 := heap_frozen (o := 1) r4; have f2 := heap_frozen (o := 2) r4)
          obtain ⟨V, hV, hv1, hoth, hszV, hbV⟩ := store3 r4 (.int .i64 k4) (.string n4) (.slice ad4 l4 cp4)
          rw [← hV]
          obtain ⟨s0, s1, s2⟩ := heap_cells hv1
          refine bodyPost_ret (v := .tuple #[.agg #[.int .i64 k4, .string n4, .slice ad4 l4 cp4], .int .i64 0]) (by simp [results, Try.results7, go_sem, s0, s1, s2]) rfl ?_
          have hsw := HSW.out
          have hs3 := HS3.out.size
          have hs4 := hb4.size
          refine ⟨hB4.trans (hbV.mono (by omega)), k4, n4, ad4, l4, cp4, DD, TT, rws4, by rw [HA0.out.1], TyO.mono (by omega) _ _ _ _ (TyO.on _ _ _ _ (fun p hp g hg => ?_) hT4), ⟨fun p hp => ?_, hS4.2⟩, HA0.out.2.1, HA0.out.2.2⟩
          · obtain ⟨g', e1, e2, e3⟩ := hS4.1 p hp
            rw [hg] at e1
            have := Option.some.inj e1
            exact hoth g (by omega)
          · obtain ⟨g', e1, e2, e3⟩ := hS4.1 p hp
            exact ⟨g', e1, by omega, by omega⟩
        · rw [decide_eq_true (by omega : 500 < (subF (bdRow bs) (flat d t)).length)] at CA2
          have HA0 : applyE bs d t = 4 := by
            have h1 := HAE.out
            rw [if_neg hok] at h1
            exact h1
          clear CW p0 p1 p2 ag2 rs2 hVs2 hb2' hok x0 x1 x2 HAE
          go_upto_region 10 with (go_at_call 22; (with_reducible refine Calls.mono CA2 ?_); rintro e' w3 ⟨rfl, hb3⟩)
          obtain ⟨_, hb3'⟩ := HVS.out w2 w3 HB2.out.1 HB2.out.2 hb3
          have rs := (HX.out w3 hb3').2.2
          obtain ⟨V, hV, hc, HP⟩ := BAD.out w3 4 hb3' HA0 (by omega)
          have HP : Hid (ApOwn bs d t w (.returned (.tuple #[.agg #[.int .i64 0, .string ⟨#[]⟩, .slice none 0 0], .int .i64 4])) V) := HP
          rw [hzz] at hV hc rs
          obtain ⟨r0, r1, r2⟩ := heap_cells rs
          have g0 := heap_frozen (o := 0) rs
          have g1 := heap_frozen (o := 1) rs
          have g2 := heap_frozen (o := 2) rs
          clear rs HX BAD HVS HBx y0 y1 y2 CA2 HA0 hb3 hb3' hb2
          go_wp2
          rw [← hV]
          obtain ⟨s0, s1, s2⟩ := hc
          exact bodyPost_ret (v := .tuple #[.agg #[.int .i64 0, .string ⟨#[]⟩, .slice none 0 0], .int .i64 4]) (by simp [results, Try.results7, go_sem, s0, s1, s2]) rfl HP.out
      · have hE : applyE bs d t = wrongT d t := by unfold applyE; rw [if_neg hlong, if_pos hv0, if_neg hw0]
        generalize wrongT d t = c at *
        have hcb : (c != 0) = true := by simpa using hw0
        clear CVal hgood hVs1 hb1 ag1 CWr hv0
        go_upto_region 8 with (go_at_call 16; (with_reducible refine Calls.mono CW ?_); rintro e' w2 ⟨rfl, hb2⟩)
        obtain ⟨_, hb2'⟩ := HVS.out w1 w2 HB1.out.1 HB1.out.2 hb2
        have rs := (HX.out w2 hb2').2.2
        obtain ⟨V, hV, hc, HP⟩ := BAD.out w2 c hb2' hE hw0
        have HP : Hid (ApOwn bs d t w (.returned (.tuple #[.agg #[.int .i64 0, .string ⟨#[]⟩, .slice none 0 0], .int .i64 c])) V) := HP
        rw [hzz] at hV hc rs
        obtain ⟨r0, r1, r2⟩ := heap_cells rs
        have g0 := heap_frozen (o := 0) rs
        have g1 := heap_frozen (o := 1) rs
        have g2 := heap_frozen (o := 2) rs
        clear rs HX BAD HVS HBx hE x0 x1 x2 p0 p1 p2 CW hb2 hb2'
        go_wp2
        rw [← hV]
        obtain ⟨s0, s1, s2⟩ := hc
        exact bodyPost_ret (v := .tuple #[.agg #[.int .i64 0, .string ⟨#[]⟩, .slice none 0 0], .int .i64 c]) (by simp [results, Try.results7, go_sem, s0, s1, s2]) rfl HP.out
    · have hE : applyE bs d t = valE bs bs.length := by unfold applyE; rw [if_neg hlong, if_neg hv0]
      obtain ⟨V, hV, hc, HP⟩ := BAD.out w1 _ hb1 hE hv0
      have HP : Hid (ApOwn bs d t w (.returned (.tuple #[.agg #[.int .i64 0, .string ⟨#[]⟩, .slice none 0 0], .int .i64 (valE bs bs.length)])) V) := HP
      have rs := (HX.out w1 hb1).2.2
      rw [hzz] at hV hc rs
      obtain ⟨r0, r1, r2⟩ := heap_cells rs
      have g0 := heap_frozen (o := 0) rs
      have g1 := heap_frozen (o := 1) rs
      have g2 := heap_frozen (o := 2) rs
      have hcb : (valE bs bs.length != 0) = true := by simpa using hv0
      generalize valE bs bs.length = c at *
      clear CVal rs HX BAD HVS CWr HBx hE x0 x1 x2
      go_wp2
      rw [← hV]
      obtain ⟨s0, s1, s2⟩ := hc
      exact bodyPost_ret (v := .tuple #[.agg #[.int .i64 0, .string ⟨#[]⟩, .slice none 0 0], .int .i64 c]) (by simp [results, Try.results7, go_sem, s0, s1, s2]) rfl HP.out
end Go.Proofs.Ytikpipenhamdbaa
