/- TypesAgree: the walk. -/
import Derived.Test.YtikpipenhamdbaaHr
import Derived.Test.YtikpipenhamdbaaHu
import Derived.Test.YtikpipenhamdbaaAy
import Derived.Test.YtikpipenhamdbaaMsx
namespace Go.Proofs.Ytikpipenhamdbaa
open Go.RowKit

theorem apply_x (bs : List Bd) (bv : Value) (d : Nat) (x : Value) (t : Tn d) (w : World) (B : Nat) (hB : B ≤ w.heap.size) (hv : BdAt w B bv bs) (hx : TyAt w B d x t) (hM : ∀ x ∈ bs, (flat x.2.1 x.2.2).length ≤ 4194304) (hN : (flat d t).length ≤ 4194304) :
    Calls Try.prog 7 #[bv, x] w fun e w' => ∃ (k : Int) (n : ByteArray) (ad : Option Addr) (len cap D : Nat) (tt : Tn D), e = .returned (.tuple #[.agg #[.int .i64 k, .string n, .slice ad len cap], .int .i64 (applyE bs d t)]) ∧ Below w.heap.size w w' ∧ Hid (TyAt w' w'.heap.size D (.agg #[.int .i64 k, .string n, .slice ad len cap]) tt ∧ flat D tt = applyF bs d t ∧ (flat D tt).length ≤ 500) := by
  refine Calls.mono (apply_any bs bv d x t w B hB hv hx hM hN) ?_
  rintro e w' ⟨hb, k, n, ad, len, cap, D, tt, rws, rfl, hT, hS, hf, h5⟩
  exact ⟨k, n, ad, len, cap, D, tt, rfl, hb, TyO.at _ _ _ _ (fun p hp g hg => by
    obtain ⟨g', e1, _, e3⟩ := hS.1 p hp
    rw [hg] at e1
    have := Option.some.inj e1
    omega) hT, hf, h5⟩
/-- A box is made, and what is told of it. -/
theorem box_at {w w' : World} {k : Int} {n : ByteArray} {ad : Option Addr} {len cap : Nat} (hb : Below (w.alloc (Obj.cells #[.int .i64 k, .string n, .slice ad len cap] 31)).heap.size (w.alloc (Obj.cells #[.int .i64 k, .string n, .slice ad len cap] 31)) w') : w'.cell? ⟨w.heap.size, 0, none⟩ = some (.int .i64 k) ∧ w'.cell? ⟨w.heap.size, 1, none⟩ = some (.string n) ∧ w'.cell? ⟨w.heap.size, 2, none⟩ = some (.slice ad len cap) :=
  heap_cells ((hb.block _ (by simp)).trans (heap_alloc_new w _))
theorem below_box (w : World) (k : Int) (n : ByteArray) (ad : Option Addr) (len cap : Nat) : Below w.heap.size w (w.alloc (Obj.cells #[.int .i64 k, .string n, .slice ad len cap] 31)) := (Below.refl _ _).alloc (Nat.le_refl _) _
theorem bel_on {w a b : World} (h : Below w.heap.size w a) (k : Below a.heap.size a b) : Below w.heap.size w b := h.trans (k.mono h.size)
theorem same_true {d e : Nat} {x y : Value} {t : Tn d} {u : Tn e} {w : World} (hx : TyAt w w.heap.size d x t) (hy : TyAt w w.heap.size e y u) (h : flat d t = flat e u) : Calls Try.prog 8 #[x, y] w fun r w' => r = .returned (.bool true) ∧ Below w.heap.size w w' := by
  have := same_any d e x y t u w w.heap.size (Nat.le_refl _) hx hy
  rw [decide_eq_true h] at this
  exact this
theorem uerr_zero {ps : List Pr} {n c : Int} (h : UErr ps n c) : c ≠ 0 := by
  rcases h with ⟨_, _, rfl⟩ | ⟨_, _, _, _, _, h, _⟩ | ⟨_, h, _⟩ | ⟨_, _, rfl, _⟩
  · omega
  · exact h
  · exact h
  · omega
set_option maxHeartbeats 16000000 in
set_option maxRecDepth 10000 in
theorem agree_try (hA : Wakes) (ps : List Pr) (v : Value) (w : World) (hl : PrAt w w.heap.size v ps) (hg0 : greatB (pbs ps) = false) :
    Calls Try.prog 3 #[v] w fun r w' => r = .returned (.bool true) ∧ Below w.heap.size w w' := by
  have C0 := greatPairs_any v ps w w.heap.size (Nat.le_refl _) hl
  rw [hg0] at C0
  have CA : ∀ W, Calls Try.prog 5 #[] W fun r w' => r = .returned (.bool true) ∧ Below W.heap.size W w' := hA
  have HPL : Hid (PrAt w w.heap.size v ps) := hl
  obtain ⟨lad, lcap, rfl, hpl, hne⟩ := hl
  have hcap : ps.length ≤ lcap ∨ ps.length = 0 := by
    by_cases q : ps = []
    · rw [q]
      exact .inr rfl
    · obtain ⟨_, _, _, h, _⟩ := hne q
      exact .inl h
  clear hne
  have HSM := pbs_small hg0
  have HSM : Hid (∀ p ∈ ps, (flat p.1.1 p.1.2).length ≤ 4194304 ∧ (flat p.2.1 p.2.2).length ≤ 4194304) := HSM
  have HUT : Hid (∀ W (m : Nat), Below w.heap.size w W → m ≤ ps.length → Calls Try.prog 6 #[.slice lad m lcap] W (UnifyP (ps.take m) W)) := fun W m hb hm => unify_any (ps.take m) _ W w.heap.size hb.size ((HPL.out.take m hm).below hb (Nat.le_refl _)) fun p hp => HSM.out p (List.mem_of_mem_take hp)
  have CU : ∀ W, Below w.heap.size w W → Calls Try.prog 6 #[.slice lad ps.length lcap] W fun e w' => ∃ (ba : Option Addr) (bl bc : Nat) (n c : Int), e = .returned (.tuple #[.slice ba bl bc, .int .i64 n, .int .i64 c]) ∧ Below W.heap.size W w' ∧ Hid (UErr ps n c ∨ (c = 0 ∧ ∃ (bs : List Bd) (M : List (List UInt8 × List Nd)) (ns : List (List UInt8)), bs.length = bl ∧ BdAt w' w'.heap.size (.slice ba bl bc) bs ∧ UOk ps bs M ns)) := fun W hb => by
    have := HUT.out W ps.length hb (Nat.le_refl _)
    rw [List.take_length] at this
    refine Calls.mono this ?_
    rintro e w' ⟨hb2, v, n, c, rfl, ⟨rfl, hE⟩ | ⟨rfl, rfl, hp, es, bs, rss, M, ns, hR, hP, n1, n2, n3, n4, n5, n6, n7⟩⟩
    · exact ⟨none, 0, 0, n, c, rfl, hb2, .inl hE⟩
    · obtain ⟨ba, bc, rfl⟩ := row_len4 hR
      have hbl : bs.length < 140737488355328 := by
        have h1 := congrArg List.length n3
        rw [List.length_map] at h1
        have h2 := List.length_filter_le (pL M) ns
        omega
      exact ⟨ba, _, bc, 0, 0, rfl, hb2, .inr ⟨rfl, bs, M, ns, hR.len.symm, hR.at hbl, hp, hP, n1, n3, n4, n5, n6⟩⟩
  have CU2 : ∀ (k : Nat) (c : Int), k < ps.length → PsOk ps → Prs (ps.map prow) [] 0 (.inl (k, c)) → ∀ W, Below w.heap.size w W → Calls Try.prog 6 #[.slice lad k lcap] W fun e w' => ∃ (ba : Option Addr) (bl bc : Nat) (n f : Int), e = .returned (.tuple #[.slice ba bl bc, .int .i64 n, .int .i64 f]) ∧ (f = 0 ∨ f = 4) ∧ Below W.heap.size W w' := fun k c hk hp hP W hb => by
    refine Calls.mono (HUT.out W k hb (by omega)) ?_
    rintro e w' ⟨hb2, v, n, c', rfl, ⟨rfl, hE⟩ | ⟨rfl, rfl, _, es, bs, rss, M, ns, hR, _⟩⟩
    · exact ⟨none, 0, 0, n, c', rfl, .inr (agree_before hp hP hE), hb2⟩
    · obtain ⟨ba, bc, rfl⟩ := row_len4 hR
      exact ⟨ba, _, bc, 0, 0, rfl, .inl rfl, hb2⟩
  have CU3 : ∀ (k : Nat) (c : Int), k < ps.length → PsOk ps → Prs (ps.map prow) [] 0 (.inl (k, c)) → ∀ W, Below w.heap.size w W → Calls Try.prog 6 #[.slice lad (k + 1) lcap] W fun e w' => ∃ (ba : Option Addr) (bl bc : Nat), e = .returned (.tuple #[.slice ba bl bc, .int .i64 k, .int .i64 c]) ∧ Below W.heap.size W w' := fun k c hk hp hP W hb => by
    refine Calls.mono (HUT.out W (k + 1) hb (by omega)) ?_
    rintro e w' ⟨hb2, v, n, c', rfl, ⟨rfl, hE⟩ | ⟨rfl, rfl, _, es, bs, rss, M, ns, hR, hM, _⟩⟩
    · obtain ⟨rfl, rfl⟩ := agree_at hp hP hE
      exact ⟨none, 0, 0, rfl, hb2⟩
    · exact (agree_not hp hP hM).elim
  have HCU : Hid ((∀ (k : Nat) (c : Int), k < ps.length → PsOk ps → Prs (ps.map prow) [] 0 (.inl (k, c)) → ∀ W, Below w.heap.size w W → Calls Try.prog 6 #[.slice lad k lcap] W fun e w' => ∃ (ba : Option Addr) (bl bc : Nat) (n f : Int), e = .returned (.tuple #[.slice ba bl bc, .int .i64 n, .int .i64 f]) ∧ (f = 0 ∨ f = 4) ∧ Below W.heap.size W w') ∧ ∀ (k : Nat) (c : Int), k < ps.length → PsOk ps → Prs (ps.map prow) [] 0 (.inl (k, c)) → ∀ W, Below w.heap.size w W → Calls Try.prog 6 #[.slice lad (k + 1) lcap] W fun e w' => ∃ (ba : Option Addr) (bl bc : Nat), e = .returned (.tuple #[.slice ba bl bc, .int .i64 k, .int .i64 c]) ∧ Below W.heap.size W w') := ⟨CU2, CU3⟩
  have HL1 : Hid (∀ (j : Nat) (h : j < ps.length), ∃ g o k n ad1 l1 c1 k' n' ad2 l2 c2, lad = some ⟨g, o, none⟩ ∧ ∀ wr, Below w.heap.size w wr → (wr.cell? ⟨g, o + j * 6, none⟩ = some (.int .i64 k) ∧ wr.cell? ⟨g, o + j * 6 + 1, none⟩ = some (.string n) ∧ wr.cell? ⟨g, o + j * 6 + 2, none⟩ = some (.slice ad1 l1 c1) ∧ wr.cell? ⟨g, o + j * 6 + 3, none⟩ = some (.int .i64 k') ∧ wr.cell? ⟨g, o + j * 6 + 4, none⟩ = some (.string n') ∧ wr.cell? ⟨g, o + j * 6 + 5, none⟩ = some (.slice ad2 l2 c2)) ∧ TyAt wr w.heap.size ps[j].1.1 (.agg #[.int .i64 k, .string n, .slice ad1 l1 c1]) ps[j].1.2 ∧ TyAt wr w.heap.size ps[j].2.1 (.agg #[.int .i64 k', .string n', .slice ad2 l2 c2]) ps[j].2.2) := fun j hj => by
    obtain ⟨ad', cap', hv', _, h⟩ := HPL.out
    obtain ⟨g, o, had, _, _, h⟩ := h (fun e => by rw [e] at hj; simp at hj)
    obtain ⟨k, n, ad1, l1, c1, k', n', ad2, l2, c2, hcel, hA, hB2⟩ := h j hj
    simp only [Value.slice.injEq] at hv'
    exact ⟨g, o, k, n, ad1, l1, c1, k', n', ad2, l2, c2, by rw [hv'.1, had], fun wr hb => ⟨hcel wr hb, hA.on hb, hB2.on hb⟩⟩
  clear CU2 CU3
  go_enter Try.func3, Try.ntmps3
  go_upto_region 6 with (first
    | (go_at_call 4; (with_reducible refine Calls.mono C0 ?_); rintro e' w1 ⟨rfl, hb1⟩)
    | (go_at_call 5; (with_reducible refine Calls.mono (CA w1) ?_); rintro e' w2 ⟨rfl, hb2⟩; have hb12 := bel_on hb1 hb2)
    | (go_at_call 6; (with_reducible refine Calls.mono (CU w2 hb12) ?_); rintro e' w4 ⟨ba, bl, bc, un, uc, rfl, hb3, HU⟩))
  have HB4 : Hid (Below w.heap.size w w4) := bel_on hb12 hb3
  clear C0 CA CU hb1 hb2 hb12 hb3
  rcases HU.out with hE | ⟨rfl, bs, M, ns, rfl, hBd, hU⟩
  · by_cases hc : uc = 50 ∨ uc = 51
    · obtain ⟨k, rfl, hk, hp, hP⟩ := agree_err hE hc
      have CV := HCU.out.1 k uc hk hp hP w4 HB4.out
      have CW := fun W hb => HCU.out.2 k uc hk hp hP W (bel_on HB4.out hb)
      have k1 : ¬ (k : Int) < 0 := by omega
      have k2 : ¬ (k : Int) ≥ (ps.length : Int) := by omega
      have k3 : (k : Int) ≤ (lcap : Int) := by omega
      have k4 : (k : Int) + 1 ≤ (lcap : Int) := by omega
      have k5 : (0 : Int) ≤ (k : Int) := by omega
      clear hE hp hP HU HCU HL1 HUT HSM HPL
      rcases hc with rfl | rfl
      · go_upto_region 12 with (first
          | (go_at_call 6; (with_reducible refine Calls.mono CV ?_); rintro e' w5 ⟨ba2, bl2, bc2, un2, f2, rfl, hf2, hb5⟩))
        rcases hf2 with rfl | rfl
        · go_wp2_with (first
            | (go_at_call 6; (with_reducible refine Calls.mono (CW w5 hb5) ?_); rintro e' w6 ⟨ba3, bl3, bc3, rfl, hb6⟩))
          go_ret
          exact ⟨rfl, bel_on (bel_on HB4.out hb5) hb6⟩
        · go_wp2_with (first
            | (go_at_call 6; (with_reducible refine Calls.mono (CW w5 hb5) ?_); rintro e' w6 ⟨ba3, bl3, bc3, rfl, hb6⟩))
          go_ret
          exact ⟨rfl, bel_on (bel_on HB4.out hb5) hb6⟩
      · go_upto_region 12 with (first
          | (go_at_call 6; (with_reducible refine Calls.mono CV ?_); rintro e' w5 ⟨ba2, bl2, bc2, un2, f2, rfl, hf2, hb5⟩))
        rcases hf2 with rfl | rfl
        · go_wp2_with (first
            | (go_at_call 6; (with_reducible refine Calls.mono (CW w5 hb5) ?_); rintro e' w6 ⟨ba3, bl3, bc3, rfl, hb6⟩))
          go_ret
          exact ⟨rfl, bel_on (bel_on HB4.out hb5) hb6⟩
        · go_wp2_with (first
            | (go_at_call 6; (with_reducible refine Calls.mono (CW w5 hb5) ?_); rintro e' w6 ⟨ba3, bl3, bc3, rfl, hb6⟩))
          go_ret
          exact ⟨rfl, bel_on (bel_on HB4.out hb5) hb6⟩
    · have hc0 := uerr_zero hE
      have q1 : (uc == 50) = false := by simp; omega
      have q2 : (uc == 51) = false := by simp; omega
      have q3 : (uc == 0) = false := by simpa using hc0
      have q4 : (uc != 0) = true := by simpa using hc0
      clear hE HU HCU HL1 HUT HSM HPL hc
      go_wp2
      go_ret
      exact ⟨rfl, HB4.out⟩
  · have HUO : Hid (UOk ps bs M ns ∧ BdAt w4 w4.heap.size (.slice ba bs.length bc) bs ∧ ∀ x ∈ bs, (flat x.2.1 x.2.2).length ≤ 4194304) := ⟨hU, hBd, fun x hx => by
      have hm : x.1 ∈ ns := by
        have : x.1 ∈ bs.map (·.1) := List.mem_map.2 ⟨x, hx, rfl⟩
        rw [hU.names] at this
        exact (List.mem_filter.1 this).1
      have := (hU.small _ hm).2
      rw [hU.says x hx]
      omega⟩
    have hbl : bs.length < 140737488355328 := by
      obtain ⟨_, _, _, h, _⟩ := hBd
      exact h
    have HAP : Hid (∀ W d x (t : Tn d), Below w4.heap.size w4 W → TyAt W W.heap.size d x t → (flat d t).length ≤ 4194304 → Calls Try.prog 7 #[.slice ba bs.length bc, x] W fun e w' => ∃ (k : Int) (n : ByteArray) (ad : Option Addr) (len cap D : Nat) (tt : Tn D), e = .returned (.tuple #[.agg #[.int .i64 k, .string n, .slice ad len cap], .int .i64 (applyE bs d t)]) ∧ Below W.heap.size W w' ∧ Hid (TyAt w' w'.heap.size D (.agg #[.int .i64 k, .string n, .slice ad len cap]) tt ∧ flat D tt = applyF bs d t ∧ (flat D tt).length ≤ 500)) := fun W d x t hb hx hN => apply_x bs _ d x t W W.heap.size (Nat.le_refl _) (HUO.out.2.1.below hb hb.size) hx HUO.out.2.2 hN
    clear hU hBd HU HCU HUT HPL
    go_upto_region 17 with fail
    go_loopw [14] (fun iv wr => ∃ j : Nat, j ≤ ps.length ∧ iv = .int .i64 j ∧ Hid (Below w4.heap.size w4 wr)) (fun iv _ => ps.length - (intOf iv).toNat)
    case atStart => exact ⟨0, by omega, by go_num, Below.refl _ _⟩
    case round =>
      obtain ⟨j, hj, rfl, HP⟩ := hrel
      have hbr4 : Below w4.heap.size w4 wr := HP.out
      have hbr : Below w.heap.size w wr := bel_on HB4.out hbr4
      by_cases hgo : j < ps.length ∧ j < 300
      · obtain ⟨hlt, h3⟩ := hgo
        have hlt' : (j : Int) < (ps.length : Int) := by omega
        have h3' : (j : Int) < 300 := by omega
        have hj0 : (0 : Int) ≤ (j : Int) := by omega
        obtain ⟨g, o, k, n, ad1, l1, c1, k', n', ad2, l2, c2, rfl, hcl⟩ := HL1.out j hlt
        obtain ⟨⟨d0, d1, d2, d3, d4, d5⟩, hA, hB2⟩ := hcl wr hbr
        have hws := hbr.size
        obtain ⟨p1, p2, p3, p4⟩ := HUO.out.1.pair j hlt
        have CX := HAP.out wr _ _ ps[j].1.2 hbr4 (TyAt.below (Below.refl _ wr) hws _ _ _ hA) (HSM.out _ (List.getElem_mem hlt)).1
        have CY : ∀ W, Below wr.heap.size wr W → Calls Try.prog 7 #[.slice ba bs.length bc, .agg #[.int .i64 k', .string n', .slice ad2 l2 c2]] W fun e w' => ∃ (k : Int) (n : ByteArray) (ad : Option Addr) (len cap D : Nat) (tt : Tn D), e = .returned (.tuple #[.agg #[.int .i64 k, .string n, .slice ad len cap], .int .i64 (applyE bs ps[j].1.1 ps[j].1.2)]) ∧ Below W.heap.size W w' ∧ Hid (TyAt w' w'.heap.size D (.agg #[.int .i64 k, .string n, .slice ad len cap]) tt ∧ flat D tt = applyF bs ps[j].2.1 ps[j].2.2 ∧ (flat D tt).length ≤ 500) := fun W hb => by
          rw [p1]
          exact HAP.out W _ _ ps[j].2.2 (bel_on hbr4 hb) (TyAt.below (Below.refl _ W) (Nat.le_trans hws hb.size) _ _ _ (hcl W (bel_on hbr hb)).2.2) (HSM.out _ (List.getElem_mem hlt)).2
        have HC5 : Hid (∀ W, Below wr.heap.size wr W → W.cell? ⟨g, o + j * 6, none⟩ = some (.int .i64 k) ∧ W.cell? ⟨g, o + j * 6 + 1, none⟩ = some (.string n) ∧ W.cell? ⟨g, o + j * 6 + 2, none⟩ = some (.slice ad1 l1 c1) ∧ W.cell? ⟨g, o + j * 6 + 3, none⟩ = some (.int .i64 k') ∧ W.cell? ⟨g, o + j * 6 + 4, none⟩ = some (.string n') ∧ W.cell? ⟨g, o + j * 6 + 5, none⟩ = some (.slice ad2 l2 c2)) := fun W hb => (hcl W (bel_on hbr hb)).1
        have CZ : ∀ W (k : Int) (n : ByteArray) (ad : Option Addr) (len cap D : Nat) (tt : Tn D), Below wr.heap.size wr W → TyAt W W.heap.size D (.agg #[.int .i64 k, .string n, .slice ad len cap]) tt → (flat D tt).length ≤ 500 → Calls Try.prog 7 #[.slice ba bs.length bc, .agg #[.int .i64 k, .string n, .slice ad len cap]] W fun e w' => ∃ (k : Int) (n : ByteArray) (ad : Option Addr) (len cap D' : Nat) (tt' : Tn D'), e = .returned (.tuple #[.agg #[.int .i64 k, .string n, .slice ad len cap], .int .i64 (applyE bs D tt)]) ∧ Below W.heap.size W w' ∧ Hid (TyAt w' w'.heap.size D' (.agg #[.int .i64 k, .string n, .slice ad len cap]) tt' ∧ flat D' tt' = applyF bs D tt ∧ (flat D' tt').length ≤ 500) := fun W k n ad len cap D tt hW hT h5 => HAP.out W D _ tt (bel_on hbr4 hW) hT (by omega)
        have HFE : Hid (applyF bs ps[j].1.1 ps[j].1.2 = applyF bs ps[j].2.1 ps[j].2.2) := p2
        have HLT : Hid (j < ps.length) := hlt
        have CZ0 : applyE bs ps[j].1.1 ps[j].1.2 = 0 → ∀ W (k : Int) (n : ByteArray) (ad : Option Addr) (len cap D : Nat) (tt : Tn D), Below wr.heap.size wr W → TyAt W W.heap.size D (.agg #[.int .i64 k, .string n, .slice ad len cap]) tt → (flat D tt).length ≤ 500 → flat D tt = applyF bs ps[j].1.1 ps[j].1.2 → Calls Try.prog 7 #[.slice ba bs.length bc, .agg #[.int .i64 k, .string n, .slice ad len cap]] W fun e w' => ∃ (k : Int) (n : ByteArray) (ad : Option Addr) (len cap D' : Nat) (tt' : Tn D'), e = .returned (.tuple #[.agg #[.int .i64 k, .string n, .slice ad len cap], .int .i64 0]) ∧ Below W.heap.size W w' ∧ Hid (TyAt w' w'.heap.size D' (.agg #[.int .i64 k, .string n, .slice ad len cap]) tt' ∧ flat D' tt' = flat D tt ∧ (flat D' tt').length ≤ 500) := fun h0 W k n ad len cap D tt hW hT h5 hF => by
          obtain ⟨q1, q2⟩ := p4 D tt hF h0
          have := CZ W k n ad len cap D tt hW hT h5
          rw [q1, q2] at this
          exact this
        clear hcl hA hB2 HP p1 p2 p4 hbr
        generalize applyE bs ps[j].1.1 ps[j].1.2 = E1 at *
        generalize applyF bs ps[j].1.1 ps[j].1.2 = F1 at *
        generalize applyF bs ps[j].2.1 ps[j].2.2 = F2 at *
        rcases p3 with rfl | rfl | ⟨rfl, hbig⟩
        · replace CZ0 := CZ0 rfl
          clear CZ
          go_wp2_with (first
            | (go_at_call 7; (with_reducible refine Calls.mono CX ?_); rintro e' w5 ⟨x1, x2, x3, x4, x5, D1, tt1, rfl, hb5, H5⟩; have hU5 : Below wr.heap.size wr (w5.alloc (Obj.cells #[.int .i64 x1, .string x2, .slice x3 x4 x5] 31)) := bel_on hb5 (below_box w5 x1 x2 x3 x4 x5); obtain ⟨r0, r1, r2, r3, r4, r5⟩ := HC5.out _ hU5)
            | (go_at_call 7; (with_reducible refine Calls.mono (CY _ hU5) ?_); rintro e' w6 ⟨y1, y2, y3, y4, y5, D2, tt2, rfl, hb6, H6⟩; have hV6 : Below (w5.alloc (Obj.cells #[.int .i64 x1, .string x2, .slice x3 x4 x5] 31)).heap.size (w5.alloc (Obj.cells #[.int .i64 x1, .string x2, .slice x3 x4 x5] 31)) (w6.alloc (Obj.cells #[.int .i64 y1, .string y2, .slice y3 y4 y5] 31)) := bel_on hb6 (below_box w6 y1 y2 y3 y4 y5); obtain ⟨s0, s1, s2⟩ := box_at hV6; have CS := same_true (TyAt.below (bel_on (below_box w5 x1 x2 x3 x4 x5) hV6) (bel_on (below_box w5 x1 x2 x3 x4 x5) hV6).size _ _ _ H5.out.1) (TyAt.below (below_box w6 y1 y2 y3 y4 y5) (below_box w6 y1 y2 y3 y4 y5).size _ _ _ H6.out.1) (H5.out.2.1.trans (HFE.out.trans H6.out.2.1.symm)))
            | (go_at_call 8; (with_reducible refine Calls.mono CS ?_); rintro e' w7 ⟨rfl, hb7⟩; have hV7 : Below (w5.alloc (Obj.cells #[.int .i64 x1, .string x2, .slice x3 x4 x5] 31)).heap.size (w5.alloc (Obj.cells #[.int .i64 x1, .string x2, .slice x3 x4 x5] 31)) w7 := bel_on hV6 hb7; obtain ⟨t0, t1, t2⟩ := box_at hV7; have T7 := TyAt.below (bel_on (below_box w5 x1 x2 x3 x4 x5) hV7) (bel_on (below_box w5 x1 x2 x3 x4 x5) hV7).size _ _ _ H5.out.1)
            | (go_at_call 7; (with_reducible refine Calls.mono (CZ0 w7 x1 x2 x3 x4 x5 D1 tt1 (bel_on hU5 hV7) T7 H5.out.2.2 H5.out.2.1) ?_); rintro e' w8 ⟨z1, z2, z3, z4, z5, D3, tt3, rfl, hb8, H8⟩; have hV8 : Below w7.heap.size w7 (w8.alloc (Obj.cells #[.int .i64 z1, .string z2, .slice z3 z4 z5] 31)) := bel_on hb8 (below_box w8 z1 z2 z3 z4 z5); have hW8 : Below (w5.alloc (Obj.cells #[.int .i64 x1, .string x2, .slice x3 x4 x5] 31)).heap.size (w5.alloc (Obj.cells #[.int .i64 x1, .string x2, .slice x3 x4 x5] 31)) (w8.alloc (Obj.cells #[.int .i64 z1, .string z2, .slice z3 z4 z5] 31)) := bel_on hV7 hV8; obtain ⟨v0, v1, v2⟩ := box_at hW8; have CS2 := same_true (TyAt.below (below_box w8 z1 z2 z3 z4 z5) (below_box w8 z1 z2 z3 z4 z5).size _ _ _ H8.out.1) (TyAt.below hV8 hV8.size _ _ _ T7) H8.out.2.1)
            | (go_at_call 8; (with_reducible refine Calls.mono CS2 ?_); rintro e' w9 ⟨rfl, hb9⟩))
          have HN : Hid (Below w4.heap.size w4 w9) := bel_on hbr4 (bel_on (bel_on hU5 hW8) hb9)
          go_roundw
          case rel => exact ⟨j + 1, HLT.out, by go_num, HN.out⟩
          case measure => have := HLT.out; simp [intOf]; omega
        · clear CZ0
          go_wp2_with (first
            | (go_at_call 7; (with_reducible refine Calls.mono CX ?_); rintro e' w5 ⟨x1, x2, x3, x4, x5, D1, tt1, rfl, hb5, H5⟩; have hU5 : Below wr.heap.size wr (w5.alloc (Obj.cells #[.int .i64 x1, .string x2, .slice x3 x4 x5] 31)) := bel_on hb5 (below_box w5 x1 x2 x3 x4 x5); obtain ⟨r0, r1, r2, r3, r4, r5⟩ := HC5.out _ hU5)
            | (go_at_call 7; (with_reducible refine Calls.mono (CY _ hU5) ?_); rintro e' w6 ⟨y1, y2, y3, y4, y5, D2, tt2, rfl, hb6, H6⟩; have hV6 : Below (w5.alloc (Obj.cells #[.int .i64 x1, .string x2, .slice x3 x4 x5] 31)).heap.size (w5.alloc (Obj.cells #[.int .i64 x1, .string x2, .slice x3 x4 x5] 31)) (w6.alloc (Obj.cells #[.int .i64 y1, .string y2, .slice y3 y4 y5] 31)) := bel_on hb6 (below_box w6 y1 y2 y3 y4 y5); obtain ⟨s0, s1, s2⟩ := box_at hV6; have CS := same_true (TyAt.below (bel_on (below_box w5 x1 x2 x3 x4 x5) hV6) (bel_on (below_box w5 x1 x2 x3 x4 x5) hV6).size _ _ _ H5.out.1) (TyAt.below (below_box w6 y1 y2 y3 y4 y5) (below_box w6 y1 y2 y3 y4 y5).size _ _ _ H6.out.1) (H5.out.2.1.trans (HFE.out.trans H6.out.2.1.symm)))
            | (go_at_call 8; (with_reducible refine Calls.mono CS ?_); rintro e' w7 ⟨rfl, hb7⟩; have hV7 : Below (w5.alloc (Obj.cells #[.int .i64 x1, .string x2, .slice x3 x4 x5] 31)).heap.size (w5.alloc (Obj.cells #[.int .i64 x1, .string x2, .slice x3 x4 x5] 31)) w7 := bel_on hV6 hb7; obtain ⟨t0, t1, t2⟩ := box_at hV7; have T7 := TyAt.below (bel_on (below_box w5 x1 x2 x3 x4 x5) hV7) (bel_on (below_box w5 x1 x2 x3 x4 x5) hV7).size _ _ _ H5.out.1)
            | (go_at_call 7; (with_reducible refine Calls.mono (CZ w7 x1 x2 x3 x4 x5 D1 tt1 (bel_on hU5 hV7) T7 H5.out.2.2) ?_); rintro e' w8 ⟨z1, z2, z3, z4, z5, D3, tt3, rfl, hb8, H8⟩; have hV8 : Below w7.heap.size w7 (w8.alloc (Obj.cells #[.int .i64 z1, .string z2, .slice z3 z4 z5] 31)) := bel_on hb8 (below_box w8 z1 z2 z3 z4 z5); have hW8 : Below (w5.alloc (Obj.cells #[.int .i64 x1, .string x2, .slice x3 x4 x5] 31)).heap.size (w5.alloc (Obj.cells #[.int .i64 x1, .string x2, .slice x3 x4 x5] 31)) (w8.alloc (Obj.cells #[.int .i64 z1, .string z2, .slice z3 z4 z5] 31)) := bel_on hV7 hV8; obtain ⟨v0, v1, v2⟩ := box_at hW8; have CS2 := same_any D3 D1 _ _ tt3 tt1 _ _ (Nat.le_refl _) (TyAt.below (below_box w8 z1 z2 z3 z4 z5) (below_box w8 z1 z2 z3 z4 z5).size _ _ _ H8.out.1) (TyAt.below hV8 hV8.size _ _ _ T7))
            | (go_at_call 8; (with_reducible refine Calls.mono CS2 ?_); rintro e' w9 ⟨rfl, hb9⟩))
          have HN : Hid (Below w4.heap.size w4 w9) := bel_on hbr4 (bel_on (bel_on hU5 hW8) hb9)
          go_roundw
          case rel => exact ⟨j + 1, HLT.out, by go_num, HN.out⟩
          case measure => have := HLT.out; simp [intOf]; omega
        · have hbig' : (bs.length : Int) > 100000 := by omega
          clear CZ0
          go_wp2_with (first
            | (go_at_call 7; (with_reducible refine Calls.mono CX ?_); rintro e' w5 ⟨x1, x2, x3, x4, x5, D1, tt1, rfl, hb5, H5⟩; have hU5 : Below wr.heap.size wr (w5.alloc (Obj.cells #[.int .i64 x1, .string x2, .slice x3 x4 x5] 31)) := bel_on hb5 (below_box w5 x1 x2 x3 x4 x5); obtain ⟨r0, r1, r2, r3, r4, r5⟩ := HC5.out _ hU5)
            | (go_at_call 7; (with_reducible refine Calls.mono (CY _ hU5) ?_); rintro e' w6 ⟨y1, y2, y3, y4, y5, D2, tt2, rfl, hb6, H6⟩; have hV6 : Below (w5.alloc (Obj.cells #[.int .i64 x1, .string x2, .slice x3 x4 x5] 31)).heap.size (w5.alloc (Obj.cells #[.int .i64 x1, .string x2, .slice x3 x4 x5] 31)) (w6.alloc (Obj.cells #[.int .i64 y1, .string y2, .slice y3 y4 y5] 31)) := bel_on hb6 (below_box w6 y1 y2 y3 y4 y5); obtain ⟨s0, s1, s2⟩ := box_at hV6; have CS := same_true (TyAt.below (bel_on (below_box w5 x1 x2 x3 x4 x5) hV6) (bel_on (below_box w5 x1 x2 x3 x4 x5) hV6).size _ _ _ H5.out.1) (TyAt.below (below_box w6 y1 y2 y3 y4 y5) (below_box w6 y1 y2 y3 y4 y5).size _ _ _ H6.out.1) (H5.out.2.1.trans (HFE.out.trans H6.out.2.1.symm)))
            | (go_at_call 8; (with_reducible refine Calls.mono CS ?_); rintro e' w7 ⟨rfl, hb7⟩; have hV7 : Below (w5.alloc (Obj.cells #[.int .i64 x1, .string x2, .slice x3 x4 x5] 31)).heap.size (w5.alloc (Obj.cells #[.int .i64 x1, .string x2, .slice x3 x4 x5] 31)) w7 := bel_on hV6 hb7; obtain ⟨t0, t1, t2⟩ := box_at hV7; have T7 := TyAt.below (bel_on (below_box w5 x1 x2 x3 x4 x5) hV7) (bel_on (below_box w5 x1 x2 x3 x4 x5) hV7).size _ _ _ H5.out.1)
            | (go_at_call 7; (with_reducible refine Calls.mono (CZ w7 x1 x2 x3 x4 x5 D1 tt1 (bel_on hU5 hV7) T7 H5.out.2.2) ?_); rintro e' w8 ⟨z1, z2, z3, z4, z5, D3, tt3, rfl, hb8, H8⟩; have hV8 : Below w7.heap.size w7 (w8.alloc (Obj.cells #[.int .i64 z1, .string z2, .slice z3 z4 z5] 31)) := bel_on hb8 (below_box w8 z1 z2 z3 z4 z5); have hW8 : Below (w5.alloc (Obj.cells #[.int .i64 x1, .string x2, .slice x3 x4 x5] 31)).heap.size (w5.alloc (Obj.cells #[.int .i64 x1, .string x2, .slice x3 x4 x5] 31)) (w8.alloc (Obj.cells #[.int .i64 z1, .string z2, .slice z3 z4 z5] 31)) := bel_on hV7 hV8; obtain ⟨v0, v1, v2⟩ := box_at hW8; have CS2 := same_any D3 D1 _ _ tt3 tt1 _ _ (Nat.le_refl _) (TyAt.below (below_box w8 z1 z2 z3 z4 z5) (below_box w8 z1 z2 z3 z4 z5).size _ _ _ H8.out.1) (TyAt.below hV8 hV8.size _ _ _ T7))
            | (go_at_call 8; (with_reducible refine Calls.mono CS2 ?_); rintro e' w9 ⟨rfl, hb9⟩))
          have HN : Hid (Below w4.heap.size w4 w9) := bel_on hbr4 (bel_on (bel_on hU5 hW8) hb9)
          go_roundw
          case rel => exact ⟨j + 1, HLT.out, by go_num, HN.out⟩
          case measure => have := HLT.out; simp [intOf]; omega
      · have HB9 : Hid (Below w.heap.size w wr) := hbr
        clear HP hbr4 hbr
        by_cases hlt : j < ps.length
        · have hlt' : (j : Int) < (ps.length : Int) := by omega
          have h3' : ¬ (j : Int) < 300 := by omega
          go_wp2
          go_ret
          exact ⟨rfl, HB9.out⟩
        · have hlt' : ¬ (j : Int) < (ps.length : Int) := by omega
          go_wp2
          go_ret
          exact ⟨rfl, HB9.out⟩
end Go.Proofs.Ytikpipenhamdbaa
