/- TypesMost: the walk. -/
import Derived.Test.YtikpipenhamdbaaGreatHr
import Derived.Test.YtikpipenhamdbaaGreatHu
import Derived.Test.YtikpipenhamdbaaGreatMix
import Derived.Test.YtikpipenhamdbaaGreatAy
import Derived.Test.YtikpipenhamdbaaGreatQh
namespace Go.Proofs.YtikpipenhamdbaaGreat
open Go.RowKit

/-- What Apply answers, in parts. -/
def ApX (bs : List Bd) (d : Nat) (t : Tn d) (W : World) (e : Ending) (w' : World) : Prop :=
  ∃ (k : Int) (n : ByteArray) (ad : Option Addr) (len cap D : Nat) (tt : Tn D), e = .returned (.tuple #[.agg #[.int .i64 k, .string n, .slice ad len cap], .int .i64 (applyE bs d t)]) ∧ Below W.heap.size W w' ∧ Hid (TyAt w' w'.heap.size D (.agg #[.int .i64 k, .string n, .slice ad len cap]) tt ∧ flat D tt = applyF bs d t ∧ (flat D tt).length ≤ 500)
theorem apply_x (bs : List Bd) (bv : Value) (d : Nat) (x : Value) (t : Tn d) (w : World) (B : Nat) (hB : B ≤ w.heap.size) (hv : BdAt w B bv bs) (hx : TyAt w B d x t) (hM : ∀ x ∈ bs, (flat x.2.1 x.2.2).length ≤ 4194304) (hN : (flat d t).length ≤ 4194304) :
    Calls Tryz.prog 8 #[bv, x] w fun e w' => ∃ (k : Int) (n : ByteArray) (ad : Option Addr) (len cap D : Nat) (tt : Tn D), e = .returned (.tuple #[.agg #[.int .i64 k, .string n, .slice ad len cap], .int .i64 (applyE bs d t)]) ∧ Below w.heap.size w w' ∧ Hid (TyAt w' w'.heap.size D (.agg #[.int .i64 k, .string n, .slice ad len cap]) tt ∧ flat D tt = applyF bs d t ∧ (flat D tt).length ≤ 500) := by
  refine Calls.mono (apply_any bs bv d x t w B hB hv hx hM hN) ?_
  rintro e w' ⟨hb, k, n, ad, len, cap, D, tt, rws, rfl, hT, hS, hf, h5⟩
  exact ⟨k, n, ad, len, cap, D, tt, rfl, hb, TyO.at _ _ _ _ (fun p hp g hg => by
    obtain ⟨g', e1, _, e3⟩ := hS.1 p hp
    rw [hg] at e1
    have := Option.some.inj e1
    omega) hT, hf, h5⟩
/-- A box is made, and what is told of it. -/
theorem box_at {w w' : World} {k : Int} {n : ByteArray} {ad : Option Addr} {len cap : Nat} (hb : Below (w.alloc (Obj.cells #[.int .i64 k, .string n, .slice ad len cap] 29)).heap.size (w.alloc (Obj.cells #[.int .i64 k, .string n, .slice ad len cap] 29)) w') : w'.cell? ⟨w.heap.size, 0, none⟩ = some (.int .i64 k) ∧ w'.cell? ⟨w.heap.size, 1, none⟩ = some (.string n) ∧ w'.cell? ⟨w.heap.size, 2, none⟩ = some (.slice ad len cap) :=
  heap_cells ((hb.block _ (by simp)).trans (heap_alloc_new w _))
theorem below_box (w : World) (k : Int) (n : ByteArray) (ad : Option Addr) (len cap : Nat) : Below w.heap.size w (w.alloc (Obj.cells #[.int .i64 k, .string n, .slice ad len cap] 29)) := (Below.refl _ _).alloc (Nat.le_refl _) _
theorem bel_on {w a b : World} (h : Below w.heap.size w a) (k : Below a.heap.size a b) : Below w.heap.size w b := h.trans (k.mono h.size)
/-- The variables that were gathered. -/
def AllV (w4 W : World) (va : Option Addr) (m vc : Nat) : Prop := ∃ es : List El, es.length = m ∧ Below w4.heap.size w4 W ∧ W.ownsRow w4.heap.size 29 3 (.slice va m vc) es.length (es.flatMap elCells) ∧ ∀ e ∈ es, VarE e
theorem allV_more {w4 W : World} {va : Option Addr} {m vc B : Nat} (h : AllV w4 W va m vc) (hB : B ≤ w4.heap.size) {d : Nat} {x : Value} {t : Tn d} (hx : TyAt W B d x t) (hf : formB d t = true) (h5 : (flat d t).length ≤ 500) (hm : m ≤ 2000) :
    Calls Tryz.prog 11 #[.slice va m vc, x] W fun e w' => ∃ (va' : Option Addr) (m' vc' : Nat), e = .returned (.slice va' m' vc') ∧ m' ≤ m + 500 ∧ Hid (AllV w4 w' va' m' vc') := by
  obtain ⟨es, rfl, hb, ho, hv⟩ := h
  refine Calls.mono (variables_any w4.heap.size d x t W B _ es hB hb.size hx hf ho hv (by omega)) ?_
  rintro e w' ⟨v', es', rfl, P⟩
  obtain ⟨va', vc', rfl⟩ : ∃ va' vc', v' = .slice va' es'.length vc' := by
    rcases P.own.2 with ⟨e1, e2⟩ | ⟨g, cap, _, e1, _⟩
    · exact ⟨none, 0, by rw [e1, e2]⟩
    · exact ⟨_, _, e1⟩
  have hl := P.len
  exact ⟨va', es'.length, vc', rfl, by omega, es', rfl, hb.trans (P.below ho hb.size), P.own, P.all⟩
theorem AllV.sm {w4 W : World} {va : Option Addr} {m vc : Nat} (h : AllV w4 W va m vc) {W' : World} (hb : Below W.heap.size W W') : AllV w4 W' va m vc := by
  obtain ⟨es, h1, h2, h3, h4⟩ := h
  exact ⟨es, h1, bel_on h2 hb, own_keep h3 fun k hk => hb.block k (h3.lt k hk).2, h4⟩
set_option maxHeartbeats 16000000 in
set_option maxRecDepth 10000 in
theorem most_try (hA : Wakes) (ps : List Pr) (cs : List Bd) (v cv : Value) (w : World) (hl : PrAt w w.heap.size v ps) (hc : BdAt w w.heap.size cv cs) (hg0 : greatB (pbs ps) = false) (hg1 : greatB cs = false) :
    Calls Tryz.prog 3 #[v, cv] w fun r w' => r = .returned (.bool true) ∧ Below w.heap.size w w' := by
  have C0 := greatPairs_any v ps w w.heap.size (Nat.le_refl _) hl
  rw [hg0] at C0
  have C1 : ∀ W, Below w.heap.size w W → Calls Tryz.prog 6 #[cv] W fun r w' => r = .returned (.bool false) ∧ Below W.heap.size W w' := fun W hb => by
    have := greatBounds_any cv cs W w.heap.size hb.size (hc.below hb (Nat.le_refl _))
    rw [hg1] at this
    exact this
  have CA : ∀ W, Calls Tryz.prog 7 #[] W fun r w' => r = .returned (.bool true) ∧ Below W.heap.size W w' := hA
  have HPL : Hid (PrAt w w.heap.size v ps) := hl
  have HCC : Hid (BdAt w w.heap.size cv cs) := hc
  obtain ⟨lad, lcap, rfl, hpl, -⟩ := hl
  obtain ⟨cad, ccap, rfl, hcl, -⟩ := hc
  have hpl2 : ps.length < 140737488355328 := hpl
  go_enter Tryz.func3, Tryz.ntmps3
  go_upto_region 6 with (first
    | (go_at_call 5; (with_reducible refine Calls.mono C0 ?_); rintro e' w1 ⟨rfl, hb1⟩)
    | (go_at_call 6; (with_reducible refine Calls.mono (C1 w1 hb1) ?_); rintro e' w2 ⟨rfl, hb2⟩)
    | (go_at_call 7; (with_reducible refine Calls.mono (CA w2) ?_); rintro e' w3 ⟨rfl, hb3⟩))
  have hb : Below w.heap.size w w3 := hb1.trans ((hb2.mono hb1.size).trans (hb3.mono (Nat.le_trans hb1.size hb2.size)))
  clear C0 C1 CA hb1 hb2 hb3
  have HL1 : Hid (∀ (j : Nat) (h : j < ps.length), ∃ g o k n ad1 l1 c1 k' n' ad2 l2 c2, lad = some ⟨g, o, none⟩ ∧ ∀ wr, Below w.heap.size w wr → (wr.cell? ⟨g, o + j * 6, none⟩ = some (.int .i64 k) ∧ wr.cell? ⟨g, o + j * 6 + 1, none⟩ = some (.string n) ∧ wr.cell? ⟨g, o + j * 6 + 2, none⟩ = some (.slice ad1 l1 c1) ∧ wr.cell? ⟨g, o + j * 6 + 3, none⟩ = some (.int .i64 k') ∧ wr.cell? ⟨g, o + j * 6 + 4, none⟩ = some (.string n') ∧ wr.cell? ⟨g, o + j * 6 + 5, none⟩ = some (.slice ad2 l2 c2)) ∧ TyAt wr w.heap.size ps[j].1.1 (.agg #[.int .i64 k, .string n, .slice ad1 l1 c1]) ps[j].1.2 ∧ TyAt wr w.heap.size ps[j].2.1 (.agg #[.int .i64 k', .string n', .slice ad2 l2 c2]) ps[j].2.2) := fun j hj => by
    obtain ⟨ad', cap', hv', _, h⟩ := HPL.out
    obtain ⟨g, o, had, _, _, h⟩ := h (fun e => by rw [e] at hj; simp at hj)
    obtain ⟨k, n, ad1, l1, c1, k', n', ad2, l2, c2, hcel, hA, hB2⟩ := h j hj
    simp only [Value.slice.injEq] at hv'
    exact ⟨g, o, k, n, ad1, l1, c1, k', n', ad2, l2, c2, by rw [hv'.1, had], fun wr hb => ⟨hcel wr hb, hA.on hb, hB2.on hb⟩⟩
  have HSM : Hid ((∀ p ∈ ps, (flat p.1.1 p.1.2).length ≤ 4194304 ∧ (flat p.2.1 p.2.2).length ≤ 4194304) ∧ ∀ x ∈ cs, (flat x.2.1 x.2.2).length ≤ 4194304) := by
    refine ⟨pbs_small hg0, fun x hx => ?_⟩
    have h0 : 0 ≤ leftB cs 4194304 := by
      unfold greatB at hg1
      have := of_decide_eq_false hg1
      omega
    have := leftB_nodes cs 4194304 (by omega) h0 x hx
    omega
  have HAP : Hid (∀ W d x (t : Tn d), Below w.heap.size w W → TyAt W W.heap.size d x t → (flat d t).length ≤ 4194304 → Calls Tryz.prog 8 #[.slice cad cs.length ccap, x] W fun e w' => ∃ (k : Int) (n : ByteArray) (ad : Option Addr) (len cap D : Nat) (tt : Tn D), e = .returned (.tuple #[.agg #[.int .i64 k, .string n, .slice ad len cap], .int .i64 (applyE cs d t)]) ∧ Below W.heap.size W w' ∧ Hid (TyAt w' w'.heap.size D (.agg #[.int .i64 k, .string n, .slice ad len cap]) tt ∧ flat D tt = applyF cs d t ∧ (flat D tt).length ≤ 500)) := fun W d x t hb hx hN => apply_x cs _ d x t W W.heap.size (Nat.le_refl _) (HCC.out.below hb hb.size) hx HSM.out.2 hN
  go_upto_region 9 with fail
  go_loopw [8] (fun iv wr => ∃ j : Nat, j ≤ ps.length ∧ iv = .int .i64 j ∧ Hid (Below w.heap.size w wr ∧ ∀ (i : Nat) (h : i < ps.length), i < j → applyE cs ps[i].1.1 ps[i].1.2 = 0 ∧ applyE cs ps[i].2.1 ps[i].2.2 = 0 ∧ applyF cs ps[i].1.1 ps[i].1.2 = applyF cs ps[i].2.1 ps[i].2.2)) (fun iv _ => ps.length - (intOf iv).toNat)
  case atStart => exact ⟨0, by omega, by go_num, hb, fun i _ h => by omega⟩
  case round =>
    obtain ⟨j, hj, rfl, HP⟩ := hrel
    clear hb
    obtain ⟨hbr, hok⟩ := HP.out
    by_cases hlt : j < ps.length
    · have hlt' : (j : Int) < (ps.length : Int) := by omega
      have hj0 : (0 : Int) ≤ (j : Int) := by omega
      obtain ⟨g, o, k, n, ad1, l1, c1, k', n', ad2, l2, c2, rfl, hcl⟩ := HL1.out j hlt
      obtain ⟨⟨d0, d1, d2, d3, d4, d5⟩, hA, hB2⟩ := hcl wr hbr
      have hws := hbr.size
      have CX := HAP.out wr _ _ ps[j].1.2 hbr (TyAt.below (Below.refl _ wr) hws _ _ _ hA) (HSM.out.1 _ (List.getElem_mem hlt)).1
      have CY : ∀ W, Below wr.heap.size wr W → Calls Tryz.prog 8 #[.slice cad cs.length ccap, .agg #[.int .i64 k', .string n', .slice ad2 l2 c2]] W fun e w' => ∃ (k : Int) (n : ByteArray) (ad : Option Addr) (len cap D : Nat) (tt : Tn D), e = .returned (.tuple #[.agg #[.int .i64 k, .string n, .slice ad len cap], .int .i64 (applyE cs ps[j].2.1 ps[j].2.2)]) ∧ Below W.heap.size W w' ∧ Hid (TyAt w' w'.heap.size D (.agg #[.int .i64 k, .string n, .slice ad len cap]) tt ∧ flat D tt = applyF cs ps[j].2.1 ps[j].2.2 ∧ (flat D tt).length ≤ 500) := fun W hb => HAP.out W _ _ ps[j].2.2 (bel_on hbr hb) (TyAt.below (Below.refl _ W) (Nat.le_trans hws hb.size) _ _ _ (hcl W (bel_on hbr hb)).2.2) (HSM.out.1 _ (List.getElem_mem hlt)).2
      have HC5 : Hid (∀ W, Below wr.heap.size wr W → W.cell? ⟨g, o + j * 6, none⟩ = some (.int .i64 k) ∧ W.cell? ⟨g, o + j * 6 + 1, none⟩ = some (.string n) ∧ W.cell? ⟨g, o + j * 6 + 2, none⟩ = some (.slice ad1 l1 c1) ∧ W.cell? ⟨g, o + j * 6 + 3, none⟩ = some (.int .i64 k') ∧ W.cell? ⟨g, o + j * 6 + 4, none⟩ = some (.string n') ∧ W.cell? ⟨g, o + j * 6 + 5, none⟩ = some (.slice ad2 l2 c2)) := fun W hb => (hcl W (bel_on hbr hb)).1
      generalize hE1 : applyE cs ps[j].1.1 ps[j].1.2 = E1 at CX
      generalize hE2 : applyE cs ps[j].2.1 ps[j].2.2 = E2 at CY
      have HE : Hid (applyE cs ps[j].1.1 ps[j].1.2 = E1 ∧ applyE cs ps[j].2.1 ps[j].2.2 = E2 ∧ j < ps.length) := ⟨hE1, hE2, hlt⟩
      clear hcl hA hB2 hE1 hE2 HP
      go_upto_region 14 with (first
        | (go_at_call 8; (with_reducible refine Calls.mono CX ?_); rintro e' w4 ⟨x1, x2, x3, x4, x5, D1, tt1, rfl, hb4, H4⟩; have hU4 : Below wr.heap.size wr (w4.alloc (Obj.cells #[.int .i64 x1, .string x2, .slice x3 x4 x5] 29)) := bel_on hb4 (below_box w4 x1 x2 x3 x4 x5); obtain ⟨r0, r1, r2, r3, r4, r5⟩ := HC5.out _ hU4)
        | (go_at_call 8; (with_reducible refine Calls.mono (CY _ hU4) ?_); rintro e' w5 ⟨y1, y2, y3, y4, y5, D2, tt2, rfl, hb5, H5⟩; have hU5 : Below (w4.alloc (Obj.cells #[.int .i64 x1, .string x2, .slice x3 x4 x5] 29)).heap.size (w4.alloc (Obj.cells #[.int .i64 x1, .string x2, .slice x3 x4 x5] 29)) (w5.alloc (Obj.cells #[.int .i64 y1, .string y2, .slice y3 y4 y5] 29)) := bel_on hb5 (below_box w5 y1 y2 y3 y4 y5); obtain ⟨s0, s1, s2⟩ := box_at hU5; have CS := same_any D1 D2 _ _ tt1 tt2 (w5.alloc (Obj.cells #[.int .i64 y1, .string y2, .slice y3 y4 y5] 29)) _ (Nat.le_refl _) (TyAt.below (bel_on (below_box w4 x1 x2 x3 x4 x5) hU5) (bel_on (below_box w4 x1 x2 x3 x4 x5) hU5).size _ _ _ H4.out.1) (TyAt.below (below_box w5 y1 y2 y3 y4 y5) (below_box w5 y1 y2 y3 y4 y5).size _ _ _ H5.out.1))
        | (go_at_call 9; (with_reducible refine Calls.mono CS ?_); rintro e' w6 ⟨rfl, hb6⟩))
      have HB6 : Hid (Below w.heap.size w w6) := bel_on (bel_on hbr hU4) (bel_on hU5 hb6)
      have HIS : Hid (flat D1 tt1 = applyF cs ps[j].1.1 ps[j].1.2 ∧ flat D2 tt2 = applyF cs ps[j].2.1 ps[j].2.2) := ⟨H4.out.2.1, H5.out.2.1⟩
      obtain ⟨is, his⟩ : ∃ is, is = decide (flat D1 tt1 = flat D2 tt2) := ⟨_, rfl⟩
      rw [← his]
      have HDI : Hid (is = true → applyF cs ps[j].1.1 ps[j].1.2 = applyF cs ps[j].2.1 ps[j].2.2) := fun e => by
        rw [e] at his
        have := of_decide_eq_true his.symm
        rw [HIS.out.1, HIS.out.2] at this
        exact this
      clear CS CX CY r0 r1 r2 r3 r4 r5 s0 s1 s2 hb4 hb5 hb6 hU4 hU5 H4 H5 d0 d1 d2 d3 d4 d5 HC5 HIS his
      by_cases he1 : E1 = 0
      · subst he1
        by_cases he2 : E2 = 0
        · subst he2
          cases is with
          | true =>
            have HN : Hid (Below w.heap.size w w6 ∧ ∀ (i : Nat) (h : i < ps.length), i < j + 1 → applyE cs ps[i].1.1 ps[i].1.2 = 0 ∧ applyE cs ps[i].2.1 ps[i].2.2 = 0 ∧ applyF cs ps[i].1.1 ps[i].1.2 = applyF cs ps[i].2.1 ps[i].2.2) := ⟨HB6.out, fun i h hi => by
              by_cases q : i = j
              · subst q
                exact ⟨HE.out.1, HE.out.2.1, HDI.out rfl⟩
              · exact hok i h (by omega)⟩
            go_wp2
            go_roundw
            case rel => exact ⟨j + 1, HE.out.2.2, by go_num, HN.out⟩
            case measure => have := HE.out.2.2; simp [intOf]; omega
          | false =>
            go_wp2
            go_ret
            exact ⟨rfl, HB6.out⟩
        · have q1 : (E2 == 0) = false := by simpa using he2
          have q2 : (E2 != 0) = true := by simpa using he2
          go_wp2
          go_ret
          exact ⟨rfl, HB6.out⟩
      · have q1 : (E1 == 0) = false := by simpa using he1
        have q2 : (E1 != 0) = true := by simpa using he1
        go_wp2
        go_ret
        exact ⟨rfl, HB6.out⟩
    · have hlt' : ¬ (j : Int) < (ps.length : Int) := by omega
      have HALL : Hid (AllOk ps cs) := fun i h => hok i h (by omega)
      have CU := unify_any ps (.slice lad ps.length lcap) wr wr.heap.size (Nat.le_refl _) (HPL.out.below hbr hbr.size) HSM.out.1
      have CU : Calls Tryz.prog 10 #[.slice lad ps.length lcap] wr fun e w' => ∃ (ba : Option Addr) (bl bc : Nat) (n c : Int), e = .returned (.tuple #[.slice ba bl bc, .int .i64 n, .int .i64 c]) ∧ Below wr.heap.size wr w' ∧ ((c = 2 ∨ c = 4) ∨ (c = 0 ∧ Hid (PsOk ps ∧ ∃ (bs : List Bd) (M : List (List UInt8 × List Nd)), BdAt w' w'.heap.size (.slice ba bl bc) bs ∧ (∀ x ∈ bs, (flat x.2.1 x.2.2).length ≤ 4194304) ∧ Prs (ps.map prow) [] 0 (.inr M) ∧ ∀ n, subF (bdRow bs) [(2, n, 0)] = subL M [(2, n, 0)]))) := by
        refine Calls.mono CU ?_
        rintro e w' ⟨hb, v, n, c, rfl, ⟨rfl, hE⟩ | ⟨rfl, rfl, hp, es, bs, rss, M, ns, hR, hP, n1, n2, n3, n4, n5, n6, n7⟩⟩
        · exact ⟨none, 0, 0, n, c, rfl, hb, .inl (most_err HALL.out hE)⟩
        · obtain ⟨ba, bc, rfl⟩ := row_len4 hR
          have hbl : bs.length < 140737488355328 := by
            have h1 := congrArg List.length n3
            rw [List.length_map] at h1
            have h2 := List.length_filter_le (pL M) ns
            omega
          refine ⟨ba, _, bc, 0, 0, rfl, hb, .inr ⟨rfl, hp, bs, M, hR.at hbl, fun x hx => ?_, hP, unify_says n3 n4 n5⟩⟩
          have hm : x.1 ∈ ns := by
            have : x.1 ∈ bs.map (·.1) := List.mem_map.2 ⟨x, hx, rfl⟩
            rw [n3] at this
            exact (List.mem_filter.1 this).1
          have := (n6 _ hm).2
          rw [n4 x hx]
          omega
      have HBR : Hid (Below w.heap.size w wr) := hbr
      clear HP hok hbr
      go_upto_region 17 with (first | (go_at_call 10; (with_reducible refine Calls.mono CU ?_); rintro e' w4 ⟨ba, bl, bc, un, uc, rfl, hb4, HU⟩))
      have HB4 : Hid (Below w.heap.size w w4) := bel_on HBR.out hb4
      have HW4 : Hid (w.heap.size ≤ wr.heap.size) := HBR.out.size
      clear CU hb4
      rcases HU with hU | ⟨rfl, HU⟩
      · rcases hU with rfl | rfl
        · go_wp2
          go_ret
          exact ⟨rfl, HB4.out⟩
        · go_wp2
          go_ret
          exact ⟨rfl, HB4.out⟩
      · have HV0 : Hid (AllV w4 w4 none 0 0) := ⟨[], rfl, Below.refl _ _, World.ownsRow_nil _ _ _ _, fun e he => by simp at he⟩
        have HWB : Hid (w.heap.size ≤ w4.heap.size) := HB4.out.size
        clear hlt' hj
        go_upto_region 23 with fail
        go_loopw [17, 18] (fun lv iv wr => ∃ (j m : Nat) (va : Option Addr) (vc : Nat), j ≤ ps.length ∧ iv = .int .i64 j ∧ lv = .slice va m vc ∧ m ≤ 1400 ∧ Hid (AllV w4 wr va m vc ∧ (ps.length = 0 → m = 0))) (fun _ iv _ => ps.length - (intOf iv).toNat)
        case atStart => exact ⟨0, 0, none, 0, by omega, by go_num, rfl, by omega, HV0.out, fun _ => rfl⟩
        case round =>
          obtain ⟨j, m, va, vc, hj, rfl, rfl, hm, HP⟩ := hrel
          clear HV0
          obtain ⟨hV, hz⟩ := HP.out
          have hbr : Below w.heap.size w wr := by
            obtain ⟨_, _, h2, _⟩ := hV
            exact bel_on HB4.out h2
          by_cases hgo : j < ps.length ∧ m < 400
          · obtain ⟨hlt, hm4⟩ := hgo
            have hlt' : (j : Int) < (ps.length : Int) := by omega
            have hm4' : (m : Int) < 400 := by omega
            have hj0 : (0 : Int) ≤ (j : Int) := by omega
            obtain ⟨g, o, k, n, ad1, l1, c1, k', n', ad2, l2, c2, rfl, hcl⟩ := HL1.out j hlt
            obtain ⟨⟨d0, d1, d2, d3, d4, d5⟩, hA, hB2⟩ := hcl wr hbr
            obtain ⟨f1, f2⟩ := wrongs_two (HU.out.1.2 ps[j] (List.getElem_mem hlt))
            obtain ⟨f1, f3⟩ := wrong_zero f1
            obtain ⟨f2, f4⟩ := wrong_zero f2
            have CX := allV_more hV HWB.out hA f1 f3 (by omega)
            have CY : ∀ W va2 m2 vc2, Hid (AllV w4 W va2 m2 vc2) → m2 ≤ m + 500 → Calls Tryz.prog 11 #[.slice va2 m2 vc2, .agg #[.int .i64 k', .string n', .slice ad2 l2 c2]] W fun e w' => ∃ (va' : Option Addr) (m' vc' : Nat), e = .returned (.slice va' m' vc') ∧ m' ≤ m2 + 500 ∧ Hid (AllV w4 w' va' m' vc') := fun W va2 m2 vc2 hW hm2 => allV_more hW.out HWB.out (hcl W (by
              obtain ⟨_, _, h2, _⟩ := hW.out
              exact bel_on HB4.out h2)).2.2 f2 f4 (by omega)
            have HC5 : Hid (∀ W va2 m2 vc2, AllV w4 W va2 m2 vc2 → W.cell? ⟨g, o + j * 6, none⟩ = some (.int .i64 k) ∧ W.cell? ⟨g, o + j * 6 + 1, none⟩ = some (.string n) ∧ W.cell? ⟨g, o + j * 6 + 2, none⟩ = some (.slice ad1 l1 c1) ∧ W.cell? ⟨g, o + j * 6 + 3, none⟩ = some (.int .i64 k') ∧ W.cell? ⟨g, o + j * 6 + 4, none⟩ = some (.string n') ∧ W.cell? ⟨g, o + j * 6 + 5, none⟩ = some (.slice ad2 l2 c2)) := fun W va2 m2 vc2 hW => (hcl W (by
              obtain ⟨_, _, h2, _⟩ := hW
              exact bel_on HB4.out h2)).1
            have HLT : Hid (j < ps.length) := hlt
            clear hcl hA hB2 hV hz HP f1 f2 f3 f4 hbr
            go_wp2_with (first
              | (go_at_call 11; (with_reducible refine Calls.mono CX ?_); rintro e' w5 ⟨va5, m5, vc5, rfl, hm5, H5⟩; obtain ⟨r0, r1, r2, r3, r4, r5⟩ := HC5.out _ _ _ _ H5.out)
              | (go_at_call 11; (with_reducible refine Calls.mono (CY w5 va5 m5 vc5 H5 hm5) ?_); rintro e' w6 ⟨va6, m6, vc6, rfl, hm6, H6⟩))
            go_roundw
            case rel => exact ⟨j + 1, m6, va6, vc6, HLT.out, by go_num, rfl, by omega, H6.out, fun e => by have := HLT.out; omega⟩
            case measure => have := HLT.out; simp [intOf]; omega
          · have HV : Hid (AllV w4 wr va m vc ∧ (ps.length = 0 → m = 0)) := HP.out
            have HBR2 : Hid (Below w.heap.size w wr) := hbr
            clear hV hz hbr HP
            by_cases hlt : j < ps.length
            · have hlt' : (j : Int) < (ps.length : Int) := by omega
              have hm4' : ¬ (m : Int) < 400 := by omega
              go_upto_region 28 with fail
              generalize wr = wB at *
              go_loopw [19] (fun iv wq => ∃ i : Nat, i ≤ m ∧ iv = .int .i64 i ∧ Hid (Below wB.heap.size wB wq)) (fun iv _ => m - (intOf iv).toNat)
              case atStart => exact ⟨0, by omega, by go_num, Below.refl _ _⟩
              case round =>
                obtain ⟨i, hi, rfl, HQ⟩ := hrel
                have hbq : Below wB.heap.size wB wr := HQ.out
                have hbw : Below w.heap.size w wr := bel_on HBR2.out hbq
                by_cases hlt2 : i < m
                · have hlt2' : (i : Int) < (m : Int) := by omega
                  have hi0 : (0 : Int) ≤ (i : Int) := by omega
                  obtain ⟨es, hem, hbe, hoe, hve⟩ := HV.out.1.sm hbq
                  have hie : i < es.length := by omega
                  obtain ⟨vn, vad, vcap, hei, hvn⟩ := hve es[i] (List.getElem_mem hie)
                  obtain ⟨vg, hvg⟩ : ∃ vg, va = some ⟨vg, 0, none⟩ := by
                    rcases hoe.2 with ⟨e1, e2⟩ | ⟨g, cap, _, e1, _⟩
                    · omega
                    · simp only [Value.slice.injEq] at e1
                      exact ⟨g, e1.1⟩
                  subst hvg
                  have HCL : Hid (∀ W, Below wr.heap.size wr W → W.cell? ⟨vg, i * 3, none⟩ = some (.int .i64 2) ∧ W.cell? ⟨vg, i * 3 + 1, none⟩ = some (.string ⟨vn.toArray⟩) ∧ W.cell? ⟨vg, i * 3 + 2, none⟩ = some (.slice vad 0 vcap)) := fun W hW => by
                    have ho := own_keep (W' := W) hoe fun k hk => hW.block k (hoe.lt k hk).2
                    have hc : ∀ q, q < 3 → ∀ u, (elCells es[i])[q]? = some u → W.cell? ⟨vg, i * 3 + q, none⟩ = some u := fun q hq u hu => by
                      have := ho.cells (g := vg) rfl (i * 3 + q) u (by rw [elCells_get es i q hie hq]; exact hu)
                      rw [add_zero_at] at this
                      exact this
                    rw [hei] at hc
                    exact ⟨hc 0 (by omega) _ rfl, hc 1 (by omega) _ rfl, hc 2 (by omega) _ rfl⟩
                  obtain ⟨d0, d1, d2⟩ := HCL.out wr (Below.refl _ _)
                  have HTV : Hid (∀ (W : World) (B : Nat), TyAt W B 1 (.agg #[.int .i64 2, .string ⟨vn.toArray⟩, .slice vad 0 vcap]) (((2, vn), []) : Tn 1)) := fun W B => ⟨_, rfl, by show vn.length < _; have := var_len hvn; omega, by show ([] : List (Tn 0)).length < _; simp, .inl ⟨rfl, vad, vcap, rfl⟩⟩
                  have h1 : (flat 1 (((2, vn), []) : Tn 1)).length ≤ 4194304 := by rw [flat_succ, flats_nil]; simp
                  obtain ⟨hPS, bs, M, hbd, hbs, hP, hsay⟩ := HU.out
                  have hb4r : Below w4.heap.size w4 wr := hbe
                  have CX := apply_x bs (.slice ba bl bc) 1 _ (((2, vn), []) : Tn 1) wr wr.heap.size (Nat.le_refl _) (hbd.below hb4r hb4r.size) (HTV.out wr _) hbs h1
                  have CY : ∀ W (k : Int) (n : ByteArray) (ad : Option Addr) (len cap D : Nat) (tt : Tn D), Below wr.heap.size wr W → TyAt W W.heap.size D (.agg #[.int .i64 k, .string n, .slice ad len cap]) tt → (flat D tt).length ≤ 500 → Calls Tryz.prog 8 #[.slice cad cs.length ccap, .agg #[.int .i64 k, .string n, .slice ad len cap]] W fun e w' => ∃ (k : Int) (n : ByteArray) (ad : Option Addr) (len cap D' : Nat) (tt' : Tn D'), e = .returned (.tuple #[.agg #[.int .i64 k, .string n, .slice ad len cap], .int .i64 (applyE cs D tt)]) ∧ Below W.heap.size W w' ∧ Hid (TyAt w' w'.heap.size D' (.agg #[.int .i64 k, .string n, .slice ad len cap]) tt' ∧ flat D' tt' = applyF cs D tt ∧ (flat D' tt').length ≤ 500) := fun W k n ad len cap D tt hW hT h5 => HAP.out W D _ tt (bel_on hbw hW) hT (by omega)
                  have CZ : ∀ W, Below wr.heap.size wr W → Calls Tryz.prog 8 #[.slice cad cs.length ccap, .agg #[.int .i64 2, .string ⟨vn.toArray⟩, .slice vad 0 vcap]] W fun e w' => ∃ (k : Int) (n : ByteArray) (ad : Option Addr) (len cap D' : Nat) (tt' : Tn D'), e = .returned (.tuple #[.agg #[.int .i64 k, .string n, .slice ad len cap], .int .i64 (applyE cs 1 (((2, vn), []) : Tn 1))]) ∧ Below W.heap.size W w' ∧ Hid (TyAt w' w'.heap.size D' (.agg #[.int .i64 k, .string n, .slice ad len cap]) tt' ∧ flat D' tt' = applyF cs 1 (((2, vn), []) : Tn 1) ∧ (flat D' tt').length ≤ 500) := fun W hW => HAP.out W 1 _ (((2, vn), []) : Tn 1) (bel_on hbw hW) (HTV.out W _) h1
                  have HKN : Hid (∀ (D1 : Nat) (tt1 : Tn D1), applyE bs 1 (((2, vn), []) : Tn 1) = 0 → applyE cs D1 tt1 = 0 → applyE cs 1 (((2, vn), []) : Tn 1) = 0 → flat D1 tt1 = applyF bs 1 (((2, vn), []) : Tn 1) → applyF cs D1 tt1 = applyF cs 1 (((2, vn), []) : Tn 1)) := fun D1 tt1 z1 z2 z3 hf => by
                    rw [applyF_zero z2, applyF_zero z3, hf, applyF_zero z1]
                    show subF (bdRow cs) (subF (bdRow bs) [(2, vn, 0)]) = subF (bdRow cs) [(2, vn, 0)]
                    rw [hsay]
                    refine most_knows HALL.out ?_ hPS hP _ (vok_cons.2 ⟨fun _ => rfl, vok_nil⟩)
                    rcases Nat.eq_zero_or_pos ps.length with q | q
                    · have := HV.out.2 q
                      omega
                    · exact q
                  generalize applyE bs 1 (((2, vn), []) : Tn 1) = E1 at CX HKN
                  generalize applyE cs 1 (((2, vn), []) : Tn 1) = E3 at CZ HKN
                  generalize applyF bs 1 (((2, vn), []) : Tn 1) = F1 at CX HKN
                  generalize applyF cs 1 (((2, vn), []) : Tn 1) = F3 at CZ HKN
                  have HLT : Hid (i < m) := hlt2
                  have HBW : Hid (Below wB.heap.size wB wr) := hbq
                  clear hei hve hoe hbe hem hie hvn h1 hPS hbd hbs hP hsay hb4r HQ hbq hlt2
                  go_upto_region 34 with (first
                    | (go_at_call 8; (with_reducible refine Calls.mono CX ?_); rintro e' w5 ⟨x1, x2, x3, x4, x5, D1, tt1, rfl, hb5, H5⟩; have hU5 : Below wr.heap.size wr (w5.alloc (Obj.cells #[.int .i64 x1, .string x2, .slice x3 x4 x5] 29)) := bel_on hb5 (below_box w5 x1 x2 x3 x4 x5); have T5 := TyAt.below (below_box w5 x1 x2 x3 x4 x5) (below_box w5 x1 x2 x3 x4 x5).size _ _ _ H5.out.1)
                    | (go_at_call 8; (with_reducible refine Calls.mono (CY _ x1 x2 x3 x4 x5 D1 tt1 hU5 T5 H5.out.2.2) ?_); rintro e' w6 ⟨y1, y2, y3, y4, y5, D2, tt2, rfl, hb6, H6⟩; have hV6 : Below (w5.alloc (Obj.cells #[.int .i64 x1, .string x2, .slice x3 x4 x5] 29)).heap.size (w5.alloc (Obj.cells #[.int .i64 x1, .string x2, .slice x3 x4 x5] 29)) (w6.alloc (Obj.cells #[.int .i64 y1, .string y2, .slice y3 y4 y5] 29)) := bel_on hb6 (below_box w6 y1 y2 y3 y4 y5); have hU6 : Below wr.heap.size wr (w6.alloc (Obj.cells #[.int .i64 y1, .string y2, .slice y3 y4 y5] 29)) := bel_on hU5 hV6; obtain ⟨r0, r1, r2⟩ := HCL.out _ hU6)
                    | (go_at_call 8; (with_reducible refine Calls.mono (CZ _ hU6) ?_); rintro e' w7 ⟨z1, z2, z3, z4, z5, D3, tt3, rfl, hb7, H7⟩; have hV7 : Below (w6.alloc (Obj.cells #[.int .i64 y1, .string y2, .slice y3 y4 y5] 29)).heap.size (w6.alloc (Obj.cells #[.int .i64 y1, .string y2, .slice y3 y4 y5] 29)) (w7.alloc (Obj.cells #[.int .i64 z1, .string z2, .slice z3 z4 z5] 29)) := bel_on hb7 (below_box w7 z1 z2 z3 z4 z5); obtain ⟨s0, s1, s2⟩ := box_at hV7; have CS := same_any D2 D3 _ _ tt2 tt3 (w7.alloc (Obj.cells #[.int .i64 z1, .string z2, .slice z3 z4 z5] 29)) _ (Nat.le_refl _) (TyAt.below (bel_on (below_box w6 y1 y2 y3 y4 y5) hV7) (bel_on (below_box w6 y1 y2 y3 y4 y5) hV7).size _ _ _ H6.out.1) (TyAt.below (below_box w7 z1 z2 z3 z4 z5) (below_box w7 z1 z2 z3 z4 z5).size _ _ _ H7.out.1))
                    | (go_at_call 9; (with_reducible refine Calls.mono CS ?_); rintro e' w8 ⟨rfl, hb8⟩))
                  have HB8 : Hid (Below wr.heap.size wr w8) := bel_on (bel_on hU6 hV7) hb8
                  generalize hE2 : applyE cs D1 tt1 = E2
                  obtain ⟨is, his⟩ : ∃ is, is = decide (flat D2 tt2 = flat D3 tt3) := ⟨_, rfl⟩
                  rw [← his]
                  have HDI : Hid (E1 = 0 → E2 = 0 → E3 = 0 → is = true) := fun q1 q2 q3 => by
                    rw [his]
                    refine decide_eq_true ?_
                    rw [H6.out.2.1, H7.out.2.1]
                    exact HKN.out D1 tt1 q1 (hE2.trans q2) q3 H5.out.2.1
                  have HNX : Hid (Below wB.heap.size wB w8) := bel_on HBW.out HB8.out
                  clear CS CX CY CZ r0 r1 r2 s0 s1 s2 hb5 hb6 hb7 hb8 hU5 hU6 hV6 hV7 H5 H6 H7 d0 d1 d2 HCL HKN his hE2 T5 HTV hbw HBW
                  by_cases he1 : E1 = 0
                  · subst he1
                    by_cases he2 : E2 = 0
                    · subst he2
                      by_cases he3 : E3 = 0
                      · subst he3
                        have hist := HDI.out rfl rfl rfl
                        subst hist
                        go_wp2
                        go_roundw
                        case rel => exact ⟨i + 1, HLT.out, by go_num, HNX.out⟩
                        case measure => have := HLT.out; simp [intOf]; omega
                      · have q1 : (E3 == 0) = false := by simpa using he3
                        go_wp2
                        go_roundw
                        case rel => exact ⟨i + 1, HLT.out, by go_num, HNX.out⟩
                        case measure => have := HLT.out; simp [intOf]; omega
                    · have q1 : (E2 == 0) = false := by simpa using he2
                      go_wp2
                      go_roundw
                      case rel => exact ⟨i + 1, HLT.out, by go_num, HNX.out⟩
                      case measure => have := HLT.out; simp [intOf]; omega
                  · have q1 : (E1 == 0) = false := by simpa using he1
                    go_wp2
                    go_roundw
                    case rel => exact ⟨i + 1, HLT.out, by go_num, HNX.out⟩
                    case measure => have := HLT.out; simp [intOf]; omega
                · have hlt2' : ¬ (i : Int) < (m : Int) := by omega
                  have HB9 : Hid (Below w.heap.size w wr) := hbw
                  clear HQ hbq hbw
                  go_wp2
                  go_ret
                  exact ⟨rfl, HB9.out⟩
            · have hlt' : ¬ (j : Int) < (ps.length : Int) := by omega
              go_upto_region 28 with fail
              generalize wr = wB at *
              go_loopw [19] (fun iv wq => ∃ i : Nat, i ≤ m ∧ iv = .int .i64 i ∧ Hid (Below wB.heap.size wB wq)) (fun iv _ => m - (intOf iv).toNat)
              case atStart => exact ⟨0, by omega, by go_num, Below.refl _ _⟩
              case round =>
                obtain ⟨i, hi, rfl, HQ⟩ := hrel
                have hbq : Below wB.heap.size wB wr := HQ.out
                have hbw : Below w.heap.size w wr := bel_on HBR2.out hbq
                by_cases hlt2 : i < m
                · have hlt2' : (i : Int) < (m : Int) := by omega
                  have hi0 : (0 : Int) ≤ (i : Int) := by omega
                  obtain ⟨es, hem, hbe, hoe, hve⟩ := HV.out.1.sm hbq
                  have hie : i < es.length := by omega
                  obtain ⟨vn, vad, vcap, hei, hvn⟩ := hve es[i] (List.getElem_mem hie)
                  obtain ⟨vg, hvg⟩ : ∃ vg, va = some ⟨vg, 0, none⟩ := by
                    rcases hoe.2 with ⟨e1, e2⟩ | ⟨g, cap, _, e1, _⟩
                    · omega
                    · simp only [Value.slice.injEq] at e1
                      exact ⟨g, e1.1⟩
                  subst hvg
                  have HCL : Hid (∀ W, Below wr.heap.size wr W → W.cell? ⟨vg, i * 3, none⟩ = some (.int .i64 2) ∧ W.cell? ⟨vg, i * 3 + 1, none⟩ = some (.string ⟨vn.toArray⟩) ∧ W.cell? ⟨vg, i * 3 + 2, none⟩ = some (.slice vad 0 vcap)) := fun W hW => by
                    have ho := own_keep (W' := W) hoe fun k hk => hW.block k (hoe.lt k hk).2
                    have hc : ∀ q, q < 3 → ∀ u, (elCells es[i])[q]? = some u → W.cell? ⟨vg, i * 3 + q, none⟩ = some u := fun q hq u hu => by
                      have := ho.cells (g := vg) rfl (i * 3 + q) u (by rw [elCells_get es i q hie hq]; exact hu)
                      rw [add_zero_at] at this
                      exact this
                    rw [hei] at hc
                    exact ⟨hc 0 (by omega) _ rfl, hc 1 (by omega) _ rfl, hc 2 (by omega) _ rfl⟩
                  obtain ⟨d0, d1, d2⟩ := HCL.out wr (Below.refl _ _)
                  have HTV : Hid (∀ (W : World) (B : Nat), TyAt W B 1 (.agg #[.int .i64 2, .string ⟨vn.toArray⟩, .slice vad 0 vcap]) (((2, vn), []) : Tn 1)) := fun W B => ⟨_, rfl, by show vn.length < _; have := var_len hvn; omega, by show ([] : List (Tn 0)).length < _; simp, .inl ⟨rfl, vad, vcap, rfl⟩⟩
                  have h1 : (flat 1 (((2, vn), []) : Tn 1)).length ≤ 4194304 := by rw [flat_succ, flats_nil]; simp
                  obtain ⟨hPS, bs, M, hbd, hbs, hP, hsay⟩ := HU.out
                  have hb4r : Below w4.heap.size w4 wr := hbe
                  have CX := apply_x bs (.slice ba bl bc) 1 _ (((2, vn), []) : Tn 1) wr wr.heap.size (Nat.le_refl _) (hbd.below hb4r hb4r.size) (HTV.out wr _) hbs h1
                  have CY : ∀ W (k : Int) (n : ByteArray) (ad : Option Addr) (len cap D : Nat) (tt : Tn D), Below wr.heap.size wr W → TyAt W W.heap.size D (.agg #[.int .i64 k, .string n, .slice ad len cap]) tt → (flat D tt).length ≤ 500 → Calls Tryz.prog 8 #[.slice cad cs.length ccap, .agg #[.int .i64 k, .string n, .slice ad len cap]] W fun e w' => ∃ (k : Int) (n : ByteArray) (ad : Option Addr) (len cap D' : Nat) (tt' : Tn D'), e = .returned (.tuple #[.agg #[.int .i64 k, .string n, .slice ad len cap], .int .i64 (applyE cs D tt)]) ∧ Below W.heap.size W w' ∧ Hid (TyAt w' w'.heap.size D' (.agg #[.int .i64 k, .string n, .slice ad len cap]) tt' ∧ flat D' tt' = applyF cs D tt ∧ (flat D' tt').length ≤ 500) := fun W k n ad len cap D tt hW hT h5 => HAP.out W D _ tt (bel_on hbw hW) hT (by omega)
                  have CZ : ∀ W, Below wr.heap.size wr W → Calls Tryz.prog 8 #[.slice cad cs.length ccap, .agg #[.int .i64 2, .string ⟨vn.toArray⟩, .slice vad 0 vcap]] W fun e w' => ∃ (k : Int) (n : ByteArray) (ad : Option Addr) (len cap D' : Nat) (tt' : Tn D'), e = .returned (.tuple #[.agg #[.int .i64 k, .string n, .slice ad len cap], .int .i64 (applyE cs 1 (((2, vn), []) : Tn 1))]) ∧ Below W.heap.size W w' ∧ Hid (TyAt w' w'.heap.size D' (.agg #[.int .i64 k, .string n, .slice ad len cap]) tt' ∧ flat D' tt' = applyF cs 1 (((2, vn), []) : Tn 1) ∧ (flat D' tt').length ≤ 500) := fun W hW => HAP.out W 1 _ (((2, vn), []) : Tn 1) (bel_on hbw hW) (HTV.out W _) h1
                  have HKN : Hid (∀ (D1 : Nat) (tt1 : Tn D1), applyE bs 1 (((2, vn), []) : Tn 1) = 0 → applyE cs D1 tt1 = 0 → applyE cs 1 (((2, vn), []) : Tn 1) = 0 → flat D1 tt1 = applyF bs 1 (((2, vn), []) : Tn 1) → applyF cs D1 tt1 = applyF cs 1 (((2, vn), []) : Tn 1)) := fun D1 tt1 z1 z2 z3 hf => by
                    rw [applyF_zero z2, applyF_zero z3, hf, applyF_zero z1]
                    show subF (bdRow cs) (subF (bdRow bs) [(2, vn, 0)]) = subF (bdRow cs) [(2, vn, 0)]
                    rw [hsay]
                    refine most_knows HALL.out ?_ hPS hP _ (vok_cons.2 ⟨fun _ => rfl, vok_nil⟩)
                    rcases Nat.eq_zero_or_pos ps.length with q | q
                    · have := HV.out.2 q
                      omega
                    · exact q
                  generalize applyE bs 1 (((2, vn), []) : Tn 1) = E1 at CX HKN
                  generalize applyE cs 1 (((2, vn), []) : Tn 1) = E3 at CZ HKN
                  generalize applyF bs 1 (((2, vn), []) : Tn 1) = F1 at CX HKN
                  generalize applyF cs 1 (((2, vn), []) : Tn 1) = F3 at CZ HKN
                  have HLT : Hid (i < m) := hlt2
                  have HBW : Hid (Below wB.heap.size wB wr) := hbq
                  clear hei hve hoe hbe hem hie hvn h1 hPS hbd hbs hP hsay hb4r HQ hbq hlt2
                  go_upto_region 34 with (first
                    | (go_at_call 8; (with_reducible refine Calls.mono CX ?_); rintro e' w5 ⟨x1, x2, x3, x4, x5, D1, tt1, rfl, hb5, H5⟩; have hU5 : Below wr.heap.size wr (w5.alloc (Obj.cells #[.int .i64 x1, .string x2, .slice x3 x4 x5] 29)) := bel_on hb5 (below_box w5 x1 x2 x3 x4 x5); have T5 := TyAt.below (below_box w5 x1 x2 x3 x4 x5) (below_box w5 x1 x2 x3 x4 x5).size _ _ _ H5.out.1)
                    | (go_at_call 8; (with_reducible refine Calls.mono (CY _ x1 x2 x3 x4 x5 D1 tt1 hU5 T5 H5.out.2.2) ?_); rintro e' w6 ⟨y1, y2, y3, y4, y5, D2, tt2, rfl, hb6, H6⟩; have hV6 : Below (w5.alloc (Obj.cells #[.int .i64 x1, .string x2, .slice x3 x4 x5] 29)).heap.size (w5.alloc (Obj.cells #[.int .i64 x1, .string x2, .slice x3 x4 x5] 29)) (w6.alloc (Obj.cells #[.int .i64 y1, .string y2, .slice y3 y4 y5] 29)) := bel_on hb6 (below_box w6 y1 y2 y3 y4 y5); have hU6 : Below wr.heap.size wr (w6.alloc (Obj.cells #[.int .i64 y1, .string y2, .slice y3 y4 y5] 29)) := bel_on hU5 hV6; obtain ⟨r0, r1, r2⟩ := HCL.out _ hU6)
                    | (go_at_call 8; (with_reducible refine Calls.mono (CZ _ hU6) ?_); rintro e' w7 ⟨z1, z2, z3, z4, z5, D3, tt3, rfl, hb7, H7⟩; have hV7 : Below (w6.alloc (Obj.cells #[.int .i64 y1, .string y2, .slice y3 y4 y5] 29)).heap.size (w6.alloc (Obj.cells #[.int .i64 y1, .string y2, .slice y3 y4 y5] 29)) (w7.alloc (Obj.cells #[.int .i64 z1, .string z2, .slice z3 z4 z5] 29)) := bel_on hb7 (below_box w7 z1 z2 z3 z4 z5); obtain ⟨s0, s1, s2⟩ := box_at hV7; have CS := same_any D2 D3 _ _ tt2 tt3 (w7.alloc (Obj.cells #[.int .i64 z1, .string z2, .slice z3 z4 z5] 29)) _ (Nat.le_refl _) (TyAt.below (bel_on (below_box w6 y1 y2 y3 y4 y5) hV7) (bel_on (below_box w6 y1 y2 y3 y4 y5) hV7).size _ _ _ H6.out.1) (TyAt.below (below_box w7 z1 z2 z3 z4 z5) (below_box w7 z1 z2 z3 z4 z5).size _ _ _ H7.out.1))
                    | (go_at_call 9; (with_reducible refine Calls.mono CS ?_); rintro e' w8 ⟨rfl, hb8⟩))
                  have HB8 : Hid (Below wr.heap.size wr w8) := bel_on (bel_on hU6 hV7) hb8
                  generalize hE2 : applyE cs D1 tt1 = E2
                  obtain ⟨is, his⟩ : ∃ is, is = decide (flat D2 tt2 = flat D3 tt3) := ⟨_, rfl⟩
                  rw [← his]
                  have HDI : Hid (E1 = 0 → E2 = 0 → E3 = 0 → is = true) := fun q1 q2 q3 => by
                    rw [his]
                    refine decide_eq_true ?_
                    rw [H6.out.2.1, H7.out.2.1]
                    exact HKN.out D1 tt1 q1 (hE2.trans q2) q3 H5.out.2.1
                  have HNX : Hid (Below wB.heap.size wB w8) := bel_on HBW.out HB8.out
                  clear CS CX CY CZ r0 r1 r2 s0 s1 s2 hb5 hb6 hb7 hb8 hU5 hU6 hV6 hV7 H5 H6 H7 d0 d1 d2 HCL HKN his hE2 T5 HTV hbw HBW
                  by_cases he1 : E1 = 0
                  · subst he1
                    by_cases he2 : E2 = 0
                    · subst he2
                      by_cases he3 : E3 = 0
                      · subst he3
                        have hist := HDI.out rfl rfl rfl
                        subst hist
                        go_wp2
                        go_roundw
                        case rel => exact ⟨i + 1, HLT.out, by go_num, HNX.out⟩
                        case measure => have := HLT.out; simp [intOf]; omega
                      · have q1 : (E3 == 0) = false := by simpa using he3
                        go_wp2
                        go_roundw
                        case rel => exact ⟨i + 1, HLT.out, by go_num, HNX.out⟩
                        case measure => have := HLT.out; simp [intOf]; omega
                    · have q1 : (E2 == 0) = false := by simpa using he2
                      go_wp2
                      go_roundw
                      case rel => exact ⟨i + 1, HLT.out, by go_num, HNX.out⟩
                      case measure => have := HLT.out; simp [intOf]; omega
                  · have q1 : (E1 == 0) = false := by simpa using he1
                    go_wp2
                    go_roundw
                    case rel => exact ⟨i + 1, HLT.out, by go_num, HNX.out⟩
                    case measure => have := HLT.out; simp [intOf]; omega
                · have hlt2' : ¬ (i : Int) < (m : Int) := by omega
                  have HB9 : Hid (Below w.heap.size w wr) := hbw
                  clear HQ hbq hbw
                  go_wp2
                  go_ret
                  exact ⟨rfl, HB9.out⟩
end Go.Proofs.YtikpipenhamdbaaGreat
