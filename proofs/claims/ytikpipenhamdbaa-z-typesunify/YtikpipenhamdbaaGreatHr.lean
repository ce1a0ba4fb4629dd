/- The contract of Unify. -/
import Derived.Test.YtikpipenhamdbaaGreatMaux
import Derived.Test.YtikpipenhamdbaaGreatMatx
import Derived.Test.YtikpipenhamdbaaGreatMawx
namespace Go.Proofs.YtikpipenhamdbaaGreat
open Go.RowKit Go.Maps

/-- May all pairs be? -/
def PsOk (ps : List Pr) : Prop := ps.length ≤ 100000 ∧ ∀ p ∈ ps, wrongs [p.1, p.2] = 0
/-- Why Unify answers nothing: with which pair, which error. -/
def UErr (ps : List Pr) (n c : Int) : Prop :=
 (100000 < ps.length ∧ n = 0 ∧ c = 2) ∨
 (ps.length ≤ 100000 ∧ ∃ (i : Nat) (h : i < ps.length), n = i ∧ c = wrongs [ps[i].1, ps[i].2] ∧ c ≠ 0 ∧ ∀ (j : Nat) (h : j < ps.length), j < i → wrongs [ps[j].1, ps[j].2] = 0) ∨
 (PsOk ps ∧ c ≠ 0 ∧ ∃ k : Nat, Prs (ps.map prow) [] 0 (.inl (k, c)) ∧ n = k) ∨
 (PsOk ps ∧ n = ps.length ∧ c = 4 ∧ ∃ M, Prs (ps.map prow) [] 0 (.inr M) ∧ ∃ m, 500 < (subL M [(2, m, 0)]).length)
/-- What Unify answers. -/
def UnifyP (ps : List Pr) (w : World) (e : Ending) (w' : World) : Prop :=
 Below w.heap.size w w' ∧ ∃ (v : Value) (n c : Int), e = .returned (.tuple #[v, .int .i64 n, .int .i64 c]) ∧ ((v = .slice none 0 0 ∧ UErr ps n c) ∨
  (n = 0 ∧ c = 0 ∧ PsOk ps ∧ ∃ (es : List Bl4) (bs : List Bd) (rss : List (List (Value × Nat))) (M : List (List UInt8 × List Nd)) (ns : List (List UInt8)), RowB w' w.heap.size v es bs rss ∧ Prs (ps.map prow) [] 0 (.inr M) ∧ ns.Nodup ∧ ns.Pairwise (fun a b => a ≤ b) ∧ bs.map (·.1) = ns.filter (pL M) ∧ (∀ x ∈ bs, flat x.2.1 x.2.2 = subL M [(2, x.1, 0)]) ∧ (∀ y ∈ M, y.1 ∈ ns) ∧ (∀ n ∈ ns, varB n = true ∧ (subL M [(2, n, 0)]).length ≤ 500) ∧ ns.length ≤ 200000000))
theorem wrongs_two {u v : Sigma Tn} (h : wrongs [u, v] = 0) : wrongT u.1 u.2 = 0 ∧ wrongT v.1 v.2 = 0 := by
 unfold wrongs at h
 by_cases q : wrongT u.1 u.2 = 0
 ·rw [if_pos q] at h
  unfold wrongs at h
  by_cases q2 : wrongT v.1 v.2 = 0
  ·exact ⟨q, q2⟩
  ·rw [if_neg q2] at h
   exact absurd h q2
 ·rw [if_neg q] at h
  exact absurd h q
theorem wrong_pair (wr : World) (B : Nat) (hB : B ≤ wr.heap.size) (k k' : Int) (n n' : ByteArray) (ad ad' : Option Addr) (len len' cap cap' d e : Nat) (t : Tn d) (u : Tn e) (hx : TyAt wr B d (.agg #[.int .i64 k, .string n, .slice ad len cap]) t) (hy : TyAt wr B e (.agg #[.int .i64 k', .string n', .slice ad' len' cap']) u) (hN : (flat d t).length ≤ 4194304) (hM : (flat e u).length ≤ 4194304) :
  Calls Tryz.prog 24 #[.slice (some ⟨wr.heap.size + 1, 0, none⟩) 2 2] ((wr.alloc (Obj.cells #[.int .i64 k, .string n, .slice ad len cap, .int .i64 k', .string n', .slice ad' len' cap'] 34)).alloc (Obj.cells #[.int .i64 k, .string n, .slice ad len cap, .int .i64 k', .string n', .slice ad' len' cap'] 29)) fun r w' => r = .returned (.int .i64 (wrongs [⟨d, t⟩, ⟨e, u⟩])) ∧ Below wr.heap.size wr w' := by
 obtain ⟨W, hW⟩ : ∃ W, W = (wr.alloc (Obj.cells #[.int .i64 k, .string n, .slice ad len cap, .int .i64 k', .string n', .slice ad' len' cap'] 34)).alloc (Obj.cells #[.int .i64 k, .string n, .slice ad len cap, .int .i64 k', .string n', .slice ad' len' cap'] 29) := ⟨_, rfl⟩
 rw [← hW]
 have hbW : Below wr.heap.size wr W := by rw [hW]; exact ((Below.refl _ _).alloc (Nat.le_refl _) _).alloc (by simp) _
 have hsW : W.heap.size = wr.heap.size + 2 := by rw [hW]; simp
 have x3 : W.heap[wr.heap.size + 1]? = some (.cells #[.int .i64 k, .string n, .slice ad len cap, .int .i64 k', .string n', .slice ad' len' cap'] 29 (0, 0)) := by
  rw [hW]
  show ((wr.heap.push _).push _)[wr.heap.size + 1]? = _
  rw [Array.getElem?_push, if_pos (by simp)]
 refine Calls.mono (wrong_list [(k, n, .slice ad len cap), (k', n', .slice ad' len' cap')] [⟨d, t⟩, ⟨e, u⟩] (wr.heap.size + 1) 2 W B (Nat.le_trans hB hbW.size) (by omega) (fun j u hu => by
  match j with
  | 0 => simp [elCells] at hu; rw [← hu]; simp only [World.cell?, x3]; rfl
  | 1 => simp [elCells] at hu; rw [← hu]; simp only [World.cell?, x3]; rfl
  | 2 => simp [elCells] at hu; rw [← hu]; simp only [World.cell?, x3]; rfl
  | 3 => simp [elCells] at hu; rw [← hu]; simp only [World.cell?, x3]; rfl
  | 4 => simp [elCells] at hu; rw [← hu]; simp only [World.cell?, x3]; rfl
  | 5 => simp [elCells] at hu; rw [← hu]; simp only [World.cell?, x3]; rfl
  | j + 6 => simp [elCells] at hu) ⟨rfl, fun j hj hj' => by
   match j with
   | 0 => exact hx.on (hbW.mono hB)
   | 1 => exact hy.on (hbW.mono hB)
   | j + 2 => simp at hj; omega⟩ (by simpa using ⟨hN, hM⟩) (by simp)) ?_
 rintro r w' ⟨rfl, hb⟩
 exact ⟨rfl, hbW.trans (hb.mono (by omega))⟩
/-- The graph of nothing. -/
theorem Mn.made : Mn 0 [] (.map []) (fun _ => []) (fun _ => 0) (fun _ => 0) [] := by
 have hz : ∀ (i : Nat), ¬ i < ([] : List Gx).length := fun i h => by simp at h
 refine ⟨⟨fun i h => absurd h (hz i), fun i h => absurd h (hz i), fun i h => absurd h (hz i), fun i h => absurd h (hz i), fun i h => absurd h (hz i), fun i j h => absurd h (hz i)⟩, fun i h => absurd h (hz i), ⟨⟨[], rfl⟩, fun n => ⟨fun h => ?_, fun ⟨i, h, _⟩ => absurd h (hz i)⟩, fun i h => absurd h (hz i), fun kl c h => ?_, fun i h => absurd h (hz i)⟩, fun i => Nat.le_refl _, fun i => Nat.zero_le _, ⟨fun i h => absurd h (hz i), fun c h => by simp at h⟩⟩
 ·simp [Maps.has] at h
 ·have h1 := h (.lit (.int .i64 (c + 1)))
  simp [DataW.atKey] at h1
  omega
theorem UnS.below {lo G b : Nat} {w0 wr w' : World} {rows : List (List Nd × List Nd)} {X : Sum (Nat × Int) (List (List UInt8 × List Nd))} {i : Nat} (h : UnS lo G b w0 wr rows X i) (hb : Below wr.heap.size wr w') : UnS lo G b w0 w' rows X i := by
 obtain ⟨wk, xs, D, dn, rt, rk, M, hX, hM, hP, hL, hn, hc, hk⟩ := h
 exact ⟨wk, xs, D, dn, rt, rk, M, hX.below hb, hM, hP, hL, hn, hc, hk.trans (Gk.of_below hb hX.num.2.1)⟩
theorem RowB.low {w : World} {lo lo' : Nat} {v : Value} {es : List Bl4} {bs : List Bd} {rss : List (List (Value × Nat))} (h : RowB w lo' v es bs rss) (hl : lo ≤ lo') : RowB w lo v es bs rss :=
 ⟨h.own.mono hl, h.len, h.rlen, h.name, fun j a b c => TyO.mono hl _ _ _ _ (h.each j a b c), ⟨fun p hp => by obtain ⟨g, q1, q2, q3⟩ := h.sep.1 p hp; exact ⟨g, q1, Nat.le_trans hl q2, q3⟩, h.sep.2⟩, h.away⟩
set_option maxHeartbeats 16000000 in
set_option maxRecDepth 10000 in
theorem unify_any (ps : List Pr) (v : Value) (w : World) (B : Nat) (hB : B ≤ w.heap.size) (hv : PrAt w B v ps) (hN : ∀ p ∈ ps, (flat p.1.1 p.1.2).length ≤ 4194304 ∧ (flat p.2.1 p.2.2).length ≤ 4194304) :
  Calls Tryz.prog 10 #[v] w (UnifyP ps w) := by
 have HPR : Hid (PrAt w B v ps) := hv
 have HNN : Hid (∀ p ∈ ps, (flat p.1.1 p.1.2).length ≤ 4194304 ∧ (flat p.2.1 p.2.2).length ≤ 4194304) := hN
 obtain ⟨ad, cap, rfl, hpl, -⟩ := hv
 clear hN
 have hmm := @run_makeMap Tryz.prog
 by_cases hlong : 100000 < ps.length
 ·have hn2 : (100000 : Int) < (ps.length : Int) := by omega
  have HF : Hid (UErr ps 0 2) := .inl ⟨hlong, rfl, rfl⟩
  clear HPR HNN
  go_enter Tryz.func10, Tryz.ntmps10
  go_wp2
  refine bodyPost_ret (v := .tuple #[.slice none 0 0, .int .i64 0, .int .i64 2]) (by simp [results, Tryz.results10, go_sem]) rfl ?_
  exact ⟨Below.refl _ _, _, 0, 2, rfl, .inl ⟨rfl, HF.out⟩⟩
 ·have hpl5 : ps.length ≤ 100000 := by omega
  have hn2 : ¬ (100000 : Int) < (ps.length : Int) := by omega
  have HL1 : Hid (∀ (j : Nat) (h : j < ps.length), ∃ g o k n ad1 l1 c1 k' n' ad2 l2 c2, ad = some ⟨g, o, none⟩ ∧ ∀ wr, Below w.heap.size w wr → (wr.cell? ⟨g, o + j * 6, none⟩ = some (.int .i64 k) ∧ wr.cell? ⟨g, o + j * 6 + 1, none⟩ = some (.string n) ∧ wr.cell? ⟨g, o + j * 6 + 2, none⟩ = some (.slice ad1 l1 c1) ∧ wr.cell? ⟨g, o + j * 6 + 3, none⟩ = some (.int .i64 k') ∧ wr.cell? ⟨g, o + j * 6 + 4, none⟩ = some (.string n') ∧ wr.cell? ⟨g, o + j * 6 + 5, none⟩ = some (.slice ad2 l2 c2)) ∧ TyAt wr B ps[j].1.1 (.agg #[.int .i64 k, .string n, .slice ad1 l1 c1]) ps[j].1.2 ∧ TyAt wr B ps[j].2.1 (.agg #[.int .i64 k', .string n', .slice ad2 l2 c2]) ps[j].2.2) := fun j hj => by
   obtain ⟨ad', cap', hv', _, h⟩ := HPR.out
   obtain ⟨g, o, had, _, _, h⟩ := h (fun e => by rw [e] at hj; simp at hj)
   obtain ⟨k, n, ad1, l1, c1, k', n', ad2, l2, c2, hcel, hA, hB2⟩ := h j hj
   simp only [Value.slice.injEq] at hv'
   exact ⟨g, o, k, n, ad1, l1, c1, k', n', ad2, l2, c2, by rw [hv'.1, had], fun wr hb => ⟨hcel wr (hb.mono hB), hA.on (hb.mono hB), hB2.on (hb.mono hB)⟩⟩
  go_enter Tryz.func10, Tryz.ntmps10
  go_upto_region 4 with fail
  go_loopw [17] (fun iv wr => ∃ j : Nat, j ≤ ps.length ∧ iv = .int .i64 j ∧ Hid (Below w.heap.size w wr ∧ ∀ (i : Nat) (h : i < ps.length), i < j → wrongs [ps[i].1, ps[i].2] = 0)) (fun iv _ => ps.length - (intOf iv).toNat)
  case atStart => exact ⟨0, by omega, by go_num, Below.refl _ _, fun i _ h => by omega⟩
  case round =>
   obtain ⟨j, hj, rfl, HP⟩ := hrel
   by_cases hlt : j < ps.length
   ·have hlt' : (j : Int) < (ps.length : Int) := by omega
    have hj0 : (0 : Int) ≤ (j : Int) := by omega
    obtain ⟨hbw, hok⟩ := HP.out
    obtain ⟨g, o, k, n, ad1, l1, c1, k', n', ad2, l2, c2, rfl, hcl⟩ := HL1.out j hlt
    obtain ⟨⟨d0, d1, d2, d3, d4, d5⟩, hA, hB2⟩ := hcl wr hbw
    clear hcl
    obtain ⟨hn1, hn3⟩ := HNN.out ps[j] (List.getElem_mem hlt)
    have CW := wrong_pair wr B (Nat.le_trans hB hbw.size) k k' n n' ad1 ad2 l1 l2 c1 c2 _ _ _ _ hA hB2 hn1 hn3
    have HLT : Hid (j < ps.length) := hlt
    by_cases hw0 : wrongs [ps[j].1, ps[j].2] = 0
    ·rw [show wrongs [⟨ps[j].1.1, ps[j].1.2⟩, ⟨ps[j].2.1, ps[j].2.2⟩] = 0 from hw0] at CW
     have HNX : Hid (∀ w2, Below wr.heap.size wr w2 → Below w.heap.size w w2 ∧ ∀ (i : Nat) (h : i < ps.length), i < j + 1 → wrongs [ps[i].1, ps[i].2] = 0) := fun w2 hb2 => ⟨hbw.trans (hb2.mono hbw.size), fun i h hi => by
      by_cases q : i = j
      ·subst q
       exact hw0
      ·exact hok i h (by omega)⟩
     clear hA hB2 hn1 hn3 HP hbw hok hw0 hmm
     go_wp2_with (go_at_call 24; (with_reducible refine Calls.mono CW ?_); rintro e' w2 ⟨rfl, hb2⟩)
     go_roundw
     case rel => exact ⟨j + 1, HLT.out, by go_num, HNX.out _ hb2⟩
     case measure => have := HLT.out; simp [intOf]; omega
    ·have HER : Hid (∀ w2, Below wr.heap.size wr w2 → UnifyP ps w (.returned (.tuple #[.slice none 0 0, .int .i64 j, .int .i64 (wrongs [ps[j].1, ps[j].2])])) w2) := fun w2 hb2 => ⟨hbw.trans (hb2.mono hbw.size), _, j, _, rfl, .inl ⟨rfl, .inr (.inl ⟨hpl5, j, hlt, rfl, rfl, hw0, hok⟩)⟩⟩
     have CW : Calls Tryz.prog 24 #[.slice (some ⟨wr.heap.size + 1, 0, none⟩) 2 2] _ fun r w' => r = .returned (.int .i64 (wrongs [ps[j].1, ps[j].2])) ∧ Below wr.heap.size wr w' := CW
     generalize wrongs [ps[j].1, ps[j].2] = cc at *
     have hcb : (cc == 0) = false := by simpa using hw0
     have hcn : (cc != 0) = true := by simpa using hw0
     clear hA hB2 hn1 hn3 HP hbw hok hmm
     go_wp2_with (go_at_call 24; (with_reducible refine Calls.mono CW ?_); rintro e' w2 ⟨rfl, hb2⟩)
     refine bodyPost_ret (v := .tuple #[.slice none 0 0, .int .i64 j, .int .i64 cc]) (by simp [results, Tryz.results10, go_sem]) rfl ?_
     exact HER.out _ hb2
   ·have hlt' : ¬ (j : Int) < (ps.length : Int) := by omega
    have HOK : Hid (Below w.heap.size w wr ∧ PsOk ps) := ⟨HP.out.1, hpl5, fun p hp => by
     obtain ⟨i, hi, rfl⟩ := List.getElem_of_mem hp
     exact HP.out.2 i hi (by omega)⟩
    clear HP hlt
    go_upto_region 11 with fail
    obtain ⟨hbw, hPS⟩ := HOK.out
    have hX0 := GX.made wr
    have hb3 : Below wr.heap.size wr ((wr.alloc (.map #[] 0)).alloc (.cells #[.slice none 0 0, .map (some wr.heap.size), .int .i64 0] 66)) := ((Below.refl _ _).alloc (Nat.le_refl _) _).alloc (by simp) _
    have hs3 : ((wr.alloc (.map #[] 0)).alloc (.cells #[.slice none 0 0, .map (some wr.heap.size), .int .i64 0] 66)).heap.size = wr.heap.size + 2 := by simp
    generalize ((wr.alloc (.map #[] 0)).alloc (.cells #[.slice none 0 0, .map (some wr.heap.size), .int .i64 0] 66)) = w3 at *
    have hrok : ∀ p ∈ ps, (formB p.1.1 p.1.2 = true ∧ (flat p.1.1 p.1.2).length ≤ 500) ∧ formB p.2.1 p.2.2 = true ∧ (flat p.2.1 p.2.2).length ≤ 500 := fun p hp => by
     obtain ⟨h1, h2⟩ := wrongs_two (hPS.2 p hp)
     exact ⟨wrong_zero h1, wrong_zero h2⟩
    have hpok : ∀ p ∈ ps.map prow, pok p := fun p hp => by
     obtain ⟨q, hq, rfl⟩ := List.mem_map.1 hp
     obtain ⟨⟨h1, _⟩, h2, _⟩ := hrok q hq
     exact ⟨⟨eats_flat _ _, ((ok_flat _ _).1 h1).vok⟩, eats_flat _ _, ((ok_flat _ _).1 h2).vok⟩
    have hokr : ∀ p ∈ ps.map prow, Okr p.1 ∧ Okr p.2 := fun p hp => by
     obtain ⟨q, hq, rfl⟩ := List.mem_map.1 hp
     obtain ⟨⟨h1, _⟩, h2, _⟩ := hrok q hq
     exact ⟨(ok_flat _ _).1 h1, (ok_flat _ _).1 h2⟩
    obtain ⟨X, hXP⟩ := Prs.total (ps.map prow) [] 0 Lok.nil hpok
    have H0 : Hid (UnS wr.heap.size (wr.heap.size + 1) wr.heap.size w3 w3 (ps.map prow) X 0) := ⟨0, [], .map [], _, _, _, [], hX0, Mn.made, hXP, Lok.nil, by simp, by simp [cv], Gk.refl _ _ _ _⟩
    have HW3 : Hid (Below w.heap.size w w3 ∧ w.heap.size ≤ wr.heap.size ∧ w3.heap.size = wr.heap.size + 2) := ⟨hbw.trans (hb3.mono hbw.size), hbw.size, hs3⟩
    have HRK : Hid ((∀ p ∈ ps, (formB p.1.1 p.1.2 = true ∧ (flat p.1.1 p.1.2).length ≤ 500) ∧ formB p.2.1 p.2.2 = true ∧ (flat p.2.1 p.2.2).length ≤ 500) ∧ (∀ p ∈ ps.map prow, pok p) ∧ (∀ p ∈ ps.map prow, Okr p.1 ∧ Okr p.2) ∧ Prs (ps.map prow) [] 0 X ∧ PsOk ps) := ⟨hrok, hpok, hokr, hXP, hPS⟩
    clear hX0 hb3 hs3 hrok hpok hokr hXP hbw hPS HOK hmm hlt' hj
    generalize wr.heap.size = lo at *
    go_upto_region 12 with fail
    go_loopw [37] (fun iv wq => ∃ j : Nat, j ≤ ps.length ∧ iv = .int .i64 j ∧ Hid (UnS lo (lo + 1) lo w3 wq (ps.map prow) X j)) (fun iv _ => ps.length - (intOf iv).toNat)
    case atStart => exact ⟨0, by omega, by go_num, H0.out⟩
    case round =>
     obtain ⟨j, hj, rfl, HP⟩ := hrel
     clear H0
     have hbq : Below w.heap.size w wr := by
      obtain ⟨_, _, _, _, _, _, _, _, _, _, _, _, _, hk⟩ := HP.out
      obtain ⟨h1, h2, h3⟩ := HW3.out
      exact h1.trans (hk.below.mono h2)
     by_cases hlt : j < ps.length
     ·have hlt' : (j : Int) < (ps.length : Int) := by omega
      have hj0 : (0 : Int) ≤ (j : Int) := by omega
      obtain ⟨g, o, k, n, ad1, l1, c1, k', n', ad2, l2, c2, rfl, hcl⟩ := HL1.out j hlt
      obtain ⟨⟨d0, d1, d2, d3, d4, d5⟩, -, -⟩ := hcl wr hbq
      obtain ⟨-, hA, hB2⟩ := hcl w3 HW3.out.1
      have hBlo : B ≤ lo := by have := HW3.out.2.1; omega
      have hA := TyAt.below (Below.refl B w3) hBlo _ _ _ hA
      have hB2 := TyAt.below (Below.refl B w3) hBlo _ _ _ hB2
      obtain ⟨⟨f1, f2⟩, f3, f4⟩ := HRK.out.1 ps[j] (List.getElem_mem hlt)
      have hjm : j < (ps.map prow).length := by simpa using hlt
      have hrow : (ps.map prow)[j] = (flat ps[j].1.1 ps[j].1.2, flat ps[j].2.1 ps[j].2.2) := by simp [prow]
      have hpok : pok (flat ps[j].1.1 ps[j].1.2, flat ps[j].2.1 ps[j].2.2) := by
       have := HRK.out.2.1 (ps.map prow)[j] (List.getElem_mem hjm)
       rw [hrow] at this
       exact this
      have hj5 : j < 100000 := by omega
      go_upto_region 14 with fail
      obtain ⟨w4, hw4⟩ : ∃ w4, w4 = wr.alloc (.cells #[.int .i64 k, .string n, .slice ad1 l1 c1, .int .i64 k', .string n', .slice ad2 l2 c2] 34) := ⟨_, rfl⟩
      have hb4 : Below wr.heap.size wr w4 := by rw [hw4]; exact (Below.refl _ _).alloc (Nat.le_refl _) _
      have hn4 : w4.heap[wr.heap.size]? = some (.cells #[.int .i64 k, .string n, .slice ad1 l1 c1, .int .i64 k', .string n', .slice ad2 l2 c2] 34 (0, 0)) := by rw [hw4]; exact heap_alloc_new wr _
      rw [← hw4]
      have hzl : lo + 2 ≤ wr.heap.size := by
       obtain ⟨_, _, _, _, _, _, _, _, _, _, _, _, _, hk⟩ := HP.out
       have := hk.size
       have := HW3.out.2.2
       omega
      have hU4 := HP.out.below hb4
      have CX : ∀ W, Sm w4 W → Calls Tryz.prog 28 #[.pointer (some ⟨lo + 1, 0, none⟩), .agg #[.int .i64 k, .string n, .slice ad1 l1 c1]] W fun e w' => ∃ p : Nat, e = .returned (.int .i64 p) ∧ w'.heap[wr.heap.size]? = some (.cells #[.int .i64 k, .string n, .slice ad1 l1 c1, .int .i64 k', .string n', .slice ad2 l2 c2] 34 (0, 0)) ∧ Hid (UnA lo (lo + 1) lo w3 w' (ps.map prow) X j (flat ps[j].1.1 ps[j].1.2) p) := fun W s => by
       refine Calls.mono (lay_first (hU4.below (s.below _)) hA f1 f2 hj5) ?_
       rintro e w' ⟨p, rfl, hk, hU⟩
       exact ⟨p, rfl, hk.keep _ _ (by rw [s.heap]; exact hn4) (by omega) (by omega) (not97 (by decide)), hU⟩
      have CY : ∀ W p, W.heap[wr.heap.size]? = some (.cells #[.int .i64 k, .string n, .slice ad1 l1 c1, .int .i64 k', .string n', .slice ad2 l2 c2] 34 (0, 0)) → Hid (UnA lo (lo + 1) lo w3 W (ps.map prow) X j (flat ps[j].1.1 ps[j].1.2) p) → Calls Tryz.prog 28 #[.pointer (some ⟨lo + 1, 0, none⟩), .agg #[.int .i64 k', .string n', .slice ad2 l2 c2]] W fun e w' => ∃ q : Nat, e = .returned (.int .i64 q) ∧ w'.heap[wr.heap.size]? = some (.cells #[.int .i64 k, .string n, .slice ad1 l1 c1, .int .i64 k', .string n', .slice ad2 l2 c2] 34 (0, 0)) ∧ Hid (UnB lo (lo + 1) lo w3 w' (ps.map prow) X j (flat ps[j].1.1 ps[j].1.2) (flat ps[j].2.1 ps[j].2.2) p q) := fun W p hW hU => by
       refine Calls.mono (lay_second hU.out hB2 f3 f4 hj5) ?_
       rintro e w' ⟨q, rfl, hk, hU2⟩
       exact ⟨q, rfl, hk.keep _ _ hW (by omega) (by omega) (not97 (by decide)), hU2⟩
      have CZ : ∀ W (p q : Nat), W.heap[wr.heap.size]? = some (.cells #[.int .i64 k, .string n, .slice ad1 l1 c1, .int .i64 k', .string n', .slice ad2 l2 c2] 34 (0, 0)) → Hid (UnB lo (lo + 1) lo w3 W (ps.map prow) X j (flat ps[j].1.1 ps[j].1.2) (flat ps[j].2.1 ps[j].2.2) p q) → Calls Tryz.prog 27 #[.pointer (some ⟨lo + 1, 0, none⟩), .int .i64 p, .int .i64 q] W fun e w' => ∃ c : Int, e = .returned (.int .i64 c) ∧ w'.heap[wr.heap.size]? = some (.cells #[.int .i64 k, .string n, .slice ad1 l1 c1, .int .i64 k', .string n', .slice ad2 l2 c2] 34 (0, 0)) ∧ Hid ((c ≠ 0 ∧ X = .inl (j, c) ∧ Gk lo (lo + 1) lo w3 w') ∨ (c = 0 ∧ UnS lo (lo + 1) lo w3 w' (ps.map prow) X (j + 1))) := fun W p q hW hU => by
       refine Calls.mono (agree_two hU.out hjm hrow hpok hj5) ?_
       rintro e w' ⟨c, rfl, hk, hU2⟩
       exact ⟨c, rfl, hk.keep _ _ hW (by omega) (by omega) (not97 (by decide)), hU2⟩
      obtain ⟨⟨c0, c1', c2', c3, c4, c5⟩, -⟩ := six_cells hn4
      have HLT : Hid (j < ps.length) := hlt
      clear hw4 d0 d1 d2 d3 d4 d5 hA hB2 f1 f2 f3 f4 hjm hrow hpok hU4 hb4 hn4 hcl HP hbq
      generalize wr.heap.size = z at *
      go_cut [11] from 42 to 48 (fun s wx => ∃ c : Int, s = .int .i64 c ∧ Hid ((c ≠ 0 ∧ X = .inl (j, c) ∧ Gk lo (lo + 1) lo w3 wx) ∨ (c = 0 ∧ UnS lo (lo + 1) lo w3 wx (ps.map prow) X (j + 1))))
      case first =>
       go_region_held3 (fun w' => w'.cell? ⟨z, 0, none⟩ = some (.int .i64 k) ∧ w'.cell? ⟨z, 1, none⟩ = some (.string n) ∧ w'.cell? ⟨z, 2, none⟩ = some (.slice ad1 l1 c1) ∧ w'.cell? ⟨z, 3, none⟩ = some (.int .i64 k') ∧ w'.cell? ⟨z, 4, none⟩ = some (.string n') ∧ w'.cell? ⟨z, 5, none⟩ = some (.slice ad2 l2 c2)) (first | (with_reducible exact ⟨c0, c1', c2', c3, c4, c5⟩) | (with_reducible exact S5) | (with_reducible exact S6) | (with_reducible exact S7) | (with_reducible assumption) | go_keep) (first
        | (go_at_call 28; (with_reducible refine Calls.mono (CX _ ?_) ?_); exact ⟨rfl, rfl, rfl, rfl⟩; rintro e' w5 ⟨p5, rfl, hn5, H5⟩; have S5 := (six_cells hn5).1)
        | (go_at_call 28; (with_reducible refine Calls.mono (CY w5 p5 hn5 H5) ?_); rintro e' w6 ⟨p6, rfl, hn6, H6⟩; have S6 := (six_cells hn6).1)
        | (go_at_call 27; (with_reducible refine Calls.mono (CZ w6 p5 p6 hn6 H6) ?_); rintro e' w7 ⟨cc, rfl, hn7, H7⟩; have S7 := (six_cells hn7).1))
       all_goals
        go_wp2_with fail
        go_meet
        exact ⟨cc, rfl, H7.out⟩
      case rest =>
       obtain ⟨cc, rfl, H7⟩ := hcut
       clear CX CY CZ c0 c1' c2' c3 c4 c5
       by_cases hc0 : cc = 0
       ·subst hc0
        have HN : Hid (UnS lo (lo + 1) lo w3 wc (ps.map prow) X (j + 1)) := by
         rcases H7.out with ⟨q, _⟩ | ⟨_, q⟩
         ·exact absurd rfl q
         ·exact q
        clear H7
        go_wp2_with fail
        go_roundw
        case rel => exact ⟨j + 1, HLT.out, by go_num, HN.out⟩
        case measure => have := HLT.out; simp [intOf]; omega
       ·have HER : Hid (UnifyP ps w (.returned (.tuple #[.slice none 0 0, .int .i64 j, .int .i64 cc])) wc) := by
         rcases H7.out with ⟨q1, q2, q3⟩ | ⟨q, _⟩
         ·obtain ⟨h1, h2, h3⟩ := HW3.out
          obtain ⟨_, _, _, r4, r5⟩ := HRK.out
          refine ⟨h1.trans (q3.below.mono h2), _, j, cc, rfl, .inl ⟨rfl, .inr (.inr (.inl ⟨r5, q1, j, ?_, rfl⟩))⟩⟩
          rw [← q2]
          exact r4
         ·exact absurd q hc0
        have hcb : (cc == 0) = false := by simpa using hc0
        have hcn : (cc != 0) = true := by simpa using hc0
        clear H7
        go_wp2_with fail
        refine bodyPost_ret (v := .tuple #[.slice none 0 0, .int .i64 j, .int .i64 cc]) (by simp [results, Tryz.results10, go_sem]) rfl ?_
        exact HER.out
     ·have hlt' : ¬ (j : Int) < (ps.length : Int) := by omega
      have hjl : j = ps.length := by omega
      obtain ⟨wk, xs, D, dn, rt, rk, M, hX, hM, hP, hL, hn, hc, hk⟩ := HP.out
      have hP : X = .inr M := by
       rw [hjl, show ps.length = (ps.map prow).length by simp, List.drop_length] at hP
       exact hP
      obtain ⟨-, -, r3, r4, r5⟩ := HRK.out
      rw [hP] at r4
      have hO : Okl M := Prs.ok _ [] 0 Okl.nil r3 r4
      have hwb : Below w.heap.size w wr ∧ w.heap.size ≤ wr.heap.size := ⟨hbq, hbq.size⟩
      have hlow := HW3.out.2.1
      by_cases hov : Over xs dn
      ·have CA : Calls Tryz.prog 29 #[.pointer (some ⟨lo + 1, 0, none⟩)] wr fun e w' => e = .returned (.bool true) ∧ Hid (UnifyP ps w (.returned (.tuple #[.slice none 0 0, .int .i64 ps.length, .int .i64 4])) w') := by
        refine Calls.mono (above_all hM wr hX) ?_
        rintro e w' ⟨⟨_, q⟩ | ⟨rfl, q⟩, k8, g8⟩
        ·exact absurd hov q
        ·refine ⟨rfl, hbq.trans (k8.below.mono hlow), _, ps.length, 4, rfl, .inl ⟨rfl, .inr (.inr (.inr ⟨r5, rfl, rfl, M, r4, ?_⟩))⟩⟩
         obtain ⟨i, hi, h2, h5⟩ := q
         have := hM.vb.dn i hi h2
         exact ⟨(lbX xs i).2, by rw [← this]; exact h5⟩
       clear HP hX hM hP hL hn hc hk hO hov HRK HL1 HNN HPR
       go_wp2_with (go_at_call 29; (with_reducible refine Calls.mono CA ?_); rintro e' w8 ⟨rfl, H8⟩)
       refine bodyPost_ret (v := .tuple #[.slice none 0 0, .int .i64 ps.length, .int .i64 4]) (by simp [results, Tryz.results10, go_sem]) rfl ?_
       exact H8.out
      ·have CA : Calls Tryz.prog 29 #[.pointer (some ⟨lo + 1, 0, none⟩)] wr fun e w' => e = .returned (.bool false) ∧ Hid (Gk lo (lo + 1) lo wr w' ∧ Gr w' lo (lo + 1) lo wk (fun _ => False) xs D dn rt rk) := by
        refine Calls.mono (above_all hM wr hX) ?_
        rintro e w' ⟨⟨rfl, q⟩ | ⟨_, q⟩, k8, g8⟩
        ·exact ⟨rfl, k8, g8⟩
        ·exact absurd q hov
       have CB : ∀ W, Hid (Gk lo (lo + 1) lo wr W ∧ Gr W lo (lo + 1) lo wk (fun _ => False) xs D dn rt rk) → Calls Tryz.prog 30 #[.pointer (some ⟨lo + 1, 0, none⟩)] W fun e w' => ∃ v, e = .returned v ∧ Hid (UnifyP ps w (.returned (.tuple #[v, .int .i64 0, .int .i64 0])) w') := fun W HW => by
        obtain ⟨k8, ys, y1, y2, y3⟩ := HW.out
        have hM8 := hM.eqg y1 y2
        have hsz : Maps.size D ≤ 200000000 ∧ W.ownsMap Tryz.prog 9 (plainElem Tryz.prog 3) lo (Maps.size D) D := by
         have hnum := y3.num
         obtain ⟨v, nn, e, hG, _⟩ := y3
         have := hG.msz
         have := hG.num
         exact ⟨by omega, hG.map⟩
        have hov8 : ¬ Over ys dn := fun ⟨i, h1, h2, h3⟩ => hov ⟨i, by rw [← y1.len]; exact h1, by rw [← y1.lb]; exact h2, h3⟩
        refine Calls.mono (bounds_of hM8 hO hov8 W y3 ((callsIn_wide (n := 5)).1 (Tryz.maps_Keys_36 (some lo) W)) ((callsIn_wide (n := 5)).1 (Tryz.slices_Sorted_keys_35_36 lo (Maps.size D) D _ W hsz.2 (by unfold maxLen; omega) (by omega)))) ?_
        rintro e w' ⟨v, es, bs, rss, ns, rfl, hR, n1, n2, n3, n4, n5, k9, n6⟩
        have hbW : Below w.heap.size w W := hbq.trans (k8.below.mono hlow)
        refine ⟨v, rfl, hbW.trans (k9.below.mono hlow), v, 0, 0, rfl, .inr ⟨rfl, rfl, r5, es, bs, rss, M, ns, hR.low hbW.size, r4, n1, n2, n4, n5, fun y hy => ?_, fun m hm => ?_, n6⟩⟩
        ·obtain ⟨i, h1, h2⟩ := hM8.vb.low y hy
         exact (n3 y.1).2 ⟨i, h1, h2⟩
        ·obtain ⟨i, h1, h2⟩ := (n3 m).1 hm
         have hv := hM8.vm.nn i h1 (by rw [h2])
         have hd := hM8.vb.dn i h1 (by rw [h2])
         rw [h2] at hv hd
         refine ⟨hv, ?_⟩
         rw [← hd]
         rcases Nat.lt_or_ge 500 (dn i).length with q | q
         ·exact absurd ⟨i, h1, by rw [h2], q⟩ hov8
         ·exact q
       clear HP hX hM hP hL hn hc hk hO hov HRK HL1 HNN HPR
       go_wp2_with (first
        | (go_at_call 29; (with_reducible refine Calls.mono CA ?_); rintro e' w8 ⟨rfl, H8⟩)
        | (go_at_call 30; (with_reducible refine Calls.mono (CB _ H8) ?_); rintro e' w9 ⟨v9, rfl, H9⟩))
       refine bodyPost_ret (v := .tuple #[v9, .int .i64 0, .int .i64 0]) (by simp [results, Tryz.results10, go_sem]) rfl ?_
       exact H9.out
end Go.Proofs.YtikpipenhamdbaaGreat
