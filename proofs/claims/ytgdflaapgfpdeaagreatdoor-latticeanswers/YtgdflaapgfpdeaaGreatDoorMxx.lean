/- functionsOf and Apply. The closure of edge, IndexFunc, ContainsFunc. edge: the least arguments of which a function makes v or more. Edge. -/
import Derived.Test.YtgdflaapgfpdeaaGreatDoorMwx
namespace Go.Proofs.YtgdflaapgfpdeaaGreatDoor
open Go.RowKit

theorem ord_lat : ∀ (d : Nat) (t : Tn d) (D : OrdD), ordD d t = some D → Lat D.1
  | 0, _, _, h => by cases h
  | d + 1, ((k, n), ts), D, h => by
    have h : (if k = 3 then (match ts with
      | a :: b :: _ => (ordD d a).bind fun x => (ordD d b).bind fun y => fnD x.1 y.1
      | _ => none)
    else if k = 4 ∧ n = [76, 105, 115, 116] then (if ts.length = 1 then some (chainP 4, none) else none) else some (chainP 2, none)) = some D := h
    by_cases hk : k = 3
    · rw [if_pos hk] at h
      match ts, h with
      | a :: b :: _, h =>
        have h : ((ordD d a).bind fun x => (ordD d b).bind fun y => fnD x.1 y.1) = some D := h
        cases ha : ordD d a with
        | none =>
          rw [ha] at h
          cases h
        | some A =>
          cases hb : ordD d b with
          | none =>
            rw [ha, hb] at h
            cases h
          | some C =>
            rw [ha, hb] at h
            have h : fnD A.1 C.1 = some D := h
            unfold fnD fnP at h
            split at h
            · next hl =>
              rw [← Option.some.inj h]
              exact fns_lat (ord_lat d b C hb) hl
            · cases h
      | [], h => cases h
      | [_], h => cases h
    · rw [if_neg hk] at h
      split at h
      · split at h
        · rw [← Option.some.inj h]
          exact chain_lat (by decide) (by decide)
        · cases h
      · rw [← Option.some.inj h]
        exact chain_lat (by decide) (by decide)
theorem order_lat {d : Nat} {t : Tn d} {D : OrdD} (h : orderD d t = some D) : Lat D.1 := by
  unfold orderD at h
  split at h
  · exact ord_lat _ _ _ h
  · cases h
theorem Lat.anti {ab : List Nat} (h : Lat ab) {a b : Nat} (h1 : Le ab a b) (h2 : Le ab b a) : a = b := Nat.le_antisymm (h.rise _ _ h1) (h.rise _ _ h2)
theorem join_lt {ab : List Nat} (h : Lat ab) {a b : Nat} (ha : a < ab.length) (hb : b < ab.length) : joinP ab a b < ab.length := h.small _ _ (join_lat h ha hb).2.2.1
theorem join_comm (ab : List Nat) (a b : Nat) : joinP ab a b = joinP ab b a := by
  unfold joinP
  rw [Nat.and_comm]
theorem join_le {ab : List Nat} (h : Lat ab) {a b : Nat} (hl : Le ab a b) (ha : a < ab.length) (hb : b < ab.length) : joinP ab a b = b := by
  obtain ⟨_, _, h1, h2, h3⟩ := join_lat h ha hb
  exact h.anti (h3 b hl (h.refl b hb)) h2
theorem join_assoc {ab : List Nat} (h : Lat ab) {a b c : Nat} (ha : a < ab.length) (hb : b < ab.length) (hc : c < ab.length) : joinP ab (joinP ab a b) c = joinP ab a (joinP ab b c) := by
  have hj := join_lt h ha hb
  have hq := join_lt h hb hc
  obtain ⟨_, _, j1, j2, j3⟩ := join_lat h ha hb
  obtain ⟨_, _, q1, q2, q3⟩ := join_lat h hb hc
  obtain ⟨_, _, p1, p2, p3⟩ := join_lat h hj hc
  obtain ⟨_, _, r1, r2, r3⟩ := join_lat h ha hq
  refine h.anti (p3 _ (j3 _ r1 (h.trans _ _ _ q1 r2)) (h.trans _ _ _ q2 r2)) (r3 _ (h.trans _ _ _ j1 p1) (q3 _ (h.trans _ _ _ j2 p1) p2))
theorem getD_at {l : List Nat} {i : Nat} (h : i < l.length) : l[i] = l.getD i 0 := by simp [List.getD, h]
/-- The order of a function type. -/
def funD (d : Nat) (t : Tn (d + 1)) : Option OrdD := if t.1.1 = 3 then orderD (d + 1) t else none
theorem fun_parts {d : Nat} {t : Tn (d + 1)} {D : OrdD} (h : funD d t = some D) : ∃ (a b : Tn d) (A C : OrdD), t.2 = [a, b] ∧ t.1.1 = 3 ∧ ordD d a = some A ∧ ordD d b = some C ∧ D = (fnsP C.1 (resP A.1 C.1), some (A.1, C.1)) ∧ Lat A.1 ∧ Lat C.1 ∧ (resP A.1 C.1).length ≤ 40 := by
  obtain ⟨⟨k, n⟩, ts⟩ := t
  unfold funD at h
  split at h
  · next hk =>
    have hk : k = 3 := hk
    unfold orderD at h
    split at h
    · next hw =>
      obtain ⟨_, a, b, hts, _, _⟩ := (form_gndR _ _ (wrong_form hw.1).1 (noVarB_iff.1 hw.2)).resolve_left (by
        show ¬ (k = 1 ∨ k = 4)
        omega)
      have hts : ts = [a, b] := hts
      subst hts
      have h : (if k = 3 then ((ordD d a).bind fun x => (ordD d b).bind fun y => fnD x.1 y.1) else _) = some D := h
      rw [if_pos hk] at h
      cases ha : ordD d a with
      | none =>
        rw [ha] at h
        cases h
      | some A =>
        cases hb : ordD d b with
        | none =>
          rw [ha, hb] at h
          cases h
        | some C =>
          rw [ha, hb] at h
          have h : fnD A.1 C.1 = some D := h
          unfold fnD fnP at h
          split at h
          · next hl => exact ⟨a, b, A, C, rfl, hk, ha, hb, (Option.some.inj h).symm, ord_lat _ _ _ ha, ord_lat _ _ _ hb, hl⟩
          · cases h
    · cases h
  · cases h
/-- What functionsOf answers, to be used. -/
def FofP (w : World) (od : Option OrdD) (r : Ending) (w' : World) : Prop := Hid (Below w.heap.size w w') ∧ ((od = none ∧ r = .returned (.tuple #[.pointer none, .int .i64 140])) ∨ ∃ fa ta p, od = some (fnsP ta (resP fa ta), some (fa, ta)) ∧ Lat fa ∧ Lat ta ∧ (resP fa ta).length ≤ 40 ∧ r = .returned (.tuple #[.pointer (some ⟨p, 0, none⟩), .int .i64 0]) ∧ Hid (OrP w' (fun y => y < w'.heap.size) p (fnsP ta (resP fa ta), some (fa, ta))))
set_option maxHeartbeats 16000000 in
set_option maxRecDepth 10000 in
theorem functionsOf_any (d : Nat) (x : Value) (t : Tn (d + 1)) (w : World) (hx : TyAt w w.heap.size (d + 1) x t) (hN : (flat (d + 1) t).length ≤ 4194304) :
    Calls Tryz.prog 27 #[x] w fun r w' => FofP w (funD d t) r w' := by
  have HX : Hid (TyAt w w.heap.size (d + 1) x t) := hx
  obtain ⟨u, rfl, hn1, hn2, hrow⟩ := hx
  obtain ⟨ad, cap, rfl⟩ := hrow.len
  obtain ⟨X, hX⟩ : ∃ X, X = w.heap.size := ⟨_, rfl⟩
  obtain ⟨W, hW⟩ : ∃ W, W = w.alloc (.cells #[.int .i64 t.1.1, .string ⟨t.1.2.toArray⟩, .slice ad t.2.length cap] 24) := ⟨_, rfl⟩
  have hBW : Below w.heap.size w W := by rw [hW]; exact (Below.refl _ _).alloc (Nat.le_refl _) _
  have hXW : W.heap[X]? = some (.cells #[.int .i64 t.1.1, .string ⟨t.1.2.toArray⟩, .slice ad t.2.length cap] 24 (0, 0)) := by rw [hW, hX]; exact new_blk _ _
  have CO := orderOf_any d (.agg #[.int .i64 t.1.1, .string ⟨t.1.2.toArray⟩, .slice ad t.2.length cap]) t W (TyAt.below hBW hBW.size _ _ _ HX.out) hN
  have c0 : W.cell? ⟨X, 0, none⟩ = some (.int .i64 t.1.1) := heap_cl hXW rfl
  have c1 : W.cell? ⟨X, 1, none⟩ = some (.string ⟨t.1.2.toArray⟩) := heap_cl hXW rfl
  have c2 : W.cell? ⟨X, 2, none⟩ = some (.slice ad t.2.length cap) := heap_cl hXW rfl
  have HXE : Hid (X = w.heap.size) := hX
  have HBW : Hid (Below w.heap.size w W) := hBW
  have HFU : Hid (funD d t = if t.1.1 = 3 then orderD (d + 1) t else none) := rfl
  have HPA : Hid (∀ D, funD d t = some D → ∃ fa ta, D = (fnsP ta (resP fa ta), some (fa, ta)) ∧ Lat fa ∧ Lat ta ∧ (resP fa ta).length ≤ 40) := fun D h => by
    obtain ⟨_, _, A, C, _, _, _, _, h1, h2, h3, h4⟩ := fun_parts h
    exact ⟨_, _, h1, h2, h3, h4⟩
  clear hn1 hn2 hrow hX hBW hXW hN HX
  generalize funD d t = fd at *
  generalize orderD (d + 1) t = od at *
  go_enter Tryz.func27, Tryz.ntmps27
  go_upto_region 1 with fail
  rw [← hW, ← HXE.out]
  clear hW
  by_cases hk : t.1.1 = 3
  · have i1 : (t.1.1 != 3) = false := by simp [hk]
    rw [if_pos hk] at HFU
    clear hk
    generalize t.1.1 = k at *
    go_wp2_with (first | (go_at_call 32; (with_reducible refine Calls.mono CO ?_); rintro e' w2 ⟨HB2, hP2⟩; obtain ⟨vp, ve, rfl, HE⟩ : ∃ vp ve, e' = .returned (.tuple #[vp, ve]) ∧ Hid (FofP w fd (.returned (.tuple #[vp, ve])) w2) := (by
        have hb := HBW.out.trans (HB2.mono HBW.out.size)
        rcases hP2 with ⟨h1, h2⟩ | ⟨D, p, h1, h2, h3, h4⟩
        · exact ⟨_, _, h2, hb, .inl ⟨HFU.out.trans h1, rfl⟩⟩
        · obtain ⟨fa, ta, rfl, q1, q2, q3⟩ := HPA.out D (HFU.out.trans h1)
          exact ⟨_, _, h2, hb, .inr ⟨fa, ta, p, HFU.out.trans h1, q1, q2, q3, rfl, h3⟩⟩); clear hP2 HB2))
    refine bodyPost_ret (v := .tuple #[vp, ve]) (by simp [results, Tryz.results27, go_sem]) rfl ?_
    exact HE.out
  · have i1 : (t.1.1 != 3) = true := by simp [hk]
    rw [if_neg hk] at HFU
    clear hk CO
    generalize t.1.1 = k at *
    go_wp2
    refine bodyPost_ret (v := .tuple #[.pointer none, .int .i64 140]) (by simp [results, Tryz.results27, go_sem]) rfl ?_
    exact ⟨HBW.out, .inl ⟨HFU.out, rfl⟩⟩
def applyD (od : Option OrdD) (f y : Int) : Nat × Int := match od with
  | none => (0, 140)
  | some D => match D.2 with
    | none => (0, 140)
    | some p => if 0 ≤ f ∧ f < (D.1.length : Int) ∧ 0 ≤ y ∧ y < (p.1.length : Int) then (((resP p.1 p.2).getD f.toNat []).getD y.toNat 0, 0) else (0, 141)
set_option maxHeartbeats 16000000 in
set_option maxRecDepth 10000 in
theorem apply_all (d : Nat) (x : Value) (t : Tn (d + 1)) (w : World) (hx : TyAt w w.heap.size (d + 1) x t) (hN : (flat (d + 1) t).length ≤ 4194304) (f y : Int) :
    Calls Tryz.prog 14 #[x, .int .i64 f, .int .i64 y] w fun r w' => r = .returned (.tuple #[.int .i64 ((applyD (funD d t) f y).1 : Int), .int .i64 (applyD (funD d t) f y).2]) ∧ Hid (Below w.heap.size w w') := by
  have HX : Hid (TyAt w w.heap.size (d + 1) x t) := hx
  obtain ⟨u, rfl, hn1, hn2, hrow⟩ := hx
  obtain ⟨ad, cap, rfl⟩ := hrow.len
  obtain ⟨X, hX⟩ : ∃ X, X = w.heap.size := ⟨_, rfl⟩
  obtain ⟨W, hW⟩ : ∃ W, W = w.alloc (.cells #[.int .i64 t.1.1, .string ⟨t.1.2.toArray⟩, .slice ad t.2.length cap] 24) := ⟨_, rfl⟩
  have hBW : Below w.heap.size w W := by rw [hW]; exact (Below.refl _ _).alloc (Nat.le_refl _) _
  have hXW : W.heap[X]? = some (.cells #[.int .i64 t.1.1, .string ⟨t.1.2.toArray⟩, .slice ad t.2.length cap] 24 (0, 0)) := by rw [hW, hX]; exact new_blk _ _
  have CO := functionsOf_any d (.agg #[.int .i64 t.1.1, .string ⟨t.1.2.toArray⟩, .slice ad t.2.length cap]) t W (TyAt.below hBW hBW.size _ _ _ HX.out) hN
  have c0 : W.cell? ⟨X, 0, none⟩ = some (.int .i64 t.1.1) := heap_cl hXW rfl
  have c1 : W.cell? ⟨X, 1, none⟩ = some (.string ⟨t.1.2.toArray⟩) := heap_cl hXW rfl
  have c2 : W.cell? ⟨X, 2, none⟩ = some (.slice ad t.2.length cap) := heap_cl hXW rfl
  have HXE : Hid (X = w.heap.size) := hX
  have HBW : Hid (Below w.heap.size w W) := hBW
  clear hn1 hn2 hrow hX hBW hXW hN HX
  generalize funD d t = od at *
  generalize t.1.1 = k at *
  generalize t.1.2 = n at *
  generalize t.2.length = m at *
  clear t
  go_enter Tryz.func14, Tryz.ntmps14
  go_upto_region 1 with fail
  rw [← hW, ← HXE.out]
  clear hW
  go_upto_region 2 with (first | (go_at_call 27; (with_reducible refine Calls.mono CO ?_); rintro e' w2 ⟨HB2, hP2⟩; obtain ⟨vp, ve, rfl, HP2⟩ : ∃ vp ve, e' = .returned (.tuple #[vp, ve]) ∧ Hid ((od = none ∧ vp = .pointer none ∧ ve = .int .i64 140) ∨ ∃ fa ta p, od = some (fnsP ta (resP fa ta), some (fa, ta)) ∧ Lat fa ∧ Lat ta ∧ (resP fa ta).length ≤ 40 ∧ vp = .pointer (some ⟨p, 0, none⟩) ∧ ve = .int .i64 0 ∧ OrP w2 (fun y => y < w2.heap.size) p (fnsP ta (resP fa ta), some (fa, ta))) := (by
        rcases hP2 with ⟨h1, h2⟩ | ⟨fa, ta, p, h1, h2, h3, h4, h5, h6⟩
        · exact ⟨_, _, h2, .inl ⟨h1, rfl, rfl⟩⟩
        · exact ⟨_, _, h5, .inr ⟨fa, ta, p, h1, h2, h3, h4, rfl, rfl, h6.out⟩⟩); clear hP2))
  have HBB : Hid (Below w.heap.size w w2) := HBW.out.trans (HB2.out.mono HBW.out.size)
  clear c0 c1 c2 CO HB2
  rcases HP2.out with ⟨rfl, rfl, rfl⟩ | ⟨fa, ta, p, rfl, hla, hlb, hfew, rfl, rfl, hor⟩
  · clear HP2
    go_wp2
    refine bodyPost_ret (v := .tuple #[.int .i64 0, .int .i64 140]) (by simp [results, Tryz.results14, go_sem]) rfl ?_
    exact ⟨rfl, HBB.out⟩
  · obtain ⟨hab, hrest⟩ := hor
    obtain ⟨pf, pt, v, q1, q2, q3, q4, q5, q6⟩ := hrest fa ta rfl
    have CF := hasO_any hab f
    have CX := hasO_any q4 y
    have HDE : Hid (applyD (some (fnsP ta (resP fa ta), some (fa, ta))) f y = if 0 ≤ f ∧ f < ((fnsP ta (resP fa ta)).length : Int) ∧ 0 ≤ y ∧ y < (fa.length : Int) then (((resP fa ta).getD f.toNat []).getD y.toNat 0, 0) else (0, 141)) := rfl
    rw [fns_len] at HDE
    rw [show (fnsP ta (resP fa ta), some (fa, ta)).1.length = (resP fa ta).length from fns_len _ _] at CF
    clear HP2 hrest hab
    by_cases hf : 0 ≤ f ∧ f < ((resP fa ta).length : Int)
    · rw [decide_eq_true hf] at CF
      by_cases hy : 0 ≤ y ∧ y < (fa.length : Int)
      · rw [decide_eq_true hy] at CX
        rw [if_pos ⟨hf.1, hf.2, hy.1, hy.2⟩] at HDE
        obtain ⟨fn, rfl⟩ : ∃ fn : Nat, f = fn := ⟨f.toNat, by omega⟩
        obtain ⟨yn, rfl⟩ : ∃ yn : Nat, y = yn := ⟨y.toNat, by omega⟩
        have hfn : fn < (resP fa ta).length := by omega
        obtain ⟨adv, cv, hv⟩ := RowK.open q6
        rw [Int.toNat_natCast, Int.toNat_natCast] at HDE
        obtain ⟨hv1, -⟩ := hv
        subst hv1
        obtain ⟨g, o, rfl, hsg, hcf, ai, ci, p1, p2⟩ := row_nts q6 fn hfn
        have hlen : ((resP fa ta).getD fn []).length = fa.length := ((res_mem fa ta _).1 (res_in hfn)).1
        have hyl : yn < ((resP fa ta).getD fn []).length := by rw [hlen]; omega
        obtain ⟨g2, o2, rfl, hc2, hs2, p3⟩ := p2.at hyl
        rw [show ((resP fa ta).getD fn [])[yn] = ((resP fa ta).getD fn []).getD yn 0 from getD_at hyl] at p3
        have i1 : (0 : Int) ≤ (fn : Int) := by omega
        have i2 : (fn : Int) < ((resP fa ta).length : Int) := hf.2
        have i3 : (0 : Int) ≤ (yn : Int) := by omega
        have i4 : (yn : Int) < (((resP fa ta).getD fn []).length : Int) := by omega
        clear hf hy hfn hyl hlen q4 q5 q6 p2 hla hlb hfew
        generalize ((resP fa ta).getD fn []).getD yn 0 = val at *
        generalize ((resP fa ta).getD fn []).length = len at *
        generalize (resP fa ta).length = rl at *
        go_wp2_with (first | (go_at_call 35; (with_reducible refine Calls.mono CF ?_); rintro e' w3 ⟨rfl, hw3⟩; subst hw3) | (go_at_call 35; (with_reducible refine Calls.mono CX ?_); rintro e' w4 ⟨rfl, hw4⟩; subst hw4))
        refine bodyPost_ret (v := .tuple #[.int .i64 (val : Int), .int .i64 0]) (by simp [results, Tryz.results14, go_sem]) rfl ?_
        exact ⟨by rw [HDE.out], HBB.out⟩
      · rw [decide_eq_false hy] at CX
        rw [if_neg (fun q => hy q.2.2)] at HDE
        clear hf hy q4 q5 q6 hla hlb hfew
        go_wp2_with (first | (go_at_call 35; (with_reducible refine Calls.mono CF ?_); rintro e' w3 ⟨rfl, hw3⟩; subst hw3) | (go_at_call 35; (with_reducible refine Calls.mono CX ?_); rintro e' w4 ⟨rfl, hw4⟩; subst hw4))
        refine bodyPost_ret (v := .tuple #[.int .i64 0, .int .i64 141]) (by simp [results, Tryz.results14, go_sem]) rfl ?_
        exact ⟨by rw [HDE.out] <;> rfl, HBB.out⟩
    · rw [decide_eq_false hf] at CF
      rw [if_neg (fun q => hf ⟨q.1, q.2.1⟩)] at HDE
      clear hf q4 q5 q6 hla hlb hfew CX
      go_wp2_with (first | (go_at_call 35; (with_reducible refine Calls.mono CF ?_); rintro e' w3 ⟨rfl, hw3⟩; subst hw3))
      refine bodyPost_ret (v := .tuple #[.int .i64 0, .int .i64 141]) (by simp [results, Tryz.results14, go_sem]) rfl ?_
      exact ⟨by rw [HDE.out] <;> rfl, HBB.out⟩
end Go.Proofs.YtgdflaapgfpdeaaGreatDoor

namespace Go.Proofs.YtgdflaapgfpdeaaGreatDoor
open Go.RowKit

/-- What the closure reads: the box of the order, the box of the argument. -/
def EdB (w : World) (Ob Xb p pf : Nat) (fa : List Nat) (x : Nat) : Prop := w.cell? ⟨Ob, 0, none⟩ = some (.pointer (some ⟨p, 0, none⟩)) ∧ w.cell? ⟨p, 1, none⟩ = some (.pointer (some ⟨pf, 0, none⟩)) ∧ w.cell? ⟨Xb, 0, none⟩ = some (.int .i64 (x : Int)) ∧ ∃ S, AbAt w S pf fa
set_option maxHeartbeats 4000000 in
set_option maxRecDepth 10000 in
theorem edge1_any {w : World} {Ob Xb p pf : Nat} {fa : List Nat} {x : Nat} (h : EdB w Ob Xb p pf fa x) (hl : Lat fa) (hx : x < fa.length) (y : Nat) (hy : y < fa.length) :
    Calls Tryz.prog 53 #[.int .i64 (y : Int), .pointer (some ⟨Ob, 0, none⟩), .pointer (some ⟨Xb, 0, none⟩)] w fun r w' => r = .returned (.bool ((fa.getD y 0).testBit x)) ∧ w' = w.drew := by
  obtain ⟨h1, h2, h3, S, h4⟩ := h
  have CB := belowO_any (w := w.drew) (h4.on (Keeps.refl _ _) fun _ h => h) y x hy (lat_lt hl _ (List.getElem_mem hy)) (by have := hl.few; omega)
  rw [show fa[y] = fa.getD y 0 by simp [hy]] at CB
  generalize (fa.getD y 0).testBit x = bb at *
  go_enter Tryz.func53, Tryz.ntmps53
  go_upto_region 1 with fail
  have hS0 : (fun w' : World => w'.cell? ⟨Ob, 0, none⟩ = some (.pointer (some ⟨p, 0, none⟩)) ∧ w'.cell? ⟨p, 1, none⟩ = some (.pointer (some ⟨pf, 0, none⟩)) ∧ w'.cell? ⟨Xb, 0, none⟩ = some (.int .i64 (x : Int))) w.drew := ⟨h1, h2, h3⟩
  refine wp_region_M (S := (fun w' : World => w'.cell? ⟨Ob, 0, none⟩ = some (.pointer (some ⟨p, 0, none⟩)) ∧ w'.cell? ⟨p, 1, none⟩ = some (.pointer (some ⟨pf, 0, none⟩)) ∧ w'.cell? ⟨Xb, 0, none⟩ = some (.int .i64 (x : Int)))) (L := 7) (n := 8) (by kernel_rfl) rfl (by kernel_rfl) ?_
  refine wpAnyK_go (i := 0) (m' := 1) (some 5) (v := .pointer (some ⟨p, 0, none⟩)) rfl rfl (by kernel_rfl) (by kernel_rfl) (by kernel_rfl) (by kernel_rfl) (by kernel_rfl) (fun _ _ _ h => h) (Or.inl ⟨by rfl, ?_⟩) hS0 ?_
  · intro w' hSw
    obtain ⟨s1, s2, s3⟩ := hSw
    go_simp
  simp only [Act.put, List.setIfInBounds_toArray, List.set_cons_zero, List.set_cons_succ]
  refine wpAnyK_go (i := 1) (m' := 3) (some 6) (v := .pointer (some ⟨p, 0, none⟩)) rfl rfl (by kernel_rfl) (by kernel_rfl) (by kernel_rfl) (by kernel_rfl) (by kernel_rfl) (fun _ _ _ h => h) (Or.inl ⟨by rfl, ?_⟩) hS0 ?_
  · intro w' hSw
    go_simp
  simp only [Act.put, List.setIfInBounds_toArray, List.set_cons_zero, List.set_cons_succ]
  refine wpAnyK_go (i := 2) (m' := 7) (some 7) (v := .pointer (some ⟨p, 1, none⟩)) rfl rfl (by kernel_rfl) (by kernel_rfl) (by kernel_rfl) (by kernel_rfl) (by kernel_rfl) (fun _ _ _ h => h) (Or.inl ⟨by rfl, ?_⟩) hS0 ?_
  · intro w' hSw
    go_simp
  simp only [Act.put, List.setIfInBounds_toArray, List.set_cons_zero, List.set_cons_succ]
  refine wpAnyK_go (i := 3) (m' := 15) (some 8) (v := .pointer (some ⟨pf, 0, none⟩)) rfl rfl (by kernel_rfl) (by kernel_rfl) (by kernel_rfl) (by kernel_rfl) (by kernel_rfl) (fun _ _ _ h => h) (Or.inl ⟨by rfl, ?_⟩) hS0 ?_
  · intro w' hSw
    obtain ⟨s1, s2, s3⟩ := hSw
    go_simp
  simp only [Act.put, List.setIfInBounds_toArray, List.set_cons_zero, List.set_cons_succ]
  refine wpAnyK_go (i := 4) (m' := 31) (some 9) (v := .int .i64 (y : Int)) rfl rfl (by kernel_rfl) (by kernel_rfl) (by kernel_rfl) (by kernel_rfl) (by kernel_rfl) (fun _ _ _ h => h) (Or.inl ⟨by rfl, ?_⟩) hS0 ?_
  · intro w' hSw
    go_simp
  simp only [Act.put, List.setIfInBounds_toArray, List.set_cons_zero, List.set_cons_succ]
  refine wpAnyK_go (i := 5) (m' := 63) (some 10) (v := .int .i64 (x : Int)) rfl rfl (by kernel_rfl) (by kernel_rfl) (by kernel_rfl) (by kernel_rfl) (by kernel_rfl) (fun _ _ _ h => h) (Or.inl ⟨by rfl, ?_⟩) hS0 ?_
  · intro w' hSw
    obtain ⟨s1, s2, s3⟩ := hSw
    go_simp
  simp only [Act.put, List.setIfInBounds_toArray, List.set_cons_zero, List.set_cons_succ]
  refine wpAnyK_only (i := 6) (m' := 127) (by kernel_rfl) rfl (by kernel_rfl) fun K hK => ?_
  go_simp
  (with_reducible refine Calls.mono CB ?_)
  rintro e' w8 ⟨rfl, hw8⟩
  obtain rfl := hw8.symm
  clear hw8
  go_simp
  refine hK.out _ _ (fun _ => hS0) ?_
  clear hK K CB
  refine wpAnyK_only (i := 7) (m' := 255) (by kernel_rfl) rfl (by kernel_rfl) fun K hK => ?_
  go_simp
  refine hK.out _ _ (fun h => absurd rfl h) ?_
  clear hK K hS0
  refine wpAnyK_done (by kernel_rfl) ?_ _
  go_wp2
  go_ret
  exact ⟨rfl, rfl⟩
/-- Where the first one is, or that there is none. -/
def IxP (i : Int) (an : Bool) : Prop := (0 ≤ i ↔ an = true) ∧ -1 ≤ i ∧ i ≤ 1000
set_option maxHeartbeats 4000000 in
set_option maxRecDepth 10000 in
theorem indexF_any {w : World} {Ob Xb p pf : Nat} {fa : List Nat} {x : Nat} (h : EdB w Ob Xb p pf fa x) (hl : Lat fa) (hx : x < fa.length) {S : Nat → Prop} {ad : Option Addr} {cap : Nat} {l : List Nat} (hs : Nts w S (.slice ad l.length cap) l) (hv : ∀ y ∈ l, y < fa.length) (hl2 : l.length ≤ 1000) :
    Calls Tryz.prog 62 #[.slice ad l.length cap, .func (.func 53) #[] #[.pointer (some ⟨Ob, 0, none⟩), .pointer (some ⟨Xb, 0, none⟩)]] w fun r w' => (∃ i : Int, r = .returned (.int .i64 i) ∧ IxP i (l.any (fun y => (fa.getD y 0).testBit x))) ∧ ∃ q, w' = w.drewN q := by
  have HS : Hid (∀ i (h : i < l.length), ∃ g o, ad = some ⟨g, o, none⟩ ∧ l.length ≤ cap ∧ w.cell? ⟨g, o + i, none⟩ = some (.int .i64 (l[i] : Int)) ∧ l[i] < fa.length) := fun i hi => by
    obtain ⟨g, o, a1, a2, _, a3⟩ := hs.at hi
    exact ⟨g, o, a1, a2, a3, hv _ (List.getElem_mem hi)⟩
  have HE : Hid (∀ q y, y < fa.length → Calls Tryz.prog 53 #[.int .i64 (y : Int), .pointer (some ⟨Ob, 0, none⟩), .pointer (some ⟨Xb, 0, none⟩)] (w.drewN q) fun r w' => r = .returned (.bool ((fa.getD y 0).testBit x)) ∧ w' = (w.drewN q).drew) := fun q y hy => by
    obtain ⟨h1, h2, h3, S, h4⟩ := h
    exact edge1_any (w := w.drewN q) ⟨h1, h2, h3, S, h4.on (fun _ _ => rfl) fun _ h => h⟩ hl hx y hy
  have HT : Hid (∀ i (h : i < l.length), (fa.getD l[i] 0).testBit x = true → l.any (fun y => (fa.getD y 0).testBit x) = true) := fun i h hb => List.any_eq_true.2 ⟨_, List.getElem_mem h, hb⟩
  have HF : Hid ((∀ i (h : i < l.length), (fa.getD l[i] 0).testBit x = false) → l.any (fun y => (fa.getD y 0).testBit x) = false) := fun h => by
    rw [List.any_eq_false]
    intro y hy
    obtain ⟨j, hj, rfl⟩ := List.getElem_of_mem hy
    rw [h j hj]
    exact Bool.false_ne_true
  have HL2 : Hid (l.length ≤ 1000) := hl2
  clear h hl hx hs hv
  generalize l.any (fun y => (fa.getD y 0).testBit x) = an at *
  go_enter Tryz.func62, Tryz.ntmps62
  go_upto_region 2 with fail
  go_loopw [8] (fun iv wr => ∃ i q : Nat, i ≤ l.length ∧ iv = .int .i64 i ∧ wr = w.drewN q ∧ Hid (∀ j (h : j < l.length), j < i → (fa.getD l[j] 0).testBit x = false)) (fun iv _ => l.length - (intOf iv).toNat)
  case atStart => exact ⟨0, 0, by omega, by go_num, rfl, fun j h h2 => by omega⟩
  case round =>
    obtain ⟨i, q, hi, rfl, rfl, HJ⟩ := hrel
    by_cases hil : i < l.length
    · obtain ⟨g, o, rfl, hc, q1, q2⟩ := HS.out i hil
      replace q1 : (w.drewN q).cell? ⟨g, o + i, none⟩ = some (.int .i64 (l[i] : Int)) := q1
      have CE := HE.out q _ q2
      have i1 : (0 : Int) ≤ (i : Int) := by omega
      have i2 : (i : Int) < (l.length : Int) := by omega
      have HTi : Hid ((fa.getD l[i] 0).testBit x = true → an = true) := HT.out i hil
      have HJi : Hid ((fa.getD l[i] 0).testBit x = false → ∀ j (h : j < l.length), j < i + 1 → (fa.getD l[j] 0).testBit x = false) := fun hb j h h2 => by
        by_cases e : j = i
        · subst e; exact hb
        · exact HJ.out j h (by omega)
      generalize (fa.getD l[i] 0).testBit x = bb at *
      generalize l[i] = yv at *
      cases bb with
      | true =>
        have HA : Hid (IxP (i : Int) an) := ⟨⟨fun _ => HTi.out rfl, fun _ => i1⟩, by omega, by have := HL2.out; omega⟩
        go_wp2_with (first | (go_at_call 53; (with_reducible refine Calls.mono CE ?_); rintro e' w3 ⟨rfl, rfl⟩))
        go_ret
        exact ⟨⟨_, rfl, HA.out⟩, q + 1, by simp [World.drewN]⟩
      | false =>
        have HJ2 := HJi.out rfl
        replace HJ2 : Hid _ := HJ2
        go_wp2_with (first | (go_at_call 53; (with_reducible refine Calls.mono CE ?_); rintro e' w3 ⟨rfl, rfl⟩))
        go_roundw
        case rel => exact ⟨i + 1, q + 1, hil, by go_num, by simp [World.drewN], HJ2.out⟩
        case measure => simp [intOf]; omega
    · obtain rfl : i = l.length := by omega
      have HA : Hid (IxP (-1) an) := ⟨⟨fun h => by omega, fun h => by rw [HF.out fun j h => HJ.out j h h] at h; cases h⟩, by omega, by omega⟩
      go_wp2
      go_ret
      exact ⟨⟨-1, rfl, HA.out⟩, q, rfl⟩
set_option maxHeartbeats 4000000 in
set_option maxRecDepth 10000 in
theorem contains_any {w : World} {Ob Xb p pf : Nat} {fa : List Nat} {x : Nat} (h : EdB w Ob Xb p pf fa x) (hl : Lat fa) (hx : x < fa.length) {S : Nat → Prop} {ad : Option Addr} {cap : Nat} {l : List Nat} (hs : Nts w S (.slice ad l.length cap) l) (hv : ∀ y ∈ l, y < fa.length) (hl2 : l.length ≤ 1000) :
    Calls Tryz.prog 52 #[.slice ad l.length cap, .func (.func 53) #[] #[.pointer (some ⟨Ob, 0, none⟩), .pointer (some ⟨Xb, 0, none⟩)]] w fun r w' => r = .returned (.bool (l.any fun y => (fa.getD y 0).testBit x)) ∧ ∃ q, w' = w.drewN q := by
  have CI := indexF_any h hl hx hs hv hl2
  clear h hl hx hs hv hl2
  generalize (l.any fun y => (fa.getD y 0).testBit x) = an at *
  generalize l.length = n at *
  go_enter Tryz.func52, Tryz.ntmps52
  go_wp2_with (first | (go_at_call 62; (with_reducible refine Calls.mono CI ?_); rintro e' w3 ⟨⟨i, rfl, hi⟩, q, rfl⟩))
  have e : decide (0 ≤ i) = an := by
    obtain ⟨hi, _⟩ := hi
    cases an with
    | true => exact decide_eq_true (hi.2 rfl)
    | false => exact decide_eq_false fun q => by have := hi.1 q; cases this
  go_ret
  exact ⟨by show Ending.returned (.bool (decide (0 ≤ i))) = _; rw [e], q, rfl⟩
end Go.Proofs.YtgdflaapgfpdeaaGreatDoor

namespace Go.Proofs.YtgdflaapgfpdeaaGreatDoor
open Go.RowKit

/-- The least arguments below k of which a function makes v or more. -/
def edgeP (fa ta r : List Nat) (v : Nat) : Nat → List Nat
  | 0 => []
  | k + 1 => if (ta.getD v 0).testBit (r.getD k 0) && !((edgeP fa ta r v k).any fun y => (fa.getD y 0).testBit k) then edgeP fa ta r v k ++ [k] else edgeP fa ta r v k
theorem edge_lt (fa ta r : List Nat) (v : Nat) : ∀ k, ∀ y ∈ edgeP fa ta r v k, y < k
  | 0, y, h => by simp [edgeP] at h
  | k + 1, y, h => by
    unfold edgeP at h
    split at h
    · rcases List.mem_append.1 h with h | h
      · have := edge_lt fa ta r v k y h
        omega
      · have := List.mem_singleton.1 h
        omega
    · have := edge_lt fa ta r v k y h
      omega
theorem edge_len (fa ta r : List Nat) (v : Nat) : ∀ k, (edgeP fa ta r v k).length ≤ k
  | 0 => by simp [edgeP]
  | k + 1 => by
    have := edge_len fa ta r v k
    unfold edgeP
    split
    · simp; omega
    · omega
set_option maxHeartbeats 16000000 in
set_option maxRecDepth 10000 in
theorem edge_any {w : World} {p : Nat} {fa ta : List Nat} (hor : OrP w (fun y => y < w.heap.size) p (fnsP ta (resP fa ta), some (fa, ta))) (hla : Lat fa) (hlb : Lat ta) (f v : Nat) (hf : f < (resP fa ta).length) (hv : v < ta.length) :
    Calls Tryz.prog 42 #[.pointer (some ⟨p, 0, none⟩), .int .i64 (f : Int), .int .i64 (v : Int)] w fun r w' => ∃ ad cap, r = .returned (.slice ad (edgeP fa ta ((resP fa ta).getD f []) v fa.length).length cap) ∧ Hid (Below w.heap.size w w') ∧ Hid (OwnN ENat 3 (w.heap.size + 1) (fun _ => False) w' (.slice ad (edgeP fa ta ((resP fa ta).getD f []) v fa.length).length cap) (edgeP fa ta ((resP fa ta).getD f []) v fa.length)) := by
  obtain ⟨hab, hrest⟩ := hor
  obtain ⟨pf, pt, rv0, q1, q2, q3, q4, q5, q6⟩ := hrest fa ta rfl
  have hps : p < w.heap.size := hab.1
  have hrlen : ((resP fa ta).getD f []).length = fa.length := ((res_mem fa ta _).1 (res_in hf)).1
  have hrlt := ((res_mem fa ta _).1 (res_in hf)).2.1
  obtain ⟨adv, cv, hv1, -⟩ := RowK.open q6
  subst hv1
  obtain ⟨g, o, rfl, hsg, hcf, ai, ci, p1, p2⟩ := row_nts q6 f hf
  have hfl : 0 < fa.length := hla.pos
  rw [hrlen] at p1 p2
  obtain ⟨g2, o2, rfl, hc2, hs2, -⟩ := Nts.at (l := (resP fa ta).getD f []) (j := 0) (by rw [hrlen] at *; exact p2) (by rw [hrlen]; exact hfl)
  rw [hrlen] at hc2
  obtain ⟨Ob, hOb⟩ : ∃ Ob, Ob = w.heap.size := ⟨_, rfl⟩
  obtain ⟨W, hW⟩ : ∃ W, W = w.alloc (.cells #[.pointer (some ⟨p, 0, none⟩)] 50) := ⟨_, rfl⟩
  have hBW : Below w.heap.size w W := by rw [hW]; exact (Below.refl _ _).alloc (Nat.le_refl _) _
  have hOW : W.heap[Ob]? = some (.cells #[.pointer (some ⟨p, 0, none⟩)] 50 (0, 0)) := by rw [hW, hOb]; exact new_blk _ _
  obtain ⟨row, hrow⟩ : ∃ row, row = (resP fa ta).getD f [] := ⟨_, rfl⟩
  rw [← hrow] at p2 hrlen hrlt ⊢
  obtain ⟨rl, hrl⟩ : ∃ rl, rl = (resP fa ta).length := ⟨_, rfl⟩
  rw [← hrl] at q3 hcf hf
  have HW : Hid (∀ wr : World, Below w.heap.size w wr → (w.heap.size < wr.heap.size → wr.heap[Ob]? = some (.cells #[.pointer (some ⟨p, 0, none⟩)] 50 (0, 0)) → wr.cell? ⟨Ob, 0, none⟩ = some (.pointer (some ⟨p, 0, none⟩))) ∧ wr.cell? ⟨p, 1, none⟩ = some (.pointer (some ⟨pf, 0, none⟩)) ∧ wr.cell? ⟨p, 2, none⟩ = some (.pointer (some ⟨pt, 0, none⟩)) ∧ wr.cell? ⟨p, 3, none⟩ = some (.slice (some ⟨g, o, none⟩) rl cv) ∧ wr.cell? ⟨g, o + f, none⟩ = some (.slice (some ⟨g2, o2, none⟩) fa.length ci) ∧ (∀ x, x < fa.length → wr.cell? ⟨g2, o2 + x, none⟩ = some (.int .i64 (row.getD x 0 : Int))) ∧ AbAt wr (fun y => y < w.heap.size) pf fa ∧ AbAt wr (fun y => y < w.heap.size) pt ta) := fun wr hb => by
    have hk : Keeps (fun y => y < w.heap.size) w wr := Keeps.of hb fun _ h => h
    refine ⟨fun _ h => heap_cl h rfl, (hb.cell (p := ⟨p, 1, none⟩) hps).trans q1, (hb.cell (p := ⟨p, 2, none⟩) hps).trans q2, (hb.cell (p := ⟨p, 3, none⟩) hps).trans q3, (hb.cell (p := ⟨g, o + f, none⟩) hsg).trans p1, fun x hx => ?_, q4.on hk fun _ h => h, q5.on hk fun _ h => h⟩
    have p2b : Nts w (fun y => y < w.heap.size) (.slice (some ⟨g2, o2, none⟩) row.length ci) row := by rw [hrlen]; exact p2
    obtain ⟨g3, o3, e3, _, hs3, p3⟩ := p2b.at (j := x) (by rw [hrlen]; exact hx)
    simp only [Option.some.injEq, Addr.mk.injEq, and_true] at e3
    obtain ⟨rfl, rfl⟩ := e3
    refine (hb.cell (p := ⟨g2, o2 + x, none⟩) hs3).trans ?_
    rw [p3]
    simp [List.getD, List.getElem?_eq_getElem (show x < row.length by rw [hrlen]; exact hx)]
  have CS := size_any (w := W) (q4.on (Keeps.of hBW fun _ h => h) fun _ h => h)
  have HOW : Hid (W.heap[Ob]? = some (.cells #[.pointer (some ⟨p, 0, none⟩)] 50 (0, 0))) := hOW
  have HBW : Hid (Below w.heap.size w W ∧ W.heap.size = w.heap.size + 1 ∧ Ob = w.heap.size) := ⟨hBW, by rw [hW, World.size_alloc], hOb⟩
  have HLA : Hid (Lat fa) := hla
  have HLB : Hid (Lat ta) := hlb
  have HRT : Hid (∀ x, x < fa.length → row.getD x 0 < ta.length) := hrlt
  have hvb : v < ta.length := hv
  have HEL : Hid (∀ k, (edgeP fa ta row v k).length ≤ k) := fun k => edge_len fa ta row v k
  have HEM : Hid (∀ k, ∀ y ∈ edgeP fa ta row v k, y < k) := fun k => edge_lt fa ta row v k
  have HES : Hid (∀ k, edgeP fa ta row v (k + 1) = if (ta.getD v 0).testBit (row.getD k 0) && !((edgeP fa ta row v k).any fun y => (fa.getD y 0).testBit k) then edgeP fa ta row v k ++ [k] else edgeP fa ta row v k) := fun _ => rfl
  have HBE : Hid (∀ (wr : World) (x : Nat), Below w.heap.size w wr → x < fa.length → Calls Tryz.prog 37 #[.pointer (some ⟨pt, 0, none⟩), .int .i64 (v : Int), .int .i64 (row.getD x 0 : Int)] wr fun r w' => r = .returned (.bool ((ta.getD v 0).testBit (row.getD x 0))) ∧ w' = wr) := fun wr x hb hx => by
    have h := belowO_any (HW.out wr hb).2.2.2.2.2.2.2 v (row.getD x 0) hv (lat_lt hlb _ (List.getElem_mem hv)) (by have := hrlt x hx; have := hlb.few; omega)
    rw [show ta[v] = ta.getD v 0 by simp [hv]] at h
    exact h
  have hfl40 : fa.length ≤ 40 := hla.few
  have hcr : rl ≤ cv := hcf
  have c0 : W.cell? ⟨Ob, 0, none⟩ = some (.pointer (some ⟨p, 0, none⟩)) := heap_cl hOW rfl
  have c1 : W.cell? ⟨p, 1, none⟩ = some (.pointer (some ⟨pf, 0, none⟩)) := (HW.out W hBW).2.1
  clear hab hrest q1 q2 q3 q4 q5 q6 p1 p2 hrlen hrlt hla hlb hBW hOW hOb hrow hrl hsg hs2 hps hcf
  go_enter Tryz.func42, Tryz.ntmps42
  go_upto_region 2 with fail
  rw [← hW, ← HBW.out.2.2]
  clear hW
  go_upto_region 3 with (first | (go_at_call 33; (with_reducible refine Calls.mono CS ?_); rintro e' w2 ⟨rfl, hw2⟩; subst hw2))
  clear c0 c1 CS
  go_loopw [7, 14] (fun rv iv wr => ∃ x : Nat, x ≤ fa.length ∧ iv = .int .i64 x ∧ Hid (Below w.heap.size w wr) ∧ Hid (wr.heap[Ob]? = some (.cells #[.pointer (some ⟨p, 0, none⟩)] 50 (0, 0))) ∧ ∃ ad cap, rv = .slice ad (edgeP fa ta row v x).length cap ∧ Hid (OwnN ENat 3 (w.heap.size + 1) (fun _ => False) wr (.slice ad (edgeP fa ta row v x).length cap) (edgeP fa ta row v x))) (fun _ iv _ => fa.length - (intOf iv).toNat)
  case atStart => exact ⟨0, by omega, by go_num, HBW.out.1, HOW.out, none, 0, rfl, OwnN.nil _ _ _ _ _⟩
  case round =>
    obtain ⟨x, hx, rfl, HB, HO0, ad, cap, rfl, HO⟩ := hrel
    by_cases hxl : x < fa.length
    · have i1 : (0 : Int) ≤ (x : Int) := by omega
      have i2 : (x : Int) < (fa.length : Int) := by omega
      have i3 : (0 : Int) ≤ (f : Int) := by omega
      have i4 : (f : Int) < (rl : Int) := by omega
      go_upto_region 5 with fail
      obtain ⟨w4, hw4⟩ : ∃ w4, w4 = wr.alloc (.cells #[.int .i64 (x : Int)] 3) := ⟨_, rfl⟩
      obtain ⟨Xb, hXb⟩ : ∃ Xb, Xb = wr.heap.size := ⟨_, rfl⟩
      have hX4 : w4.heap[Xb]? = some (.cells #[.int .i64 (x : Int)] 3 (0, 0)) := by rw [hw4, hXb]; exact new_blk _ _
      have hB4 : Below wr.heap.size wr w4.drew := by rw [hw4]; exact ((Below.refl _ _).alloc (Nat.le_refl _) _).drew
      rw [← hw4, ← hXb]
      have hwB : w.heap.size ≤ wr.heap.size := HB.out.size
      have HB4 : Hid (Below w.heap.size w w4.drew) := HB.out.trans (hB4.mono hwB)
      have HX4 : Hid (w4.drew.cell? ⟨Xb, 0, none⟩ = some (.int .i64 (x : Int))) := heap_cl hX4 rfl
      have hObl := lt_heap HO0.out
      have hwB1 : w.heap.size + 1 ≤ wr.heap.size := by have := HBW.out.2.2; omega
      have HO4b : Hid (w4.drew.heap[Ob]? = some (.cells #[.pointer (some ⟨p, 0, none⟩)] 50 (0, 0))) := (hB4.block Ob hObl).trans HO0.out
      have HO4 : Hid (OwnN ENat 3 (w.heap.size + 1) (fun _ => False) w4.drew (.slice ad (edgeP fa ta row v x).length cap) (edgeP fa ta row v x)) := HO.out.on (fun _ h => h.elim) hwB1 hB4
      have HS4 : Hid (w.heap.size + 1 ≤ w4.drew.heap.size) := Nat.le_trans hwB1 hB4.size
      obtain ⟨r0, r1, r2, r3, r4, r5, r6, r7⟩ := HW.out w4.drew HB4.out
      have CB := HBE.out w4.drew x HB4.out hxl
      have CC := contains_any (w := w4.drew) (Ob := Ob) (Xb := Xb) (p := p) (pf := pf) (x := x) ⟨heap_cl HO4b.out rfl, r1, HX4.out, _, r6⟩ HLA.out hxl (RowE.toNts (OwnN.rowE HO4.out)) (fun y hy => Nat.lt_trans (HEM.out x y hy) hxl) (by have := HEL.out x; omega)
      have r5x := r5 x hxl
      have HESx : Hid _ := HES.out x
      replace HESx : Hid (edgeP fa ta row v (x + 1) = if (ta.getD v 0).testBit (row.getD x 0) && !((edgeP fa ta row v x).any fun y => (fa.getD y 0).testBit x) then edgeP fa ta row v x ++ [x] else edgeP fa ta row v x) := HES.out x
      have HRX : Hid (row.getD x 0 < ta.length) := HRT.out x hxl
      have hS0 : (fun w' : World => w'.cell? ⟨Ob, 0, none⟩ = some (.pointer (some ⟨p, 0, none⟩)) ∧ w'.cell? ⟨p, 2, none⟩ = some (.pointer (some ⟨pt, 0, none⟩)) ∧ w'.cell? ⟨p, 3, none⟩ = some (.slice (some ⟨g, o, none⟩) rl cv) ∧ w'.cell? ⟨g, o + f, none⟩ = some (.slice (some ⟨g2, o2, none⟩) fa.length ci) ∧ w'.cell? ⟨Xb, 0, none⟩ = some (.int .i64 (x : Int)) ∧ w'.cell? ⟨g2, o2 + x, none⟩ = some (.int .i64 (row.getD x 0 : Int))) w4.drew := ⟨heap_cl HO4b.out rfl, r2, r3, r4, HX4.out, r5x⟩
      clear r0 r1 r2 r3 r4 r5 r6 r7 r5x hB4 hX4 hw4 hXb hwB hObl HB HO HO0
      generalize row.getD x 0 = rv at *
      generalize (ta.getD v 0).testBit rv = bv at *
      generalize (edgeP fa ta row v x).any (fun y => (fa.getD y 0).testBit x) = an at *
      have e41 : (0 : Int) ≤ (rv : Int) := by omega
      generalize hvv : Value.slice ad (edgeP fa ta row v x).length cap = vv at *
      refine wp_region_M (S := (fun w' : World => w'.cell? ⟨Ob, 0, none⟩ = some (.pointer (some ⟨p, 0, none⟩)) ∧ w'.cell? ⟨p, 2, none⟩ = some (.pointer (some ⟨pt, 0, none⟩)) ∧ w'.cell? ⟨p, 3, none⟩ = some (.slice (some ⟨g, o, none⟩) rl cv) ∧ w'.cell? ⟨g, o + f, none⟩ = some (.slice (some ⟨g2, o2, none⟩) fa.length ci) ∧ w'.cell? ⟨Xb, 0, none⟩ = some (.int .i64 (x : Int)) ∧ w'.cell? ⟨g2, o2 + x, none⟩ = some (.int .i64 (rv : Int)))) (L := 22) (n := 22) (by kernel_rfl) rfl (by kernel_rfl) ?_
      refine wpAnyK_go (i := 0) (m' := 1) (some 17) (v := .pointer (some ⟨p, 0, none⟩)) rfl rfl (by kernel_rfl) (by kernel_rfl) (by kernel_rfl) (by kernel_rfl) (by kernel_rfl) (fun _ _ _ h => h) (Or.inl ⟨by rfl, ?_⟩) hS0 ?_
      · intro w' hSw
        obtain ⟨s1, s2, s3, s4, s5, s6⟩ := hSw
        go_simp
      simp only [Act.put, List.setIfInBounds_toArray, List.set_cons_zero, List.set_cons_succ]
      refine wpAnyK_go (i := 1) (m' := 3) (some 18) (v := .pointer (some ⟨p, 0, none⟩)) rfl rfl (by kernel_rfl) (by kernel_rfl) (by kernel_rfl) (by kernel_rfl) (by kernel_rfl) (fun _ _ _ h => h) (Or.inl ⟨by rfl, ?_⟩) hS0 ?_
      · intro w' hSw
        go_simp
      simp only [Act.put, List.setIfInBounds_toArray, List.set_cons_zero, List.set_cons_succ]
      refine wpAnyK_go (i := 2) (m' := 7) (some 19) (v := .pointer (some ⟨p, 2, none⟩)) rfl rfl (by kernel_rfl) (by kernel_rfl) (by kernel_rfl) (by kernel_rfl) (by kernel_rfl) (fun _ _ _ h => h) (Or.inl ⟨by rfl, ?_⟩) hS0 ?_
      · intro w' hSw
        go_simp
      simp only [Act.put, List.setIfInBounds_toArray, List.set_cons_zero, List.set_cons_succ]
      refine wpAnyK_go (i := 3) (m' := 15) (some 20) (v := .pointer (some ⟨pt, 0, none⟩)) rfl rfl (by kernel_rfl) (by kernel_rfl) (by kernel_rfl) (by kernel_rfl) (by kernel_rfl) (fun _ _ _ h => h) (Or.inl ⟨by rfl, ?_⟩) hS0 ?_
      · intro w' hSw
        obtain ⟨s1, s2, s3, s4, s5, s6⟩ := hSw
        go_simp
      simp only [Act.put, List.setIfInBounds_toArray, List.set_cons_zero, List.set_cons_succ]
      refine wpAnyK_go (i := 4) (m' := 31) (some 21) (v := .int .i64 (v : Int)) rfl rfl (by kernel_rfl) (by kernel_rfl) (by kernel_rfl) (by kernel_rfl) (by kernel_rfl) (fun _ _ _ h => h) (Or.inl ⟨by rfl, ?_⟩) hS0 ?_
      · intro w' hSw
        go_simp
      simp only [Act.put, List.setIfInBounds_toArray, List.set_cons_zero, List.set_cons_succ]
      refine wpAnyK_go (i := 5) (m' := 63) (some 22) (v := .pointer (some ⟨p, 0, none⟩)) rfl rfl (by kernel_rfl) (by kernel_rfl) (by kernel_rfl) (by kernel_rfl) (by kernel_rfl) (fun _ _ _ h => h) (Or.inl ⟨by rfl, ?_⟩) hS0 ?_
      · intro w' hSw
        obtain ⟨s1, s2, s3, s4, s5, s6⟩ := hSw
        go_simp
      simp only [Act.put, List.setIfInBounds_toArray, List.set_cons_zero, List.set_cons_succ]
      refine wpAnyK_go (i := 6) (m' := 127) (some 23) (v := .pointer (some ⟨p, 0, none⟩)) rfl rfl (by kernel_rfl) (by kernel_rfl) (by kernel_rfl) (by kernel_rfl) (by kernel_rfl) (fun _ _ _ h => h) (Or.inl ⟨by rfl, ?_⟩) hS0 ?_
      · intro w' hSw
        go_simp
      simp only [Act.put, List.setIfInBounds_toArray, List.set_cons_zero, List.set_cons_succ]
      refine wpAnyK_go (i := 7) (m' := 255) (some 24) (v := .pointer (some ⟨p, 3, none⟩)) rfl rfl (by kernel_rfl) (by kernel_rfl) (by kernel_rfl) (by kernel_rfl) (by kernel_rfl) (fun _ _ _ h => h) (Or.inl ⟨by rfl, ?_⟩) hS0 ?_
      · intro w' hSw
        go_simp
      simp only [Act.put, List.setIfInBounds_toArray, List.set_cons_zero, List.set_cons_succ]
      refine wpAnyK_go (i := 8) (m' := 511) (some 25) (v := .slice (some ⟨g, o, none⟩) rl cv) rfl rfl (by kernel_rfl) (by kernel_rfl) (by kernel_rfl) (by kernel_rfl) (by kernel_rfl) (fun _ _ _ h => h) (Or.inl ⟨by rfl, ?_⟩) hS0 ?_
      · intro w' hSw
        obtain ⟨s1, s2, s3, s4, s5, s6⟩ := hSw
        go_simp
      simp only [Act.put, List.setIfInBounds_toArray, List.set_cons_zero, List.set_cons_succ]
      refine wpAnyK_go (i := 9) (m' := 1023) (some 26) (v := .int .i64 (f : Int)) rfl rfl (by kernel_rfl) (by kernel_rfl) (by kernel_rfl) (by kernel_rfl) (by kernel_rfl) (fun _ _ _ h => h) (Or.inl ⟨by rfl, ?_⟩) hS0 ?_
      · intro w' hSw
        go_simp
      simp only [Act.put, List.setIfInBounds_toArray, List.set_cons_zero, List.set_cons_succ]
      refine wpAnyK_go (i := 10) (m' := 2047) (some 27) (v := .pointer (some ⟨g, o + f, none⟩)) rfl rfl (by kernel_rfl) (by kernel_rfl) (by kernel_rfl) (by kernel_rfl) (by kernel_rfl) (fun _ _ _ h => h) (Or.inl ⟨by rfl, ?_⟩) hS0 ?_
      · intro w' hSw
        go_simp
      simp only [Act.put, List.setIfInBounds_toArray, List.set_cons_zero, List.set_cons_succ]
      refine wpAnyK_go (i := 11) (m' := 4095) (some 28) (v := .slice (some ⟨g2, o2, none⟩) fa.length ci) rfl rfl (by kernel_rfl) (by kernel_rfl) (by kernel_rfl) (by kernel_rfl) (by kernel_rfl) (fun _ _ _ h => h) (Or.inl ⟨by rfl, ?_⟩) hS0 ?_
      · intro w' hSw
        obtain ⟨s1, s2, s3, s4, s5, s6⟩ := hSw
        go_simp
      simp only [Act.put, List.setIfInBounds_toArray, List.set_cons_zero, List.set_cons_succ]
      refine wpAnyK_go (i := 12) (m' := 8191) (some 29) (v := .int .i64 (x : Int)) rfl rfl (by kernel_rfl) (by kernel_rfl) (by kernel_rfl) (by kernel_rfl) (by kernel_rfl) (fun _ _ _ h => h) (Or.inl ⟨by rfl, ?_⟩) hS0 ?_
      · intro w' hSw
        obtain ⟨s1, s2, s3, s4, s5, s6⟩ := hSw
        go_simp
      simp only [Act.put, List.setIfInBounds_toArray, List.set_cons_zero, List.set_cons_succ]
      refine wpAnyK_go (i := 13) (m' := 16383) (some 30) (v := .pointer (some ⟨g2, o2 + x, none⟩)) rfl rfl (by kernel_rfl) (by kernel_rfl) (by kernel_rfl) (by kernel_rfl) (by kernel_rfl) (fun _ _ _ h => h) (Or.inl ⟨by rfl, ?_⟩) hS0 ?_
      · intro w' hSw
        go_simp
      simp only [Act.put, List.setIfInBounds_toArray, List.set_cons_zero, List.set_cons_succ]
      refine wpAnyK_go (i := 14) (m' := 32767) (some 31) (v := .int .i64 (rv : Int)) rfl rfl (by kernel_rfl) (by kernel_rfl) (by kernel_rfl) (by kernel_rfl) (by kernel_rfl) (fun _ _ _ h => h) (Or.inl ⟨by rfl, ?_⟩) hS0 ?_
      · intro w' hSw
        obtain ⟨s1, s2, s3, s4, s5, s6⟩ := hSw
        go_simp
      simp only [Act.put, List.setIfInBounds_toArray, List.set_cons_zero, List.set_cons_succ]
      refine wpAnyK_only (i := 15) (m' := 65535) (by kernel_rfl) rfl (by kernel_rfl) fun K hK => ?_
      go_simp
      (with_reducible refine Calls.mono CB ?_)
      rintro e' w8 ⟨rfl, hw8⟩
      obtain rfl := hw8.symm
      clear hw8
      go_simp
      refine hK.out _ _ (fun _ => hS0) ?_
      clear hK K CB
      cases bv with
      | true =>
        refine wpAnyK_go (i := 16) (m' := 131071) (some 33) (v := .bool true) rfl rfl (by kernel_rfl) (by kernel_rfl) (by kernel_rfl) (by kernel_rfl) (by kernel_rfl) (fun _ _ _ h => h) (Or.inl ⟨by rfl, ?_⟩) hS0 ?_
        · intro w' hSw
          go_simp
        simp only [Act.put, List.setIfInBounds_toArray, List.set_cons_zero, List.set_cons_succ]
        refine wpAnyK_go (i := 17) (m' := 262143) (some 34) (v := vv) rfl rfl (by kernel_rfl) (by kernel_rfl) (by kernel_rfl) (by kernel_rfl) (by kernel_rfl) (fun _ _ _ h => h) (Or.inl ⟨by rfl, ?_⟩) hS0 ?_
        · intro w' hSw
          go_simp
        simp only [Act.put, List.setIfInBounds_toArray, List.set_cons_zero, List.set_cons_succ]
        refine wpAnyK_go (i := 18) (m' := 524287) (some 35) (v := .func (.func 53) #[] #[.pointer (some ⟨Ob, 0, none⟩), .pointer (some ⟨Xb, 0, none⟩)]) rfl rfl (by kernel_rfl) (by kernel_rfl) (by kernel_rfl) (by kernel_rfl) (by kernel_rfl) (fun _ _ _ h => h) (Or.inl ⟨by rfl, ?_⟩) hS0 ?_
        · intro w' hSw
          go_simp
        simp only [Act.put, List.setIfInBounds_toArray, List.set_cons_zero, List.set_cons_succ]
        refine wpAnyK_only (i := 19) (m' := 1048575) (by kernel_rfl) rfl (by kernel_rfl) fun K hK => ?_
        go_simp
        (with_reducible refine Calls.mono CC ?_)
        rintro e' w9 ⟨rfl, q9, hw9⟩
        have hS9 : (fun w' : World => w'.cell? ⟨Ob, 0, none⟩ = some (.pointer (some ⟨p, 0, none⟩)) ∧ w'.cell? ⟨p, 2, none⟩ = some (.pointer (some ⟨pt, 0, none⟩)) ∧ w'.cell? ⟨p, 3, none⟩ = some (.slice (some ⟨g, o, none⟩) rl cv) ∧ w'.cell? ⟨g, o + f, none⟩ = some (.slice (some ⟨g2, o2, none⟩) fa.length ci) ∧ w'.cell? ⟨Xb, 0, none⟩ = some (.int .i64 (x : Int)) ∧ w'.cell? ⟨g2, o2 + x, none⟩ = some (.int .i64 (rv : Int))) w9 := by rw [hw9]; exact hS0
        have hB9 : Below w4.drew.heap.size w4.drew w9 := by rw [hw9]; exact below_drewN (Below.refl _ _) _
        have HX9 : Hid (w9.cell? ⟨Xb, 0, none⟩ = some (.int .i64 (x : Int))) := hS9.2.2.2.2.1
        have HO9b : Hid (w9.heap[Ob]? = some (.cells #[.pointer (some ⟨p, 0, none⟩)] 50 (0, 0))) := by rw [hw9]; exact HO4b.out
        have HO9 : Hid (OwnN ENat 3 (w.heap.size + 1) (fun _ => False) w9 vv (edgeP fa ta row v x)) := HO4.out.on (fun _ h => h.elim) HS4.out hB9
        have HB9 : Hid (Below w.heap.size w w9) := HB4.out.trans (hB9.mono HB4.out.size)
        have HS9 : Hid (w.heap.size + 1 ≤ w9.heap.size) := Nat.le_trans HS4.out hB9.size
        clear hw9 hB9
        go_simp
        refine hK.out _ _ (fun _ => hS9) ?_
        clear hK K CC hS0
        refine wpAnyK_go (i := 20) (m' := 2097151) (some 37) (v := .bool (!an)) rfl rfl (by kernel_rfl) (by kernel_rfl) (by kernel_rfl) (by kernel_rfl) (by kernel_rfl) (fun _ _ _ h => h) (Or.inl ⟨by rfl, ?_⟩) hS9 ?_
        · intro w' hSw
          go_simp
        simp only [Act.put, List.setIfInBounds_toArray, List.set_cons_zero, List.set_cons_succ]
        refine wpAnyK_go (i := 21) (m' := 4194303) (some 38) (v := .bool (!an)) rfl rfl (by kernel_rfl) (by kernel_rfl) (by kernel_rfl) (by kernel_rfl) (by kernel_rfl) (fun _ _ _ h => h) (Or.inl ⟨by rfl, ?_⟩) hS9 ?_
        · intro w' hSw
          go_simp
        simp only [Act.put, List.setIfInBounds_toArray, List.set_cons_zero, List.set_cons_succ]
        refine wpAnyK_done (by kernel_rfl) ?_ _
        clear hS9
        subst hvv
        cases an with
        | false =>
          have HE1 : Hid (edgeP fa ta row v (x + 1) = edgeP fa ta row v x ++ [x]) := HESx.out
          clear HESx
          go_upto_region 6 with fail
          have HLN : Hid ((edgeP fa ta row v x).length + 1 ≤ 10000000) := by
            show _ ≤ _
            have := HEL.out x
            omega
          have y5 : w9.cell? ⟨Xb, 0, none⟩ = some (.int .i64 (x : Int)) := HX9.out
          go_wp2_with (at_builtin; refine wpList_append_N1 (E := ENat) (cs := [.int .i64 (x : Int)]) (p := x) Tryz.ty28 rfl _ _ rfl rfl HO9.out (fun _ h => h.elim) HS9.out (Below.refl _ _) rfl rfl (Nat.le_refl _) HLN.out ?_; intro v5 w5 O5 B5 N5; obtain ⟨a5, c5, rfl⟩ := O5.len; have HO5 : Hid (OwnN ENat 3 (w.heap.size + 1) (fun _ => False) w5 (.slice a5 (edgeP fa ta row v x ++ [x]).length c5) (edgeP fa ta row v x ++ [x])) := O5; have HB5 : Hid (Below w.heap.size w w5) := HB9.out.trans (B5.mono (Nat.le_succ _)); have HOB5 : Hid (w5.heap[Ob]? = some (.cells #[.pointer (some ⟨p, 0, none⟩)] 50 (0, 0))) := (B5.block Ob (by have := HBW.out.2.2; omega)).trans HO9b.out; clear O5 B5 N5)
          go_roundw
          case rel => exact ⟨x + 1, hxl, by go_num, HB5.out, HOB5.out, a5, c5, by rw [HE1.out, List.length_append]; rfl, by rw [HE1.out]; exact HO5.out⟩
          case measure => simp [intOf]; omega
        | true =>
          have HE1 : Hid (edgeP fa ta row v (x + 1) = edgeP fa ta row v x) := HESx.out
          clear HESx
          go_wp2
          go_roundw
          case rel => exact ⟨x + 1, hxl, by go_num, HB9.out, HO9b.out, _, _, by rw [HE1.out], by rw [HE1.out]; exact HO9.out⟩
          case measure => simp [intOf]; omega
      | false =>
        clear CC
        refine wpAnyK_go (i := 16) (m' := 131071) (some 33) (v := .bool false) rfl rfl (by kernel_rfl) (by kernel_rfl) (by kernel_rfl) (by kernel_rfl) (by kernel_rfl) (fun _ _ _ h => h) (Or.inl ⟨by rfl, ?_⟩) hS0 ?_
        · intro w' hSw
          go_simp
        simp only [Act.put, List.setIfInBounds_toArray, List.set_cons_zero, List.set_cons_succ]
        refine wpAnyK_go (i := 17) (m' := 262143) (some 34) (v := undef) rfl rfl (by kernel_rfl) (by kernel_rfl) (by kernel_rfl) (by kernel_rfl) (by kernel_rfl) (fun _ _ _ h => h) (Or.inr ⟨by rfl, rfl⟩) hS0 ?_
        simp only [Act.put, List.setIfInBounds_toArray, List.set_cons_zero, List.set_cons_succ]
        refine wpAnyK_go (i := 18) (m' := 524287) (some 35) (v := undef) rfl rfl (by kernel_rfl) (by kernel_rfl) (by kernel_rfl) (by kernel_rfl) (by kernel_rfl) (fun _ _ _ h => h) (Or.inr ⟨by rfl, rfl⟩) hS0 ?_
        simp only [Act.put, List.setIfInBounds_toArray, List.set_cons_zero, List.set_cons_succ]
        refine wpAnyK_go (i := 19) (m' := 1048575) (some 36) (v := undef) rfl rfl (by kernel_rfl) (by kernel_rfl) (by kernel_rfl) (by kernel_rfl) (by kernel_rfl) (fun _ _ _ h => h) (Or.inr ⟨by rfl, rfl⟩) hS0 ?_
        simp only [Act.put, List.setIfInBounds_toArray, List.set_cons_zero, List.set_cons_succ]
        refine wpAnyK_go (i := 20) (m' := 2097151) (some 37) (v := undef) rfl rfl (by kernel_rfl) (by kernel_rfl) (by kernel_rfl) (by kernel_rfl) (by kernel_rfl) (fun _ _ _ h => h) (Or.inr ⟨by rfl, rfl⟩) hS0 ?_
        simp only [Act.put, List.setIfInBounds_toArray, List.set_cons_zero, List.set_cons_succ]
        refine wpAnyK_go (i := 21) (m' := 4194303) (some 38) (v := .bool false) rfl rfl (by kernel_rfl) (by kernel_rfl) (by kernel_rfl) (by kernel_rfl) (by kernel_rfl) (fun _ _ _ h => h) (Or.inl ⟨by rfl, ?_⟩) hS0 ?_
        · intro w' hSw
          go_simp
        simp only [Act.put, List.setIfInBounds_toArray, List.set_cons_zero, List.set_cons_succ]
        refine wpAnyK_done (by kernel_rfl) ?_ _
        clear hS0
        subst hvv
        have HE1 : Hid (edgeP fa ta row v (x + 1) = edgeP fa ta row v x) := HESx.out
        clear HESx
        go_wp2
        go_roundw
        case rel => exact ⟨x + 1, hxl, by go_num, HB4.out, HO4b.out, _, _, by rw [HE1.out], by rw [HE1.out]; exact HO4.out⟩
        case measure => simp [intOf]; omega
    · obtain rfl : x = fa.length := by omega
      go_wp2
      go_ret
      exact ⟨_, _, rfl, HB.out, HO.out⟩
end Go.Proofs.YtgdflaapgfpdeaaGreatDoor

namespace Go.Proofs.YtgdflaapgfpdeaaGreatDoor
open Go.RowKit

theorem OwnN.less {α : Type} {E : Elt α} {e B B' : Nat} {w : World} {v : Value} {l : List α} (h : OwnN E e B (fun _ => False) w v l) (hB : B' ≤ B) : OwnN E e B' (fun _ => False) w v l := Own.up (Own.below h hB) (fun _ hy => hy.imp id fun q => ⟨Nat.le_trans hB q.1, q.2⟩) (fun _ hy e => hy.elim id fun q => q.2.2 e)
def edgeD (od : Option OrdD) (f v : Int) : List Nat × Int := match od with
  | none => ([], 140)
  | some D => match D.2 with
    | none => ([], 140)
    | some p => if 0 ≤ f ∧ f < (D.1.length : Int) ∧ 0 ≤ v ∧ v < (p.2.length : Int) then (edgeP p.1 p.2 ((resP p.1 p.2).getD f.toNat []) v.toNat p.1.length, 0) else ([], 141)
def EdPost (a : List Nat × Int) (w : World) (r : Ending) (w' : World) : Prop := ∃ ad cap, r = .returned (.tuple #[.slice ad a.1.length cap, .int .i64 a.2]) ∧ Hid (Below w.heap.size w w') ∧ Hid (OwnN ENat 3 w.heap.size (fun _ => False) w' (.slice ad a.1.length cap) a.1)
theorem EdPost.no {w w' : World} {e : Int} (h : Below w.heap.size w w') : EdPost ([], e) w (.returned (.tuple #[.slice none 0 0, .int .i64 e])) w' := ⟨none, 0, rfl, h, OwnN.nil _ _ _ _ _⟩
set_option maxHeartbeats 16000000 in
set_option maxRecDepth 10000 in
theorem edge_all (d : Nat) (x : Value) (t : Tn (d + 1)) (w : World) (hx : TyAt w w.heap.size (d + 1) x t) (hN : (flat (d + 1) t).length ≤ 4194304) (f v : Int) :
    Calls Tryz.prog 31 #[x, .int .i64 f, .int .i64 v] w fun r w' => EdPost (edgeD (funD d t) f v) w r w' := by
  have HX : Hid (TyAt w w.heap.size (d + 1) x t) := hx
  obtain ⟨u, rfl, hn1, hn2, hrow⟩ := hx
  obtain ⟨ad, cap, rfl⟩ := hrow.len
  obtain ⟨X, hX⟩ : ∃ X, X = w.heap.size := ⟨_, rfl⟩
  obtain ⟨W, hW⟩ : ∃ W, W = w.alloc (.cells #[.int .i64 t.1.1, .string ⟨t.1.2.toArray⟩, .slice ad t.2.length cap] 24) := ⟨_, rfl⟩
  have hBW : Below w.heap.size w W := by rw [hW]; exact (Below.refl _ _).alloc (Nat.le_refl _) _
  have hXW : W.heap[X]? = some (.cells #[.int .i64 t.1.1, .string ⟨t.1.2.toArray⟩, .slice ad t.2.length cap] 24 (0, 0)) := by rw [hW, hX]; exact new_blk _ _
  have CO := functionsOf_any d (.agg #[.int .i64 t.1.1, .string ⟨t.1.2.toArray⟩, .slice ad t.2.length cap]) t W (TyAt.below hBW hBW.size _ _ _ HX.out) hN
  have c0 : W.cell? ⟨X, 0, none⟩ = some (.int .i64 t.1.1) := heap_cl hXW rfl
  have c1 : W.cell? ⟨X, 1, none⟩ = some (.string ⟨t.1.2.toArray⟩) := heap_cl hXW rfl
  have c2 : W.cell? ⟨X, 2, none⟩ = some (.slice ad t.2.length cap) := heap_cl hXW rfl
  have HXE : Hid (X = w.heap.size) := hX
  have HBW : Hid (Below w.heap.size w W) := hBW
  clear hn1 hn2 hrow hX hBW hXW hN HX
  generalize funD d t = od at *
  generalize t.1.1 = k at *
  generalize t.1.2 = n at *
  generalize t.2.length = m at *
  clear t
  go_enter Tryz.func31, Tryz.ntmps31
  go_upto_region 1 with fail
  rw [← hW, ← HXE.out]
  clear hW
  go_upto_region 2 with (first | (go_at_call 27; (with_reducible refine Calls.mono CO ?_); rintro e' w2 ⟨HB2, hP2⟩; obtain ⟨vp, ve, rfl, HP2⟩ : ∃ vp ve, e' = .returned (.tuple #[vp, ve]) ∧ Hid ((od = none ∧ vp = .pointer none ∧ ve = .int .i64 140) ∨ ∃ fa ta p, od = some (fnsP ta (resP fa ta), some (fa, ta)) ∧ Lat fa ∧ Lat ta ∧ (resP fa ta).length ≤ 40 ∧ vp = .pointer (some ⟨p, 0, none⟩) ∧ ve = .int .i64 0 ∧ OrP w2 (fun y => y < w2.heap.size) p (fnsP ta (resP fa ta), some (fa, ta))) := (by
        rcases hP2 with ⟨h1, h2⟩ | ⟨fa, ta, p, h1, h2, h3, h4, h5, h6⟩
        · exact ⟨_, _, h2, .inl ⟨h1, rfl, rfl⟩⟩
        · exact ⟨_, _, h5, .inr ⟨fa, ta, p, h1, h2, h3, h4, rfl, rfl, h6.out⟩⟩); clear hP2))
  have HBB : Hid (Below w.heap.size w w2) := HBW.out.trans (HB2.out.mono HBW.out.size)
  clear c0 c1 c2 CO HB2
  rcases HP2.out with ⟨rfl, rfl, rfl⟩ | ⟨fa, ta, p, rfl, hla, hlb, hfew, rfl, rfl, hor⟩
  · clear HP2
    go_wp2
    refine bodyPost_ret (v := .tuple #[.slice none 0 0, .int .i64 140]) (by simp [results, Tryz.results31, go_sem]) rfl ?_
    exact EdPost.no HBB.out
  · obtain ⟨hab, hrest⟩ := hor
    obtain ⟨pf, pt, rv, q1, q2, q3, q4, q5, q6⟩ := hrest fa ta rfl
    have HOR : Hid (OrP w2 (fun y => y < w2.heap.size) p (fnsP ta (resP fa ta), some (fa, ta))) := ⟨hab, hrest⟩
    have CF := hasO_any hab f
    have CX := hasO_any q5 v
    have HDE : Hid (edgeD (some (fnsP ta (resP fa ta), some (fa, ta))) f v = if 0 ≤ f ∧ f < ((fnsP ta (resP fa ta)).length : Int) ∧ 0 ≤ v ∧ v < (ta.length : Int) then (edgeP fa ta ((resP fa ta).getD f.toNat []) v.toNat fa.length, 0) else ([], 141)) := rfl
    rw [fns_len] at HDE
    rw [show (fnsP ta (resP fa ta), some (fa, ta)).1.length = (resP fa ta).length from fns_len _ _] at CF
    have HLA : Hid (Lat fa) := hla
    have HLB : Hid (Lat ta) := hlb
    have HWS : Hid (w.heap.size ≤ w2.heap.size) := HBB.out.size
    clear HP2 hrest hab q1 q3 q4 q5 q6 hla hlb hfew
    by_cases hf : 0 ≤ f ∧ f < ((resP fa ta).length : Int)
    · rw [decide_eq_true hf] at CF
      by_cases hy : 0 ≤ v ∧ v < (ta.length : Int)
      · rw [decide_eq_true hy] at CX
        rw [if_pos ⟨hf.1, hf.2, hy.1, hy.2⟩] at HDE
        obtain ⟨fn, rfl⟩ : ∃ fn : Nat, f = fn := ⟨f.toNat, by omega⟩
        obtain ⟨vn, rfl⟩ : ∃ vn : Nat, v = vn := ⟨v.toNat, by omega⟩
        rw [Int.toNat_natCast, Int.toNat_natCast] at HDE
        have CE := edge_any HOR.out HLA.out HLB.out fn vn (by omega) (by omega)
        clear hf hy HOR
        generalize edgeP fa ta ((resP fa ta).getD fn []) vn fa.length = el at *
        go_wp2_with (first | (go_at_call 35; (with_reducible refine Calls.mono CF ?_); rintro e' w3 ⟨rfl, hw3⟩; obtain rfl := hw3.symm; clear hw3) | (go_at_call 35; (with_reducible refine Calls.mono CX ?_); rintro e' w4 ⟨rfl, hw4⟩; obtain rfl := hw4.symm; clear hw4) | (go_at_call 42; (with_reducible refine Calls.mono CE ?_); rintro e' w5 ⟨ad5, cap5, rfl, HB5, HO5⟩))
        refine bodyPost_ret (v := .tuple #[.slice ad5 el.length cap5, .int .i64 0]) (by simp [results, Tryz.results31, go_sem]) rfl ?_
        rw [HDE.out]
        exact ⟨_, _, rfl, HBB.out.trans (HB5.out.mono HBB.out.size), HO5.out.less (by have := HWS.out; omega)⟩
      · rw [decide_eq_false hy] at CX
        rw [if_neg (fun q => hy q.2.2)] at HDE
        clear hf hy HOR
        go_wp2_with (first | (go_at_call 35; (with_reducible refine Calls.mono CF ?_); rintro e' w3 ⟨rfl, hw3⟩; obtain rfl := hw3.symm; clear hw3) | (go_at_call 35; (with_reducible refine Calls.mono CX ?_); rintro e' w4 ⟨rfl, hw4⟩; obtain rfl := hw4.symm; clear hw4))
        refine bodyPost_ret (v := .tuple #[.slice none 0 0, .int .i64 141]) (by simp [results, Tryz.results31, go_sem]) rfl ?_
        rw [HDE.out]
        exact EdPost.no HBB.out
    · rw [decide_eq_false hf] at CF
      rw [if_neg (fun q => hf ⟨q.1, q.2.1⟩)] at HDE
      clear hf CX HOR
      go_wp2_with (first | (go_at_call 35; (with_reducible refine Calls.mono CF ?_); rintro e' w3 ⟨rfl, hw3⟩; obtain rfl := hw3.symm; clear hw3))
      refine bodyPost_ret (v := .tuple #[.slice none 0 0, .int .i64 141]) (by simp [results, Tryz.results31, go_sem]) rfl ?_
      rw [HDE.out]
      exact EdPost.no HBB.out
end Go.Proofs.YtgdflaapgfpdeaaGreatDoor
