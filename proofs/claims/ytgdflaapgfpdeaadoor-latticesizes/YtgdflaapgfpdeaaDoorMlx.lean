/- of, ofFunction: the number of a type's order. ofFunction: the number of a function type's order. -/
import Derived.Test.YtgdflaapgfpdeaaDoorLr
namespace Go.Proofs.YtgdflaapgfpdeaaDoor
open Go.RowKit

/-- A type's order. -/
def ordD : (d : Nat) → Tn d → Option OrdD
  | 0, _ => none
  | d + 1, t => if t.1.1 = 3 then (match t.2 with
      | a :: b :: _ => (ordD d a).bind fun x => (ordD d b).bind fun y => fnD x.1 y.1
      | _ => none)
    else if t.1.1 = 4 ∧ t.1.2 = [76, 105, 115, 116] then (if t.2.length = 1 then some (chainP 4, none) else none) else some (chainP 2, none)
/-- Functions have two sides. -/
def GndT : (d : Nat) → Tn d → Prop
  | 0, _ => False
  | d + 1, t => t.1.1 = 3 → ∃ a b, t.2 = [a, b] ∧ GndT d a ∧ GndT d b
def OfPost (B0 K mb B : Nat) (v : Value) (T : Tbl) (n : Nat) (od : Option OrdD) (w : World) (r : Ending) (w' : World) : Prop :=
  ∃ (idx : Nat) (ok : Bool) (v' : Value) (R : Tbl), r = .returned (.tuple #[.int .i64 (idx : Int), .bool ok]) ∧ KW B0 K mb B v' (T ++ R) w' ∧ R.length ≤ n ∧ Kn K mb v v' w w' ∧ (ok = true → valD (T ++ R) idx = od ∧ od.isSome = true) ∧ (ok = false → od = none)
def OfC (f : Nat) (d : Nat) (t : Tn d) : Prop := ∀ (x : Value) (w : World) (B0 K mb B : Nat) (v : Value) (T : Tbl), TyAt w B0 d x t → KW B0 K mb B v T w → T.length + (flat d t).length ≤ 80000 → Calls Tryd.prog f #[.pointer (some ⟨K, 0, none⟩), x] w fun r w' => Hid (OfPost B0 K mb B v T (flat d t).length (ordD d t) w r w')
set_option maxHeartbeats 8000000 in
set_option maxRecDepth 10000 in
theorem of_step {d : Nat} {k : Int} {n : List UInt8} {ts : List (Tn d)} (hfn : k = 3 → OfC 30 (d + 1) ((k, n), ts)) : OfC 23 (d + 1) ((k, n), ts) := by
  intro x w B0 K mb B v T hx h hl
  have HX : Hid (TyAt w B0 (d + 1) x ((k, n), ts)) := hx
  obtain ⟨u, rfl, hn1, hn2, hrow⟩ := hx
  obtain ⟨ad, cap, rfl⟩ := hrow.len
  obtain ⟨W, hW⟩ : ∃ W, W = w.alloc (.cells #[.int .i64 k, .string ⟨n.toArray⟩, .slice ad ts.length cap] 24) := ⟨_, rfl⟩
  obtain ⟨X, hX⟩ : ∃ X, X = w.heap.size := ⟨_, rfl⟩
  have hBW : Below w.heap.size w W := by rw [hW]; exact (Below.refl _ _).alloc (Nat.le_refl _) _
  have hXW : W.heap[X]? = some (.cells #[.int .i64 k, .string ⟨n.toArray⟩, .slice ad ts.length cap] 24 (0, 0)) := by rw [hW, hX]; exact new_blk _ _
  have c0 : W.cell? ⟨X, 0, none⟩ = some (.int .i64 k) := heap_cl hXW rfl
  have c1 : W.cell? ⟨X, 1, none⟩ = some (.string ⟨n.toArray⟩) := heap_cl hXW rfl
  have c2 : W.cell? ⟨X, 2, none⟩ = some (.slice ad ts.length cap) := heap_cl hXW rfl
  have HKW : Hid (KW B0 K mb B v T W) := h.on hBW
  have HB0 : Hid (Below B0 w W) := hBW.mono (by have := h.b0k; have := h.kb; have := h.bw; omega)
  have HKN : Hid (Kn K mb v v w W) := Kn.of hBW
  have HXE : Hid (X = w.heap.size) := hX
  have HL : Hid (T.length + (flat (d + 1) ((k, n), ts)).length ≤ 80000) := hl
  have HFN : Hid (k = 3 → OfC 30 (d + 1) ((k, n), ts)) := hfn
  have HF1 : Hid (1 ≤ (flat (d + 1) ((k, n), ts)).length) := by
    show 1 ≤ (_ :: _ : List _).length
    simp
  have HEX : Hid (∀ s : Sh, ShV T s → ShOk s → Calls Tryd.prog 31 #[.pointer (some ⟨K, 0, none⟩), shv s, .func (.func 32) #[.pointer (some ⟨K, 0, none⟩)] #[]] W fun r w' => ∃ (idx : Nat) (v' : Value) (R : Tbl), r = .returned (.int .i64 (idx : Int)) ∧ Hid (KW B0 K mb B v' (T ++ R) w') ∧ Hid (R.length ≤ 1 ∧ valD (T ++ R) idx = shD T s ∧ idx < (T ++ R).length) ∧ Hid (Kn K mb v v' W w')) := fun s hs ho => number_any HKW.out s hs ho (by omega)
  have HOD : Hid (ordD (d + 1) ((k, n), ts) = if k = 3 then (match ts with
      | a :: b :: _ => (ordD d a).bind fun x => (ordD d b).bind fun y => fnD x.1 y.1
      | _ => none)
    else if k = 4 ∧ n = [76, 105, 115, 116] then (if ts.length = 1 then some (chainP 4, none) else none) else some (chainP 2, none)) := rfl
  clear hn1 hn2 hrow h hl hX hXW hBW hfn
  by_cases hk3 : k = 3
  · have CF := HFN.out hk3 (.agg #[.int .i64 k, .string ⟨n.toArray⟩, .slice ad ts.length cap]) W B0 K mb B v T (HX.out.on HB0.out) HKW.out HL.out
    have e3 : (k == 3) = true := by simp [hk3]
    generalize ordD (d + 1) ((k, n), ts) = od at *
    generalize (flat (d + 1) ((k, n), ts)).length = fl at *
    clear hk3 HEX
    go_enter Tryd.func23, Tryd.ntmps23
    go_upto_region 1 with fail
    rw [← hW, ← HXE.out]
    clear hW
    go_wp2_with (first | (go_at_call 30; (with_reducible refine Calls.mono CF ?_); rintro e' w2 ⟨idx, ok, v', R, rfl, q1, q2, q3, q4, q5⟩))
    have HE : Hid (OfPost B0 K mb B v T fl od w (.returned (.tuple #[.int .i64 (idx : Int), .bool ok])) w2) := ⟨idx, ok, v', R, rfl, q1, q2, HKN.out.trans q3, q4, q5⟩
    clear q1 q2 q3 q4 q5 CF
    refine bodyPost_ret (v := .tuple #[.int .i64 (idx : Int), .bool ok]) (by simp [results, Tryd.results23, go_sem]) rfl ?_
    exact HE.out
  · have e3 : (k == 3) = false := by simp [hk3]
    rw [if_neg hk3] at HOD
    have C2 : Calls Tryd.prog 31 #[.pointer (some ⟨K, 0, none⟩), .agg #[.int .i64 2, .int .i64 0, .int .i64 0], .func (.func 32) #[.pointer (some ⟨K, 0, none⟩)] #[]] W fun r w' => ∃ (idx : Nat) (v' : Value) (R : Tbl), r = .returned (.int .i64 (idx : Int)) ∧ Hid (KW B0 K mb B v' (T ++ R) w') ∧ Hid (R.length ≤ 1 ∧ valD (T ++ R) idx = some (chainP 2, none) ∧ idx < (T ++ R).length) ∧ Hid (Kn K mb v v' W w') := HEX.out (2, 0, 0) (.inl ⟨.inl rfl, rfl⟩) ⟨by decide, by decide, by decide⟩
    have C4 : Calls Tryd.prog 31 #[.pointer (some ⟨K, 0, none⟩), .agg #[.int .i64 4, .int .i64 0, .int .i64 0], .func (.func 32) #[.pointer (some ⟨K, 0, none⟩)] #[]] W fun r w' => ∃ (idx : Nat) (v' : Value) (R : Tbl), r = .returned (.int .i64 (idx : Int)) ∧ Hid (KW B0 K mb B v' (T ++ R) w') ∧ Hid (R.length ≤ 1 ∧ valD (T ++ R) idx = some (chainP 4, none) ∧ idx < (T ++ R).length) ∧ Hid (Kn K mb v v' W w') := HEX.out (4, 0, 0) (.inl ⟨.inr rfl, rfl⟩) ⟨by decide, by decide, by decide⟩
    generalize ordD (d + 1) ((k, n), ts) = od at *
    generalize (flat (d + 1) ((k, n), ts)).length = fl at *
    clear HEX hk3 HFN HX
    by_cases hk4 : k = 4
    · have e4 : (k != 4) = false := by simp [hk4]
      by_cases hnm : n = [76, 105, 115, 116]
      · rw [if_pos ⟨hk4, hnm⟩] at HOD
        by_cases hl1 : ts.length = 1
        · rw [if_pos hl1] at HOD
          subst hnm
          have i1 : ((ts.length : Int) == 1) = true := by simp [hl1]
          clear hk4 hl1 C2
          go_enter Tryd.func23, Tryd.ntmps23
          go_upto_region 1 with fail
          rw [← hW, ← HXE.out]
          clear hW
          go_wp2_with (first | (go_at_call 31; (with_reducible refine Calls.mono C4 ?_); rintro e' w2 ⟨idx, v', R, rfl, q1, q2, q3⟩))
          have HE : Hid (OfPost B0 K mb B v T fl od w (.returned (.tuple #[.int .i64 (idx : Int), .bool true])) w2) := ⟨idx, true, v', R, rfl, q1.out, Nat.le_trans q2.out.1 HF1.out, HKN.out.trans q3.out, fun _ => by rw [HOD.out]; exact ⟨q2.out.2.1, rfl⟩, fun h => by cases h⟩
          clear q1 q2 q3 C4
          refine bodyPost_ret (v := .tuple #[.int .i64 (idx : Int), .bool true]) (by simp [results, Tryd.results23, go_sem]) rfl ?_
          exact HE.out
        · rw [if_neg hl1] at HOD
          subst hnm
          have i1 : ((ts.length : Int) == 1) = false := by simp; omega
          have HE : Hid (OfPost B0 K mb B v T fl od w (.returned (.tuple #[.int .i64 0, .bool false])) W) := ⟨0, false, v, [], rfl, by rw [List.append_nil]; exact HKW.out, by simp, HKN.out, (fun h => (by cases h)), fun _ => HOD.out⟩
          clear hk4 hl1 C2 C4
          go_enter Tryd.func23, Tryd.ntmps23
          go_upto_region 1 with fail
          rw [← hW, ← HXE.out]
          clear hW
          go_wp2
          refine bodyPost_ret (v := .tuple #[.int .i64 0, .bool false]) (by simp [results, Tryd.results23, go_sem]) rfl ?_
          exact HE.out
      · rw [if_neg (fun h => hnm h.2)] at HOD
        have i1 : (n == [76, 105, 115, 116]) = false := by simp [hnm]
        clear hk4 hnm C4
        go_enter Tryd.func23, Tryd.ntmps23
        go_upto_region 1 with fail
        rw [← hW, ← HXE.out]
        clear hW
        go_wp2_with (first | (go_at_call 31; (with_reducible refine Calls.mono C2 ?_); rintro e' w2 ⟨idx, v', R, rfl, q1, q2, q3⟩))
        have HE : Hid (OfPost B0 K mb B v T fl od w (.returned (.tuple #[.int .i64 (idx : Int), .bool true])) w2) := ⟨idx, true, v', R, rfl, q1.out, Nat.le_trans q2.out.1 HF1.out, HKN.out.trans q3.out, fun _ => by rw [HOD.out]; exact ⟨q2.out.2.1, rfl⟩, fun h => by cases h⟩
        clear q1 q2 q3 C2
        refine bodyPost_ret (v := .tuple #[.int .i64 (idx : Int), .bool true]) (by simp [results, Tryd.results23, go_sem]) rfl ?_
        exact HE.out
    · have e4 : (k != 4) = true := by simp [hk4]
      rw [if_neg (fun h => hk4 h.1)] at HOD
      clear hk4 C4
      go_enter Tryd.func23, Tryd.ntmps23
      go_upto_region 1 with fail
      rw [← hW, ← HXE.out]
      clear hW
      go_wp2_with (first | (go_at_call 31; (with_reducible refine Calls.mono C2 ?_); rintro e' w2 ⟨idx, v', R, rfl, q1, q2, q3⟩))
      have HE : Hid (OfPost B0 K mb B v T fl od w (.returned (.tuple #[.int .i64 (idx : Int), .bool true])) w2) := ⟨idx, true, v', R, rfl, q1.out, Nat.le_trans q2.out.1 HF1.out, HKN.out.trans q3.out, fun _ => by rw [HOD.out]; exact ⟨q2.out.2.1, rfl⟩, fun h => by cases h⟩
      clear q1 q2 q3 C2
      refine bodyPost_ret (v := .tuple #[.int .i64 (idx : Int), .bool true]) (by simp [results, Tryd.results23, go_sem]) rfl ?_
      exact HE.out
end Go.Proofs.YtgdflaapgfpdeaaDoor

namespace Go.Proofs.YtgdflaapgfpdeaaDoor
open Go.RowKit

theorem Kn.cells {K mb : Nat} {v v' : Value} {w w' : World} (h : Kn K mb v v' w w') {y : Nat} {o : Obj} (hy : w.heap[y]? = some o) (h1 : y ≠ K) (h2 : y ≠ mb) (h3 : v.ownBlock ≠ some y) : w'.heap[y]? = some o := (h.block y (lt_heap hy) h1 h2 h3).trans hy
set_option maxHeartbeats 16000000 in
set_option maxRecDepth 10000 in
theorem fn_step {d : Nat} {n : List UInt8} {a b : Tn d} (ha : OfC 23 d a) (hb : OfC 23 d b) : OfC 30 (d + 1) ((3, n), [a, b]) := by
  intro x w B0 K mb B v T hx h hl
  obtain ⟨u, rfl, hn1, hn2, hrow⟩ := hx
  obtain ⟨ad, cap, rfl, hc⟩ := RowP.cells hrow
  obtain ⟨g, o, rfl, hcap, hgB, hel⟩ := hc (by simp)
  obtain ⟨k0, n0, ad0, len0, cap0, hc0, ht0⟩ := hel 0 (by simp)
  obtain ⟨k1, n1, ad1, len1, cap1, hc1, ht1⟩ := hel 1 (by simp)
  replace ht0 : TyAt w B0 d (.agg #[.int .i64 k0, .string n0, .slice ad0 len0 cap0]) a := ht0
  replace ht1 : TyAt w B0 d (.agg #[.int .i64 k1, .string n1, .slice ad1 len1 cap1]) b := ht1
  obtain ⟨W, hW⟩ : ∃ W, W = w.alloc (.cells #[.int .i64 3, .string ⟨n.toArray⟩, .slice (some ⟨g, o, none⟩) 2 cap] 24) := ⟨_, rfl⟩
  obtain ⟨X, hX⟩ : ∃ X, X = w.heap.size := ⟨_, rfl⟩
  have hBW : Below w.heap.size w W := by rw [hW]; exact (Below.refl _ _).alloc (Nat.le_refl _) _
  have hXW : W.heap[X]? = some (.cells #[.int .i64 3, .string ⟨n.toArray⟩, .slice (some ⟨g, o, none⟩) 2 cap] 24 (0, 0)) := by rw [hW, hX]; exact new_blk _ _
  have hB0 : Below B0 w W := hBW.mono (by have := h.b0k; have := h.kb; have := h.bw; omega)
  have hkw := h.on hBW
  have hfl : (flat (d + 1) ((3, n), [a, b])).length = 1 + ((flat d a).length + (flat d b).length) := by
    rw [flat_succ, flats_cons, flats_cons, flats_nil]
    simp
    omega
  have hXne : X ≠ K ∧ X ≠ mb ∧ v.ownBlock ≠ some X := by
    have h1 := h.kb
    have h2 := h.mbb
    have h3 := h.bw
    exact ⟨by omega, by omega, fun e => by have := (h.own.lt X e).2; omega⟩
  have HOD : Hid (ordD (d + 1) ((3, n), [a, b]) = (ordD d a).bind fun x => (ordD d b).bind fun y => fnD x.1 y.1) := by
    show (if (3 : Int) = 3 then _ else _) = _
    rw [if_pos rfl]
  have CA := ha (.agg #[.int .i64 k0, .string n0, .slice ad0 len0 cap0]) W B0 K mb B v T (ht0.on hB0) hkw (by omega)
  have HB : Hid (∀ (w2 : World) (v2 : Value) (R : Tbl), KW B0 K mb B v2 (T ++ R) w2 → Kn K mb v v2 W w2 → R.length ≤ (flat d a).length → W.heap.size ≤ w2.heap.size ∧ w2.heap[X]? = some (.cells #[.int .i64 3, .string ⟨n.toArray⟩, .slice (some ⟨g, o, none⟩) 2 cap] 24 (0, 0)) ∧ (w2.cell? ⟨g, o + 3, none⟩ = some (.int .i64 k1) ∧ w2.cell? ⟨g, o + 4, none⟩ = some (.string n1) ∧ w2.cell? ⟨g, o + 5, none⟩ = some (.slice ad1 len1 cap1)) ∧ Calls Tryd.prog 23 #[.pointer (some ⟨K, 0, none⟩), .agg #[.int .i64 k1, .string n1, .slice ad1 len1 cap1]] w2 fun r w' => Hid (OfPost B0 K mb B v2 (T ++ R) (flat d b).length (ordD d b) w2 r w')) := fun w2 v2 R q1 q2 q3 => by
    have hb2 : Below B0 w w2 := hB0.trans (q2.below hkw)
    obtain ⟨e1, e2, e3⟩ := hc1 w2 hb2
    refine ⟨q2.size, q2.cells hXW hXne.1 hXne.2.1 hXne.2.2, ⟨by simpa using e1, by simpa using e2, by simpa using e3⟩, hb _ w2 B0 K mb B v2 (T ++ R) (ht1.on hb2) q1 (by rw [List.length_append]; omega)⟩
  have HN3 : Hid (∀ (w3 : World) (v3 : Value) (R2 : Tbl) (i1 i2 : Nat) (A C : OrdD), KW B0 K mb B v3 (T ++ R2) w3 → R2.length ≤ (flat d a).length + (flat d b).length → valD (T ++ R2) i1 = some A → valD (T ++ R2) i2 = some C → Calls Tryd.prog 31 #[.pointer (some ⟨K, 0, none⟩), .agg #[.int .i64 0, .int .i64 (i1 : Int), .int .i64 (i2 : Int)], .func (.func 32) #[.pointer (some ⟨K, 0, none⟩)] #[]] w3 fun r w' => ∃ (idx : Nat) (v' : Value) (R3 : Tbl), r = .returned (.int .i64 (idx : Int)) ∧ Hid (KW B0 K mb B v' (T ++ R2 ++ R3) w') ∧ Hid (R3.length ≤ 1 ∧ valD (T ++ R2 ++ R3) idx = fnD A.1 C.1 ∧ idx < (T ++ R2 ++ R3).length) ∧ Hid (Kn K mb v3 v' w3 w')) := fun w3 v3 R2 i1 i2 A C q1 q2 q3 q4 => by
    obtain ⟨p1, _⟩ := valD_lt q3
    obtain ⟨p2, _⟩ := valD_lt q4
    have hlen : (T ++ R2).length ≤ 80000 := by rw [List.length_append]; omega
    have := number_any q1 (0, i1, i2) (.inr ⟨rfl, by rw [show valD (T ++ R2) i1 = some A from q3]; rfl, by rw [show valD (T ++ R2) i2 = some C from q4]; rfl⟩) ⟨by show 0 ≤ _; omega, by show i1 ≤ _; omega, by show i2 ≤ _; omega⟩ (by omega)
    rw [show shD (T ++ R2) (0, i1, i2) = fnD A.1 C.1 by
      show (if 0 < 0 then _ else (valD (T ++ R2) i1).bind _) = _
      rw [if_neg (by omega), show valD (T ++ R2) i1 = some A from q3]
      show (valD (T ++ R2) i2).bind _ = _
      rw [show valD (T ++ R2) i2 = some C from q4]
      rfl] at this
    exact this
  have HKN : Hid (Kn K mb v v w W) := Kn.of hBW
  have HXE : Hid (X = w.heap.size) := hX
  have c2 : W.cell? ⟨X, 2, none⟩ = some (.slice (some ⟨g, o, none⟩) 2 cap) := heap_cl hXW rfl
  obtain ⟨e0, e1, e2⟩ := hc0 W hB0
  rw [show o + 0 * 3 = o by omega] at e0 e1 e2
  have HFL : Hid _ := hfl
  replace HFL : Hid ((flat (d + 1) ((3, n), [a, b])).length = 1 + ((flat d a).length + (flat d b).length)) := hfl
  replace hcap : 2 ≤ cap := hcap
  clear hel hc hc0 hc1 ht0 ht1 hrow hn1 hn2 ha hb hkw hB0 hBW hXW hX hXne hfl h hl
  generalize ordD (d + 1) ((3, n), [a, b]) = od at *
  generalize (flat (d + 1) ((3, n), [a, b])).length = fl at *
  generalize (flat d a).length = la at *
  generalize (flat d b).length = lb at *
  generalize ordD d a = oa at *
  generalize ordD d b = ob at *
  show Calls Tryd.prog 30 #[.pointer (some ⟨K, 0, none⟩), .agg #[.int .i64 3, .string ⟨n.toArray⟩, .slice (some ⟨g, o, none⟩) 2 cap]] w fun r w' => Hid (OfPost B0 K mb B v T fl od w r w')
  clear a b
  go_enter Tryd.func30, Tryd.ntmps30
  go_upto_region 1 with fail
  rw [← hW, ← HXE.out]
  clear hW
  go_upto_region 2 with (first | (go_at_call 23; (with_reducible refine Calls.mono CA ?_); rintro e' w2 ⟨i1, ok1, v2, R, rfl, q1, q2, q3, q4, q5⟩))
  clear e0 e1 e2 c2 CA
  have HQ1 : Hid (KW B0 K mb B v2 (T ++ R) w2 ∧ R.length ≤ la ∧ Kn K mb v v2 W w2) := ⟨q1, q2, q3⟩
  have HQ4 : Hid (ok1 = true → valD (T ++ R) i1 = oa ∧ oa.isSome = true) := q4
  have HQ5 : Hid (ok1 = false → oa = none) := q5
  clear q1 q2 q3 q4 q5
  cases ok1 with
  | false =>
    have HE : Hid (OfPost B0 K mb B v T fl od w (.returned (.tuple #[.int .i64 0, .bool false])) w2) := ⟨0, false, v2, R, rfl, HQ1.out.1, by rw [HFL.out]; have := HQ1.out.2.1; omega, HKN.out.trans HQ1.out.2.2, (fun h => (by cases h)), fun _ => by rw [HOD.out, HQ5.out rfl]; rfl⟩
    clear HQ1 HQ4 HQ5 HB HN3
    go_wp2
    refine bodyPost_ret (v := .tuple #[.int .i64 0, .bool false]) (by simp [results, Tryd.results30, go_sem]) rfl ?_
    exact HE.out
  | true =>
    obtain ⟨hA1, hA2⟩ := HQ4.out rfl
    obtain ⟨A, hA⟩ := Option.isSome_iff_exists.1 hA2
    rw [hA] at hA1 HOD
    replace HOD : Hid (od = ob.bind fun y => fnD A.1 y.1) := HOD
    replace hA1 : Hid (valD (T ++ R) i1 = some A) := hA1
    obtain ⟨p1, p2, ⟨p3, p4, p5⟩, CB⟩ := HB.out w2 v2 R HQ1.out.1 HQ1.out.2.2 HQ1.out.2.1
    have c2 : w2.cell? ⟨X, 2, none⟩ = some (.slice (some ⟨g, o, none⟩) 2 cap) := heap_cl p2 rfl
    clear p1 p2 hA hA2 HB HQ4 HQ5
    go_upto_region 5 with (first | (go_at_call 23; (with_reducible refine Calls.mono CB ?_); rintro e' w3 ⟨i2, ok2, v3, R2, rfl, q1, q2, q3, q4, q5⟩))
    clear p3 p4 p5 c2 CB
    have HR1 : Hid (KW B0 K mb B v3 (T ++ (R ++ R2)) w3 ∧ R2.length ≤ lb ∧ Kn K mb v2 v3 w2 w3) := ⟨by rw [← List.append_assoc]; exact q1, q2, q3⟩
    have HR4 : Hid (ok2 = true → valD (T ++ R ++ R2) i2 = ob ∧ ob.isSome = true) := q4
    have HR5 : Hid (ok2 = false → ob = none) := q5
    clear q1 q2 q3 q4 q5
    cases ok2 with
    | false =>
      have HE : Hid (OfPost B0 K mb B v T fl od w (.returned (.tuple #[.int .i64 0, .bool false])) w3) := ⟨0, false, v3, R ++ R2, rfl, HR1.out.1, by rw [HFL.out, List.length_append]; have := HQ1.out.2.1; have := HR1.out.2.1; omega, (HKN.out.trans HQ1.out.2.2).trans HR1.out.2.2, (fun h => (by cases h)), fun _ => by rw [HOD.out, HR5.out rfl]; rfl⟩
      clear HQ1 HR1 HR4 HR5 HN3
      go_wp2
      refine bodyPost_ret (v := .tuple #[.int .i64 0, .bool false]) (by simp [results, Tryd.results30, go_sem]) rfl ?_
      exact HE.out
    | true =>
      obtain ⟨hC1, hC2⟩ := HR4.out rfl
      obtain ⟨C, hC⟩ := Option.isSome_iff_exists.1 hC2
      rw [hC] at hC1 HOD
      replace HOD : Hid (od = fnD A.1 C.1) := HOD
      have CN := HN3.out w3 v3 (R ++ R2) i1 i2 A C HR1.out.1 (by rw [List.length_append]; have := HQ1.out.2.1; have := HR1.out.2.1; omega) (by rw [← List.append_assoc]; exact valD_mono hA1.out) (by rw [← List.append_assoc]; exact hC1)
      clear hC1 hC2 hC HR4 HR5 HN3 hA1
      go_upto_region 8 with (first | (go_at_call 31; (with_reducible refine Calls.mono CN ?_); rintro e' w4 ⟨i3, v4, R3, rfl, q1, q2, q3⟩))
      clear CN
      have HKW4 : Hid (KW B0 K mb B v4 (T ++ (R ++ R2) ++ R3) w4.drew) := q1.out.on ((Below.refl _ _).drew)
      obtain ⟨g3, cap3, rfl, hcap3, hB3, hg3, hel3⟩ := HKW4.out.at (fun e => by have := q2.out.2.2; rw [e] at this; simp at this)
      obtain ⟨pv, hpv, hC3⟩ := hel3 i3 q2.out.2.2
      have hi3 := q2.out.2.2
      have hval : ((T ++ (R ++ R2) ++ R3)[i3]'hi3).2 = od := by
        have h := q2.out.2.1
        unfold valD at h
        rw [List.getElem?_eq_getElem q2.out.2.2] at h
        rw [HOD.out]
        exact h
      rw [hval] at hC3
      have HEND : Hid (∀ ok : Bool, (ok = true → od.isSome = true) → (ok = false → od = none) → OfPost B0 K mb B v T fl od w (.returned (.tuple #[.int .i64 (i3 : Int), .bool ok])) w4.drew) := fun ok h1 h2 => ⟨i3, ok, .slice (some ⟨g3, 0, none⟩) (T ++ (R ++ R2) ++ R3).length cap3, R ++ R2 ++ R3, rfl, by rw [show T ++ (R ++ R2 ++ R3) = T ++ (R ++ R2) ++ R3 by simp]; exact HKW4.out, by rw [HFL.out, List.length_append, List.length_append]; have := HQ1.out.2.1; have := HR1.out.2.1; have := q2.out.1; omega, ((HKN.out.trans HQ1.out.2.2).trans HR1.out.2.2).trans (q3.out.trans (Kn.of ((Below.refl _ _).drew))), fun h => ⟨by rw [← List.append_assoc]; rw [q2.out.2.1, HOD.out], h1 h⟩, h2⟩
      have j1 : (0 : Int) ≤ (i3 : Int) := by omega
      have j2 : (i3 : Int) < ((T ++ (R ++ R2) ++ R3).length : Int) := by have := q2.out.2.2; omega
      have d1 : w4.drew.cell? ⟨K, 1, none⟩ = some (.slice (some ⟨g3, 0, none⟩) (T ++ (R ++ R2) ++ R3).length cap3) := heap_cl HKW4.out.blk rfl
      clear hel3 hval hi3 q1 q2 q3 HKW4 HQ1 HR1 hB3 hg3
      generalize (T ++ (R ++ R2) ++ R3).length = n3 at *
      rcases hC3 with ⟨ho, hp⟩ | ⟨D, p, ho, hp, _⟩
      · obtain rfl : pv = .pointer none := List.head_eq_of_cons_eq hp
        have HF : Hid _ := HEND.out false (fun h => by cases h) (fun _ => ho)
        have hS0 : (fun w' : World => w'.cell? ⟨K, 1, none⟩ = some (.slice (some ⟨g3, 0, none⟩) n3 cap3) ∧ w'.cell? ⟨g3, i3, none⟩ = some (.pointer none)) w4.drew := ⟨d1, hpv⟩
        clear ho hp HEND HOD hpv d1
        refine wp_region_M (S := (fun w' : World => w'.cell? ⟨K, 1, none⟩ = some (.slice (some ⟨g3, 0, none⟩) n3 cap3) ∧ w'.cell? ⟨g3, i3, none⟩ = some (.pointer none))) (L := 12) (n := 12) (by kernel_rfl) rfl (by kernel_rfl) ?_
        refine wpAnyK_go (i := 0) (m' := 1) (some 41) (v := .int .i64 (i3 : Int)) rfl rfl (by kernel_rfl) (by kernel_rfl) (by kernel_rfl) (by kernel_rfl) (by kernel_rfl) (fun _ _ _ h => h) (Or.inl ⟨by rfl, ?_⟩) hS0 ?_
        · intro w' hSw
          go_simp
        simp only [Act.put, List.setIfInBounds_toArray, List.set_cons_zero, List.set_cons_succ]
        refine wpAnyK_go (i := 1) (m' := 3) (some 42) (v := .pointer (some ⟨K, 0, none⟩)) rfl rfl (by kernel_rfl) (by kernel_rfl) (by kernel_rfl) (by kernel_rfl) (by kernel_rfl) (fun _ _ _ h => h) (Or.inl ⟨by rfl, ?_⟩) hS0 ?_
        · intro w' hSw
          go_simp
        simp only [Act.put, List.setIfInBounds_toArray, List.set_cons_zero, List.set_cons_succ]
        refine wpAnyK_go (i := 2) (m' := 7) (some 43) (v := .pointer (some ⟨K, 0, none⟩)) rfl rfl (by kernel_rfl) (by kernel_rfl) (by kernel_rfl) (by kernel_rfl) (by kernel_rfl) (fun _ _ _ h => h) (Or.inl ⟨by rfl, ?_⟩) hS0 ?_
        · intro w' hSw
          go_simp
        simp only [Act.put, List.setIfInBounds_toArray, List.set_cons_zero, List.set_cons_succ]
        refine wpAnyK_go (i := 3) (m' := 15) (some 44) (v := .pointer (some ⟨K, 0, none⟩)) rfl rfl (by kernel_rfl) (by kernel_rfl) (by kernel_rfl) (by kernel_rfl) (by kernel_rfl) (fun _ _ _ h => h) (Or.inl ⟨by rfl, ?_⟩) hS0 ?_
        · intro w' hSw
          go_simp
        simp only [Act.put, List.setIfInBounds_toArray, List.set_cons_zero, List.set_cons_succ]
        refine wpAnyK_go (i := 4) (m' := 31) (some 45) (v := .pointer (some ⟨K, 1, none⟩)) rfl rfl (by kernel_rfl) (by kernel_rfl) (by kernel_rfl) (by kernel_rfl) (by kernel_rfl) (fun _ _ _ h => h) (Or.inl ⟨by rfl, ?_⟩) hS0 ?_
        · intro w' hSw
          go_simp
        simp only [Act.put, List.setIfInBounds_toArray, List.set_cons_zero, List.set_cons_succ]
        refine wpAnyK_go (i := 5) (m' := 63) (some 46) (v := .slice (some ⟨g3, 0, none⟩) n3 cap3) rfl rfl (by kernel_rfl) (by kernel_rfl) (by kernel_rfl) (by kernel_rfl) (by kernel_rfl) (fun _ _ _ h => h) (Or.inl ⟨by rfl, ?_⟩) hS0 ?_
        · intro w' hSw
          obtain ⟨s1, s2⟩ := hSw
          go_simp
        simp only [Act.put, List.setIfInBounds_toArray, List.set_cons_zero, List.set_cons_succ]
        refine wpAnyK_go (i := 6) (m' := 127) (some 47) (v := .int .i64 (i3 : Int)) rfl rfl (by kernel_rfl) (by kernel_rfl) (by kernel_rfl) (by kernel_rfl) (by kernel_rfl) (fun _ _ _ h => h) (Or.inl ⟨by rfl, ?_⟩) hS0 ?_
        · intro w' hSw
          go_simp
        simp only [Act.put, List.setIfInBounds_toArray, List.set_cons_zero, List.set_cons_succ]
        refine wpAnyK_go (i := 7) (m' := 255) (some 48) (v := .pointer (some ⟨g3, i3, none⟩)) rfl rfl (by kernel_rfl) (by kernel_rfl) (by kernel_rfl) (by kernel_rfl) (by kernel_rfl) (fun _ _ _ h => h) (Or.inl ⟨by rfl, ?_⟩) hS0 ?_
        · intro w' hSw
          go_simp
        simp only [Act.put, List.setIfInBounds_toArray, List.set_cons_zero, List.set_cons_succ]
        refine wpAnyK_go (i := 8) (m' := 511) (some 49) (v := .pointer none) rfl rfl (by kernel_rfl) (by kernel_rfl) (by kernel_rfl) (by kernel_rfl) (by kernel_rfl) (fun _ _ _ h => h) (Or.inl ⟨by rfl, ?_⟩) hS0 ?_
        · intro w' hSw
          obtain ⟨s1, s2⟩ := hSw
          go_simp
        simp only [Act.put, List.setIfInBounds_toArray, List.set_cons_zero, List.set_cons_succ]
        refine wpAnyK_go (i := 9) (m' := 1023) (some 50) (v := .bool false) rfl rfl (by kernel_rfl) (by kernel_rfl) (by kernel_rfl) (by kernel_rfl) (by kernel_rfl) (fun _ _ _ h => h) (Or.inl ⟨by rfl, ?_⟩) hS0 ?_
        · intro w' hSw
          go_simp
        simp only [Act.put, List.setIfInBounds_toArray, List.set_cons_zero, List.set_cons_succ]
        refine wpAnyK_go (i := 10) (m' := 2047) (some 4) (v := .int .i64 (i3 : Int)) rfl rfl (by kernel_rfl) (by kernel_rfl) (by kernel_rfl) (by kernel_rfl) (by kernel_rfl) (fun _ _ _ h => h) (Or.inl ⟨by rfl, ?_⟩) hS0 ?_
        · intro w' hSw
          go_simp
        simp only [Act.put, List.setIfInBounds_toArray, List.set_cons_zero, List.set_cons_succ]
        refine wpAnyK_go (i := 11) (m' := 4095) (some 5) (v := .bool false) rfl rfl (by kernel_rfl) (by kernel_rfl) (by kernel_rfl) (by kernel_rfl) (by kernel_rfl) (fun _ _ _ h => h) (Or.inl ⟨by rfl, ?_⟩) hS0 ?_
        · intro w' hSw
          go_simp
        simp only [Act.put, List.setIfInBounds_toArray, List.set_cons_zero, List.set_cons_succ]
        refine wpAnyK_done (by kernel_rfl) ?_ _
        go_wp2
        refine bodyPost_ret (v := .tuple #[.int .i64 (i3 : Int), .bool false]) (by simp [results, Tryd.results30, go_sem]) rfl ?_
        exact HF.out
      · obtain rfl : pv = .pointer (some ⟨p, 0, none⟩) := List.head_eq_of_cons_eq hp
        have HF : Hid _ := HEND.out true (fun _ => by rw [ho]; rfl) (fun h => by cases h)
        have hS0 : (fun w' : World => w'.cell? ⟨K, 1, none⟩ = some (.slice (some ⟨g3, 0, none⟩) n3 cap3) ∧ w'.cell? ⟨g3, i3, none⟩ = some (.pointer (some ⟨p, 0, none⟩))) w4.drew := ⟨d1, hpv⟩
        clear ho hp HEND HOD hpv d1
        refine wp_region_M (S := (fun w' : World => w'.cell? ⟨K, 1, none⟩ = some (.slice (some ⟨g3, 0, none⟩) n3 cap3) ∧ w'.cell? ⟨g3, i3, none⟩ = some (.pointer (some ⟨p, 0, none⟩)))) (L := 12) (n := 12) (by kernel_rfl) rfl (by kernel_rfl) ?_
        refine wpAnyK_go (i := 0) (m' := 1) (some 41) (v := .int .i64 (i3 : Int)) rfl rfl (by kernel_rfl) (by kernel_rfl) (by kernel_rfl) (by kernel_rfl) (by kernel_rfl) (fun _ _ _ h => h) (Or.inl ⟨by rfl, ?_⟩) hS0 ?_
        · intro w' hSw
          go_simp
        simp only [Act.put, List.setIfInBounds_toArray, List.set_cons_zero, List.set_cons_succ]
        refine wpAnyK_go (i := 1) (m' := 3) (some 42) (v := .pointer (some ⟨K, 0, none⟩)) rfl rfl (by kernel_rfl) (by kernel_rfl) (by kernel_rfl) (by kernel_rfl) (by kernel_rfl) (fun _ _ _ h => h) (Or.inl ⟨by rfl, ?_⟩) hS0 ?_
        · intro w' hSw
          go_simp
        simp only [Act.put, List.setIfInBounds_toArray, List.set_cons_zero, List.set_cons_succ]
        refine wpAnyK_go (i := 2) (m' := 7) (some 43) (v := .pointer (some ⟨K, 0, none⟩)) rfl rfl (by kernel_rfl) (by kernel_rfl) (by kernel_rfl) (by kernel_rfl) (by kernel_rfl) (fun _ _ _ h => h) (Or.inl ⟨by rfl, ?_⟩) hS0 ?_
        · intro w' hSw
          go_simp
        simp only [Act.put, List.setIfInBounds_toArray, List.set_cons_zero, List.set_cons_succ]
        refine wpAnyK_go (i := 3) (m' := 15) (some 44) (v := .pointer (some ⟨K, 0, none⟩)) rfl rfl (by kernel_rfl) (by kernel_rfl) (by kernel_rfl) (by kernel_rfl) (by kernel_rfl) (fun _ _ _ h => h) (Or.inl ⟨by rfl, ?_⟩) hS0 ?_
        · intro w' hSw
          go_simp
        simp only [Act.put, List.setIfInBounds_toArray, List.set_cons_zero, List.set_cons_succ]
        refine wpAnyK_go (i := 4) (m' := 31) (some 45) (v := .pointer (some ⟨K, 1, none⟩)) rfl rfl (by kernel_rfl) (by kernel_rfl) (by kernel_rfl) (by kernel_rfl) (by kernel_rfl) (fun _ _ _ h => h) (Or.inl ⟨by rfl, ?_⟩) hS0 ?_
        · intro w' hSw
          go_simp
        simp only [Act.put, List.setIfInBounds_toArray, List.set_cons_zero, List.set_cons_succ]
        refine wpAnyK_go (i := 5) (m' := 63) (some 46) (v := .slice (some ⟨g3, 0, none⟩) n3 cap3) rfl rfl (by kernel_rfl) (by kernel_rfl) (by kernel_rfl) (by kernel_rfl) (by kernel_rfl) (fun _ _ _ h => h) (Or.inl ⟨by rfl, ?_⟩) hS0 ?_
        · intro w' hSw
          obtain ⟨s1, s2⟩ := hSw
          go_simp
        simp only [Act.put, List.setIfInBounds_toArray, List.set_cons_zero, List.set_cons_succ]
        refine wpAnyK_go (i := 6) (m' := 127) (some 47) (v := .int .i64 (i3 : Int)) rfl rfl (by kernel_rfl) (by kernel_rfl) (by kernel_rfl) (by kernel_rfl) (by kernel_rfl) (fun _ _ _ h => h) (Or.inl ⟨by rfl, ?_⟩) hS0 ?_
        · intro w' hSw
          go_simp
        simp only [Act.put, List.setIfInBounds_toArray, List.set_cons_zero, List.set_cons_succ]
        refine wpAnyK_go (i := 7) (m' := 255) (some 48) (v := .pointer (some ⟨g3, i3, none⟩)) rfl rfl (by kernel_rfl) (by kernel_rfl) (by kernel_rfl) (by kernel_rfl) (by kernel_rfl) (fun _ _ _ h => h) (Or.inl ⟨by rfl, ?_⟩) hS0 ?_
        · intro w' hSw
          go_simp
        simp only [Act.put, List.setIfInBounds_toArray, List.set_cons_zero, List.set_cons_succ]
        refine wpAnyK_go (i := 8) (m' := 511) (some 49) (v := .pointer (some ⟨p, 0, none⟩)) rfl rfl (by kernel_rfl) (by kernel_rfl) (by kernel_rfl) (by kernel_rfl) (by kernel_rfl) (fun _ _ _ h => h) (Or.inl ⟨by rfl, ?_⟩) hS0 ?_
        · intro w' hSw
          obtain ⟨s1, s2⟩ := hSw
          go_simp
        simp only [Act.put, List.setIfInBounds_toArray, List.set_cons_zero, List.set_cons_succ]
        refine wpAnyK_go (i := 9) (m' := 1023) (some 50) (v := .bool true) rfl rfl (by kernel_rfl) (by kernel_rfl) (by kernel_rfl) (by kernel_rfl) (by kernel_rfl) (fun _ _ _ h => h) (Or.inl ⟨by rfl, ?_⟩) hS0 ?_
        · intro w' hSw
          go_simp
        simp only [Act.put, List.setIfInBounds_toArray, List.set_cons_zero, List.set_cons_succ]
        refine wpAnyK_go (i := 10) (m' := 2047) (some 4) (v := .int .i64 (i3 : Int)) rfl rfl (by kernel_rfl) (by kernel_rfl) (by kernel_rfl) (by kernel_rfl) (by kernel_rfl) (fun _ _ _ h => h) (Or.inl ⟨by rfl, ?_⟩) hS0 ?_
        · intro w' hSw
          go_simp
        simp only [Act.put, List.setIfInBounds_toArray, List.set_cons_zero, List.set_cons_succ]
        refine wpAnyK_go (i := 11) (m' := 4095) (some 5) (v := .bool true) rfl rfl (by kernel_rfl) (by kernel_rfl) (by kernel_rfl) (by kernel_rfl) (by kernel_rfl) (fun _ _ _ h => h) (Or.inl ⟨by rfl, ?_⟩) hS0 ?_
        · intro w' hSw
          go_simp
        simp only [Act.put, List.setIfInBounds_toArray, List.set_cons_zero, List.set_cons_succ]
        refine wpAnyK_done (by kernel_rfl) ?_ _
        go_wp2
        refine bodyPost_ret (v := .tuple #[.int .i64 (i3 : Int), .bool true]) (by simp [results, Tryd.results30, go_sem]) rfl ?_
        exact HF.out
theorem of_any : ∀ (d : Nat) (t : Tn d), GndT d t → OfC 23 d t
  | 0, t, h => h.elim
  | d + 1, ((k, n), ts), h => of_step fun hk => by
    subst hk
    obtain ⟨a, b, e, h1, h2⟩ := h rfl
    have e : ts = [a, b] := e
    subst e
    exact fn_step (of_any d a h1) (of_any d b h2)
end Go.Proofs.YtgdflaapgfpdeaaDoor
