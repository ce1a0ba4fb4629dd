/- orderOf and Size. The law's own types: integer, list, function. -/
import Derived.Test.YtgdflaapgfpdeaaDoorMux
namespace Go.Proofs.YtgdflaapgfpdeaaDoor
open Go.RowKit

def noVarB (l : List Nd) : Bool := l.all fun x => decide (x.1 ≠ 2)
theorem noVarB_iff {l : List Nd} : noVarB l = true ↔ NoVar l := by
  unfold noVarB NoVar
  rw [List.all_eq_true]
  simp only [decide_eq_true_eq]
/-- A type's order, if it may be and has no variable. -/
def orderD (d : Nat) (t : Tn d) : Option OrdD := if wrongT d t = 0 ∧ noVarB (flat d t) = true then ordD d t else none
theorem form_gnd : ∀ (d : Nat) (t : Tn d), formB d t = true → GndT d t
  | 0, _, h => by cases h
  | d + 1, t, h => by
    intro hk
    unfold formB at h
    rw [if_neg (by omega), if_neg (by omega), if_pos hk] at h
    simp only [Bool.and_eq_true, decide_eq_true_eq, List.all_eq_true] at h
    obtain ⟨⟨_, h2⟩, h3⟩ := h
    match hts : t.2, h2 with
    | [a, b], _ =>
      rw [hts] at h3
      exact ⟨a, b, rfl, form_gnd d a (h3 a (by simp)), form_gnd d b (h3 b (by simp))⟩
theorem wrong_form {d : Nat} {t : Tn d} (h : wrongT d t = 0) : formB d t = true ∧ (flat d t).length ≤ 500 := by
  unfold wrongT at h
  split at h
  · next hf =>
    split at h
    · cases h
    · exact ⟨hf, by omega⟩
  · cases h
/-- What is known of the answer. -/
def OrdPost (w : World) (od : Option OrdD) (r : Ending) (w' : World) : Prop :=
  Below w.heap.size w w' ∧ ((od = none ∧ r = .returned (.tuple #[.pointer none, .int .i64 140])) ∨ ∃ D p, od = some D ∧ r = .returned (.tuple #[.pointer (some ⟨p, 0, none⟩), .int .i64 0]) ∧ OrP w' (fun y => y < w'.heap.size) p D ∧ Lat D.1)
theorem kw_start (w : World) : KW w.heap.size (w.heap.size + 1) w.heap.size (w.heap.size + 2) (.slice none 0 0) [] ((w.alloc (.map #[] 0)).alloc (.cells #[.map (some w.heap.size), .slice none 0 0] 57)) := by
  have h1 : ((w.alloc (.map #[] 0)).alloc (.cells #[.map (some w.heap.size), .slice none 0 0] 57)).heap[w.heap.size + 1]? = some (.cells #[.map (some w.heap.size), .slice none 0 0] 57 (0, 0)) := by
    have := new_blk (w.alloc (.map #[] 0)) (.cells #[.map (some w.heap.size), .slice none 0 0] 57)
    rwa [World.size_alloc] at this
  refine ⟨Nat.le_succ _, Nat.le_refl _, by omega, by omega, by omega, by rw [World.size_alloc, World.size_alloc]; omega, h1, ?_, OwnN.nil _ _ _ _ _, TOk.nil⟩
  exact (Ms.made w).on (Below.heap_alloc _ _ _ (by rw [World.size_alloc]; omega))
set_option maxHeartbeats 16000000 in
set_option maxRecDepth 10000 in
theorem orderOf_any (d : Nat) (x : Value) (t : Tn (d + 1)) (w : World) (hx : TyAt w w.heap.size (d + 1) x t) (hN : (flat (d + 1) t).length ≤ 4194304) :
    Calls Tryd.prog 15 #[x] w fun r w' => Hid (OrdPost w (orderD (d + 1) t) r w') := by
  have HX : Hid (TyAt w w.heap.size (d + 1) x t) := hx
  obtain ⟨u, rfl, hn1, hn2, hrow⟩ := hx
  obtain ⟨ad, cap, rfl⟩ := hrow.len
  generalize hk : t.1.1 = k at *
  generalize hn : t.1.2 = n at *
  generalize hm : t.2.length = m at *
  obtain ⟨X, hX⟩ : ∃ X, X = w.heap.size := ⟨_, rfl⟩
  obtain ⟨W, hW⟩ : ∃ W, W = w.alloc (.cells #[.int .i64 k, .string ⟨n.toArray⟩, .slice ad m cap] 24) := ⟨_, rfl⟩
  have hBW : Below X w W := by rw [hW, hX]; exact (Below.refl _ _).alloc (Nat.le_refl _) _
  have hXW : W.heap[X]? = some (.cells #[.int .i64 k, .string ⟨n.toArray⟩, .slice ad m cap] 24 (0, 0)) := by rw [hW, hX]; exact new_blk _ _
  have HTY : Hid (∀ (w2 : World) (B : Nat), Below X w w2 → X ≤ B → TyAt w2 B (d + 1) (.agg #[.int .i64 k, .string ⟨n.toArray⟩, .slice ad m cap]) t) := fun w2 B hb hB => TyAt.below (by rw [← hX]; exact hb) (by rw [← hX]; exact hB) _ _ _ HX.out
  have CG := ground_any d (.agg #[.int .i64 k, .string ⟨n.toArray⟩, .slice ad m cap]) t W (HTY.out W W.heap.size hBW (Nat.le_of_lt (lt_heap hXW))) hN
  have c0 : W.cell? ⟨X, 0, none⟩ = some (.int .i64 k) := heap_cl hXW rfl
  have c1 : W.cell? ⟨X, 1, none⟩ = some (.string ⟨n.toArray⟩) := heap_cl hXW rfl
  have c2 : W.cell? ⟨X, 2, none⟩ = some (.slice ad m cap) := heap_cl hXW rfl
  have HXE : Hid (X = w.heap.size) := hX
  have HXW : Hid (W.heap[X]? = some (.cells #[.int .i64 k, .string ⟨n.toArray⟩, .slice ad m cap] 24 (0, 0))) := hXW
  have HBW : Hid (Below X w W) := hBW
  have HORD : Hid (∀ (w2 : World), wrongT (d + 1) t = 0 → NoVar (flat (d + 1) t) → orderD (d + 1) t = ordD (d + 1) t ∧ OfC 23 (d + 1) t ∧ (flat (d + 1) t).length ≤ 500) := fun w2 h1 h2 => ⟨by unfold orderD; rw [if_pos ⟨h1, noVarB_iff.2 h2⟩], of_any _ _ (form_gnd _ _ (wrong_form h1).1), (wrong_form h1).2⟩
  have HNO : Hid (¬ (wrongT (d + 1) t = 0 ∧ NoVar (flat (d + 1) t)) → orderD (d + 1) t = none) := fun h => by
    show (if _ then _ else _) = _
    rw [if_neg (fun q => h ⟨q.1, noVarB_iff.1 q.2⟩)]
  clear hn1 hn2 hrow hX hBW hXW hk hn hm hN HX
  go_enter Tryd.func15, Tryd.ntmps15
  go_upto_region 1 with fail
  rw [← hW, ← HXE.out]
  clear hW
  by_cases hg : wrongT (d + 1) t = 0 ∧ NoVar (flat (d + 1) t)
  · replace CG : Calls Tryd.prog 22 #[.agg #[.int .i64 k, .string ⟨n.toArray⟩, .slice ad m cap]] W fun r w' => r = .returned (.bool true) ∧ Hid (Below W.heap.size W w') := CG.mono fun r w' ⟨bv, h1, h2, h3⟩ => ⟨by rw [h1, h3.out.2 hg], h2⟩
    obtain ⟨h1, h2, h3⟩ := HORD.out w hg.1 hg.2
    have HEQ : Hid (orderD (d + 1) t = ordD (d + 1) t) := h1
    have HOF : Hid (OfC 23 (d + 1) t) := h2
    have HFL : Hid ((flat (d + 1) t).length ≤ 500) := h3
    clear h1 h2 h3 hg HORD HNO
    go_upto_region 3 with (first | (go_at_call 22; (with_reducible refine Calls.mono CG ?_); rintro e' w2 ⟨rfl, HB2⟩))
    clear c0 c1 c2 CG
    obtain ⟨W3, hW3⟩ : ∃ W3, W3 = (w2.alloc (.map #[] 0)).alloc (.cells #[.map (some w2.heap.size), .slice none 0 0] 57) := ⟨_, rfl⟩
    have HKW : Hid (KW w2.heap.size (w2.heap.size + 1) w2.heap.size (w2.heap.size + 2) (.slice none 0 0) [] W3) := by rw [hW3]; exact kw_start w2
    have hb3 : Below w2.heap.size w2 W3 := by
      rw [hW3]
      exact ((Below.refl _ _).alloc (Nat.le_refl _) _).alloc (by rw [World.size_alloc]; omega) _
    have hXl := lt_heap HXW.out
    have HB3 : Hid (Below X w W3) := (HBW.out.trans (HB2.out.mono (Nat.le_of_lt hXl))).trans (hb3.mono (Nat.le_trans (Nat.le_of_lt hXl) HB2.out.size))
    have hX3 : W3.heap[X]? = some (.cells #[.int .i64 k, .string ⟨n.toArray⟩, .slice ad m cap] 24 (0, 0)) := (hb3.block X (Nat.lt_of_lt_of_le hXl HB2.out.size)).trans ((HB2.out.block X hXl).trans HXW.out)
    have c0 : W3.cell? ⟨X, 0, none⟩ = some (.int .i64 k) := heap_cl hX3 rfl
    have c1 : W3.cell? ⟨X, 1, none⟩ = some (.string ⟨n.toArray⟩) := heap_cl hX3 rfl
    have c2 : W3.cell? ⟨X, 2, none⟩ = some (.slice ad m cap) := heap_cl hX3 rfl
    have CO := HOF.out _ W3 w2.heap.size (w2.heap.size + 1) w2.heap.size (w2.heap.size + 2) (.slice none 0 0) [] (HTY.out W3 w2.heap.size HB3.out (Nat.le_trans (Nat.le_of_lt hXl) HB2.out.size)) HKW.out (by have := HFL.out; simp; omega)
    have HXl : Hid (X ≤ W3.heap.size) := Nat.le_of_lt (lt_heap hX3)
    clear hX3 hb3 hXl HOF HFL
    have hmm := @run_makeMap Tryd.prog
    go_upto_region 4 with fail
    rw [← hW3]
    clear hW3 hmm
    go_upto_region 5 with (first | (go_at_call 23; (with_reducible refine Calls.mono CO ?_); rintro e' w4 ⟨idx, ok, v4, R, rfl, q1, q2, q3, q4, q5⟩))
    clear c0 c1 c2 CO
    rw [List.nil_append] at q1 q4
    have HQ1 : Hid (KW w2.heap.size (w2.heap.size + 1) w2.heap.size (w2.heap.size + 2) v4 R w4) := q1
    have HB4 : Hid (Below X w w4) := HB3.out.trans ((q3.below HKW.out).mono (Nat.le_trans (Nat.le_of_lt (lt_heap HXW.out)) HB2.out.size))
    have HQ4 : Hid (ok = true → valD R idx = ordD (d + 1) t ∧ (ordD (d + 1) t).isSome = true) := q4
    have HQ5 : Hid (ok = false → ordD (d + 1) t = none) := q5
    clear q1 q2 q3 q4 q5
    cases ok with
    | false =>
      have HE : Hid (OrdPost w (orderD (d + 1) t) (.returned (.tuple #[.pointer none, .int .i64 140])) w4) := ⟨by rw [← HXE.out]; exact HB4.out, .inl ⟨by rw [HEQ.out, HQ5.out rfl], rfl⟩⟩
      go_wp2
      refine bodyPost_ret (v := .tuple #[.pointer none, .int .i64 140]) (by simp [results, Tryd.results15, go_sem]) rfl ?_
      exact HE.out
    | true =>
      obtain ⟨hv1, hv2⟩ := HQ4.out rfl
      obtain ⟨D, hD⟩ := Option.isSome_iff_exists.1 hv2
      rw [hD] at hv1
      obtain ⟨g, cp, p, rfl, hcp, hil, _, _, hcell, hor⟩ := HQ1.out.get hv1
      have HE : Hid (OrdPost w (orderD (d + 1) t) (.returned (.tuple #[.pointer (some ⟨p, 0, none⟩), .int .i64 0])) w4) := ⟨by rw [← HXE.out]; exact HB4.out, .inr ⟨D, p, by rw [HEQ.out, hD], rfl, hor.on (Keeps.refl _ _) (fun y hy => by
        rcases hy with hy | hy
        · exact hy.elim
        · exact hy.2.1), HQ1.out.ok.lat hv1⟩⟩
      have j1 : (0 : Int) ≤ (idx : Int) := by omega
      have j2 : (idx : Int) < (R.length : Int) := by omega
      have d1 : w4.cell? ⟨w2.heap.size + 1, 1, none⟩ = some (.slice (some ⟨g, 0, none⟩) R.length cp) := heap_cl HQ1.out.blk rfl
      clear hv1 hv2 hD hor HQ1 HQ4 HQ5
      generalize R.length = rl at *
      go_wp2
      refine bodyPost_ret (v := .tuple #[.pointer (some ⟨p, 0, none⟩), .int .i64 0]) (by simp [results, Tryd.results15, go_sem]) rfl ?_
      exact HE.out
  · replace CG : Calls Tryd.prog 22 #[.agg #[.int .i64 k, .string ⟨n.toArray⟩, .slice ad m cap]] W fun r w' => r = .returned (.bool false) ∧ Hid (Below W.heap.size W w') := CG.mono fun r w' ⟨bv, h1, h2, h3⟩ => ⟨by
        rw [h1]
        cases bv with
        | false => rfl
        | true => exact absurd (h3.out.1 rfl) hg, h2⟩
    have HE : Hid (∀ w2 : World, Below W.heap.size W w2 → OrdPost w (orderD (d + 1) t) (.returned (.tuple #[.pointer none, .int .i64 140])) w2) := fun w2 hb => ⟨by rw [← HXE.out]; exact HBW.out.trans (hb.mono (Nat.le_of_lt (lt_heap HXW.out))), .inl ⟨HNO.out hg, rfl⟩⟩
    clear hg HORD HNO
    go_wp2_with (first | (go_at_call 22; (with_reducible refine Calls.mono CG ?_); rintro e' w2 ⟨rfl, HB2⟩))
    refine bodyPost_ret (v := .tuple #[.pointer none, .int .i64 140]) (by simp [results, Tryd.results15, go_sem]) rfl ?_
    exact HE.out w2 HB2.out
/-- Size, as the document has it. -/
def sizeD (d : Nat) (t : Tn d) : Nat × Int := match orderD d t with
  | some D => (D.1.length, 0)
  | none => (0, 140)
set_option maxHeartbeats 16000000 in
set_option maxRecDepth 10000 in
theorem size_all (d : Nat) (x : Value) (t : Tn (d + 1)) (w : World) (hx : TyAt w w.heap.size (d + 1) x t) (hN : (flat (d + 1) t).length ≤ 4194304) :
    Calls Tryd.prog 8 #[x] w fun r w' => r = .returned (.tuple #[.int .i64 ((sizeD (d + 1) t).1 : Int), .int .i64 (sizeD (d + 1) t).2]) ∧ Hid (Below w.heap.size w w') := by
  have HX : Hid (TyAt w w.heap.size (d + 1) x t) := hx
  obtain ⟨u, rfl, hn1, hn2, hrow⟩ := hx
  obtain ⟨ad, cap, rfl⟩ := hrow.len
  generalize hk : t.1.1 = k at *
  generalize hn : t.1.2 = n at *
  generalize hm : t.2.length = m at *
  obtain ⟨X, hX⟩ : ∃ X, X = w.heap.size := ⟨_, rfl⟩
  obtain ⟨W, hW⟩ : ∃ W, W = w.alloc (.cells #[.int .i64 k, .string ⟨n.toArray⟩, .slice ad m cap] 24) := ⟨_, rfl⟩
  have hBW : Below w.heap.size w W := by rw [hW]; exact (Below.refl _ _).alloc (Nat.le_refl _) _
  have hXW : W.heap[X]? = some (.cells #[.int .i64 k, .string ⟨n.toArray⟩, .slice ad m cap] 24 (0, 0)) := by rw [hW, hX]; exact new_blk _ _
  have CO := orderOf_any d (.agg #[.int .i64 k, .string ⟨n.toArray⟩, .slice ad m cap]) t W (TyAt.below hBW hBW.size _ _ _ HX.out) hN
  have c0 : W.cell? ⟨X, 0, none⟩ = some (.int .i64 k) := heap_cl hXW rfl
  have c1 : W.cell? ⟨X, 1, none⟩ = some (.string ⟨n.toArray⟩) := heap_cl hXW rfl
  have c2 : W.cell? ⟨X, 2, none⟩ = some (.slice ad m cap) := heap_cl hXW rfl
  have HXE : Hid (X = w.heap.size) := hX
  have HBW : Hid (Below w.heap.size w W) := hBW
  have HSZ : Hid (sizeD (d + 1) t = match orderD (d + 1) t with
    | some D => (D.1.length, 0)
    | none => (0, 140)) := rfl
  clear hn1 hn2 hrow hX hBW hXW hk hn hm hN HX
  cases hod : orderD (d + 1) t with
  | none =>
    rw [hod] at CO HSZ
    replace CO : Calls Tryd.prog 15 #[.agg #[.int .i64 k, .string ⟨n.toArray⟩, .slice ad m cap]] W fun r w' => r = .returned (.tuple #[.pointer none, .int .i64 140]) ∧ Hid (Below W.heap.size W w') := CO.mono fun r w' h => by
      obtain ⟨h1, h2⟩ := h.out
      rcases h2 with ⟨_, h2⟩ | ⟨D, p, h2, _⟩
      · exact ⟨h2, h1⟩
      · cases h2
    have HS1 : Hid (sizeD (d + 1) t = (0, 140)) := HSZ
    clear hod HSZ
    go_enter Tryd.func8, Tryd.ntmps8
    go_upto_region 1 with fail
    rw [← hW, ← HXE.out]
    clear hW
    go_wp2_with (first | (go_at_call 15; (with_reducible refine Calls.mono CO ?_); rintro e' w2 ⟨rfl, HB2⟩))
    refine bodyPost_ret (v := .tuple #[.int .i64 0, .int .i64 140]) (by simp [results, Tryd.results8, go_sem]) rfl ?_
    exact ⟨by rw [HS1.out]; rfl, HBW.out.trans (HB2.out.mono HBW.out.size)⟩
  | some D =>
    rw [hod] at CO HSZ
    replace CO : Calls Tryd.prog 15 #[.agg #[.int .i64 k, .string ⟨n.toArray⟩, .slice ad m cap]] W fun r w' => ∃ p, r = .returned (.tuple #[.pointer (some ⟨p, 0, none⟩), .int .i64 0]) ∧ Hid (Below W.heap.size W w') ∧ Hid (AbAt w' (fun y => y < w'.heap.size) p D.1) := CO.mono fun r w' h => by
      obtain ⟨h1, h2⟩ := h.out
      rcases h2 with ⟨h2, _⟩ | ⟨D', p, h2, h3, h4, _⟩
      · cases h2
      · rw [← Option.some.inj h2] at h4
        exact ⟨p, h3, h1, h4.1⟩
    have HS1 : Hid (sizeD (d + 1) t = (D.1.length, 0)) := HSZ
    clear hod HSZ
    go_enter Tryd.func8, Tryd.ntmps8
    go_upto_region 1 with fail
    rw [← hW, ← HXE.out]
    clear hW
    go_upto_region 4 with (first | (go_at_call 15; (with_reducible refine Calls.mono CO ?_); rintro e' w2 ⟨p, rfl, HB2, HA2⟩))
    have CS := size_any HA2.out
    clear c0 c1 c2 CO
    go_wp2_with (first | (go_at_call 16; (with_reducible refine Calls.mono CS ?_); rintro e' w3 ⟨rfl, hw3⟩; subst hw3))
    refine bodyPost_ret (v := .tuple #[.int .i64 (D.1.length : Int), .int .i64 0]) (by simp [results, Tryd.results8, go_sem]) rfl ?_
    exact ⟨by rw [HS1.out], HBW.out.trans (HB2.out.mono HBW.out.size)⟩
end Go.Proofs.YtgdflaapgfpdeaaDoor

namespace Go.Proofs.YtgdflaapgfpdeaaDoor
open Go.RowKit

def intT : Tn 1 := ((1, []), [])
def lstT {d : Nat} (t : Tn d) : Tn (d + 1) := ((4, [76, 105, 115, 116]), [t])
def funT {d : Nat} (a b : Tn d) : Tn (d + 1) := ((3, []), [a, b])
/-- A type, as a value of three parts. -/
def Tv (w : World) (d : Nat) (x : Value) (t : Tn d) : Prop := ∃ k n ad len cap, x = .agg #[.int .i64 k, .string n, .slice ad len cap] ∧ TyAt w w.heap.size d x t
theorem Tv.on {w w' : World} {d : Nat} {x : Value} {t : Tn d} (h : Tv w d x t) (hb : Below w.heap.size w w') : Tv w' d x t := by
  obtain ⟨k, n, ad, len, cap, h1, h2⟩ := h
  exact ⟨k, n, ad, len, cap, h1, TyAt.below hb hb.size _ _ _ h2⟩
theorem Tv.up {w : World} {d : Nat} {x : Value} {t : Tn d} (h : Tv w d x t) : Tv w (d + 1) x (up d t) := by
  obtain ⟨k, n, ad, len, cap, h1, h2⟩ := h
  exact ⟨k, n, ad, len, cap, h1, TyAt.up _ _ _ h2⟩
set_option maxHeartbeats 4000000 in
set_option maxRecDepth 10000 in
theorem int_any {w : World} : Calls Tryd.prog 5 #[] w fun r w' => ∃ x, r = .returned x ∧ Hid (Below w.heap.size w w') ∧ Hid (Tv w' 1 x intT) := by
  obtain ⟨W, hW⟩ : ∃ W, W = w.alloc (.cells #[.int .i64 1, .string ⟨#[]⟩, .slice none 0 0] 24) := ⟨_, rfl⟩
  have HB : Hid (Below w.heap.size w W) := by rw [hW]; exact (Below.refl _ _).alloc (Nat.le_refl _) _
  have hX : W.heap[w.heap.size]? = some (.cells #[.int .i64 1, .string ⟨#[]⟩, .slice none 0 0] 24 (0, 0)) := by rw [hW]; exact new_blk _ _
  have HT : Hid (Tv W 1 (.agg #[.int .i64 1, .string ⟨#[]⟩, .slice none 0 0]) intT) := ⟨1, ⟨#[]⟩, none, 0, 0, rfl, .slice none 0 0, rfl, by decide, by decide, .inl ⟨rfl, none, 0, rfl⟩⟩
  go_enter Tryd.func5, Tryd.ntmps5
  go_wp2
  rw [← hW]
  have s0 : W.cell? ⟨w.heap.size, 0, none⟩ = some (.int .i64 1) := heap_cl hX rfl
  have s1 : W.cell? ⟨w.heap.size, 1, none⟩ = some (.string ⟨#[]⟩) := heap_cl hX rfl
  have s2 : W.cell? ⟨w.heap.size, 2, none⟩ = some (.slice none 0 0) := heap_cl hX rfl
  clear hW hX
  refine bodyPost_ret (v := .agg #[.int .i64 1, .string ⟨#[]⟩, .slice none 0 0]) (by simp [results, Tryd.results5, go_sem, s0, s1, s2]) rfl ?_
  exact ⟨_, rfl, HB.out, HT.out⟩
theorem al1 (w : World) (a b : Obj) : ((w.alloc a).alloc b).heap[w.heap.size + 1]? = some b := by
  have := new_blk (w.alloc a) b
  rwa [World.size_alloc] at this
theorem al2 (w : World) (a b c : Obj) : (((w.alloc a).alloc b).alloc c).heap[w.heap.size + 1 + 1]? = some c := by
  have := new_blk ((w.alloc a).alloc b) c
  rwa [World.size_alloc, World.size_alloc] at this
theorem al3 (w : World) (a b c e : Obj) : ((((w.alloc a).alloc b).alloc c).alloc e).heap[w.heap.size + 1 + 1 + 1]? = some e := by
  have := new_blk (((w.alloc a).alloc b).alloc c) e
  rwa [World.size_alloc, World.size_alloc, World.size_alloc] at this
/-- A row of types in a block. -/
theorem row_of {w : World} {d g : Nat} {cs : List Value} {ts : List (Tn d)} (hg : w.heap[g]? = some (.cells cs.toArray 24 (0, 0))) (h : ∀ j (hj : j < ts.length), ∃ k n u, cs[j * 3]? = some (.int .i64 k) ∧ cs[j * 3 + 1]? = some (.string n) ∧ cs[j * 3 + 2]? = some u ∧ TyAt w w.heap.size d (.agg #[.int .i64 k, .string n, u]) ts[j]) (h0 : ts ≠ []) : RowP w w.heap.size (TyAt w w.heap.size d) (.slice (some ⟨g, 0, none⟩) ts.length ts.length) ts := by
  refine .inr ⟨g, 0, ts.length, rfl, h0, Nat.le_refl _, lt_heap hg, fun j hj => ?_⟩
  obtain ⟨k, n, u, a0, a1, a2, a3⟩ := h j hj
  refine ⟨k, n, u, ?_, ?_, ?_, a3⟩
  · rw [Nat.zero_add]; exact heap_cl hg (by simpa using a0)
  · rw [Nat.zero_add]; exact heap_cl hg (by simpa using a1)
  · rw [Nat.zero_add]; exact heap_cl hg (by simpa using a2)
set_option maxHeartbeats 4000000 in
set_option maxRecDepth 10000 in
theorem list_mk {w : World} {d : Nat} {x : Value} {t : Tn d} (hx : Tv w d x t) : Calls Tryd.prog 6 #[x] w fun r w' => ∃ x', r = .returned x' ∧ Hid (Below w.heap.size w w') ∧ Hid (Tv w' (d + 1) x' (lstT t)) := by
  have HX : Hid (Tv w d x t) := hx
  obtain ⟨k, n, ad, len, cap, rfl, _⟩ := hx
  go_enter Tryd.func6, Tryd.ntmps6
  go_wp2
  obtain ⟨W, hW⟩ : ∃ W, W = ((w.alloc (.cells #[.int .i64 k, .string n, .slice ad len cap] 24)).alloc (.cells #[.int .i64 4, .string ⟨#[76, 105, 115, 116]⟩, .slice (some ⟨w.heap.size + 1 + 1, 0, none⟩) 1 1] 24)).alloc (.cells #[.int .i64 k, .string n, .slice ad len cap] 24) := ⟨_, rfl⟩
  have hR : W.heap[w.heap.size + 1]? = some (.cells #[.int .i64 4, .string ⟨#[76, 105, 115, 116]⟩, .slice (some ⟨w.heap.size + 1 + 1, 0, none⟩) 1 1] 24 (0, 0)) := by
    rw [hW]
    exact (Below.heap_alloc _ _ _ (by rw [World.size_alloc, World.size_alloc]; omega)).trans (al1 _ _ _)
  have hC : W.heap[w.heap.size + 1 + 1]? = some (.cells [.int .i64 k, .string n, .slice ad len cap].toArray 24 (0, 0)) := by
    rw [hW]
    exact al2 _ _ _ _
  have hB : Below w.heap.size w W := by
    rw [hW]
    exact (((Below.refl _ _).alloc (Nat.le_refl _) _).alloc (by simp) _).alloc (by simp; omega) _
  have hT : Tv W (d + 1) (.agg #[.int .i64 4, .string ⟨#[76, 105, 115, 116]⟩, .slice (some ⟨w.heap.size + 1 + 1, 0, none⟩) 1 1]) (lstT t) := by
    refine ⟨_, _, _, _, _, rfl, _, rfl, show (4 : Nat) < 140737488355328 by decide, show (1 : Nat) < 140737488355328 by decide, row_of (ts := [t]) hC (fun j hj => ?_) (by simp)⟩
    obtain rfl : j = 0 := by simpa using hj
    obtain ⟨_, _, _, _, _, _, q⟩ := (HX.out.on hB)
    exact ⟨k, n, _, rfl, rfl, rfl, q⟩
  rw [← hW]
  have s0 : W.cell? ⟨w.heap.size + 1, 0, none⟩ = some (.int .i64 4) := heap_cl hR rfl
  have s1 : W.cell? ⟨w.heap.size + 1, 1, none⟩ = some (.string ⟨#[76, 105, 115, 116]⟩) := heap_cl hR rfl
  have s2 : W.cell? ⟨w.heap.size + 1, 2, none⟩ = some (.slice (some ⟨w.heap.size + 1 + 1, 0, none⟩) 1 1) := heap_cl hR rfl
  clear hW hR hC HX
  refine bodyPost_ret (v := .agg #[.int .i64 4, .string ⟨#[76, 105, 115, 116]⟩, .slice (some ⟨w.heap.size + 1 + 1, 0, none⟩) 1 1]) (by simp [results, Tryd.results6, go_sem, s0, s1, s2]) rfl ?_
  exact ⟨_, rfl, hB, hT⟩
set_option maxHeartbeats 4000000 in
set_option maxRecDepth 10000 in
theorem fun_mk {w : World} {d : Nat} {x y : Value} {a b : Tn d} (hx : Tv w d x a) (hy : Tv w d y b) : Calls Tryd.prog 7 #[x, y] w fun r w' => ∃ x', r = .returned x' ∧ Hid (Below w.heap.size w w') ∧ Hid (Tv w' (d + 1) x' (funT a b)) := by
  have HX : Hid (Tv w d x a) := hx
  have HY : Hid (Tv w d y b) := hy
  obtain ⟨k, n, ad, len, cap, rfl, _⟩ := hx
  obtain ⟨k2, n2, ad2, len2, cap2, rfl, _⟩ := hy
  go_enter Tryd.func7, Tryd.ntmps7
  go_wp2
  obtain ⟨W, hW⟩ : ∃ W, W = (((w.alloc (.cells #[.int .i64 k, .string n, .slice ad len cap] 24)).alloc (.cells #[.int .i64 k2, .string n2, .slice ad2 len2 cap2] 24)).alloc (.cells #[.int .i64 3, .string ⟨#[]⟩, .slice (some ⟨w.heap.size + 1 + 1 + 1, 0, none⟩) 2 2] 24)).alloc (.cells #[.int .i64 k, .string n, .slice ad len cap, .int .i64 k2, .string n2, .slice ad2 len2 cap2] 24) := ⟨_, rfl⟩
  have hR : W.heap[w.heap.size + 1 + 1]? = some (.cells #[.int .i64 3, .string ⟨#[]⟩, .slice (some ⟨w.heap.size + 1 + 1 + 1, 0, none⟩) 2 2] 24 (0, 0)) := by
    rw [hW]
    exact (Below.heap_alloc _ _ _ (by rw [World.size_alloc, World.size_alloc, World.size_alloc]; omega)).trans (al2 _ _ _ _)
  have hC : W.heap[w.heap.size + 1 + 1 + 1]? = some (.cells [.int .i64 k, .string n, .slice ad len cap, .int .i64 k2, .string n2, .slice ad2 len2 cap2].toArray 24 (0, 0)) := by
    rw [hW]
    exact al3 _ _ _ _ _
  have hB : Below w.heap.size w W := by
    rw [hW]
    exact ((((Below.refl _ _).alloc (Nat.le_refl _) _).alloc (by simp) _).alloc (by simp; omega) _).alloc (by simp; omega) _
  have hT : Tv W (d + 1) (.agg #[.int .i64 3, .string ⟨#[]⟩, .slice (some ⟨w.heap.size + 1 + 1 + 1, 0, none⟩) 2 2]) (funT a b) := by
    refine ⟨_, _, _, _, _, rfl, _, rfl, show (0 : Nat) < 140737488355328 by decide, show (2 : Nat) < 140737488355328 by decide, row_of (ts := [a, b]) hC (fun j hj => ?_) (by simp)⟩
    obtain ⟨_, _, _, _, _, _, q⟩ := (HX.out.on hB)
    obtain ⟨_, _, _, _, _, _, q2⟩ := (HY.out.on hB)
    match j, hj with
    | 0, _ => exact ⟨k, n, _, rfl, rfl, rfl, q⟩
    | 1, _ => exact ⟨k2, n2, _, rfl, rfl, rfl, q2⟩
  rw [← hW]
  have s0 : W.cell? ⟨w.heap.size + 1 + 1, 0, none⟩ = some (.int .i64 3) := heap_cl hR rfl
  have s1 : W.cell? ⟨w.heap.size + 1 + 1, 1, none⟩ = some (.string ⟨#[]⟩) := heap_cl hR rfl
  have s2 : W.cell? ⟨w.heap.size + 1 + 1, 2, none⟩ = some (.slice (some ⟨w.heap.size + 1 + 1 + 1, 0, none⟩) 2 2) := heap_cl hR rfl
  clear hW hR hC HX HY
  refine bodyPost_ret (v := .agg #[.int .i64 3, .string ⟨#[]⟩, .slice (some ⟨w.heap.size + 1 + 1 + 1, 0, none⟩) 2 2]) (by simp [results, Tryd.results7, go_sem, s0, s1, s2]) rfl ?_
  exact ⟨_, rfl, hB, hT⟩
end Go.Proofs.YtgdflaapgfpdeaaDoor
