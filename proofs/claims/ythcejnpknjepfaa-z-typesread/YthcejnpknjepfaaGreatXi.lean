/- The reference's reading of a type: contract of read. -/
import Derived.Test.YthcejnpknjepfaaGreatXh
namespace Go.Proofs.YthcejnpknjepfaaGreat
open Go.RowKit

theorem leaf_no {l : List UInt8} (hb : begB [40] l = false) (h : leafT (wordL l) = none) : RdNo l := by
  intro d t r hf hl hE
  obtain ⟨h1, h2, h3⟩ := leaf_none h
  rcases text_kinds hf with lt | ⟨q, e⟩
  · have hw : wordL l = textT d t := by rw [hl]; exact word_of lt.2.1 (hE lt)
    rw [hw] at h1 h2 h3
    rcases lt.2.2 with ⟨e, _⟩ | ⟨e, _⟩ | ⟨e, _⟩
    · exact h1 e
    · rw [h2] at e; cases e
    · rw [h3] at e; cases e
  · rw [hl, e] at hb
    simp [begB] at hb
theorem leaf_at (w : World) (S : Nat → Prop) {k : Int} {n : List UInt8} (hn : n.length < 140737488355328) (m : Nat) : TyS w S (m + 1) (.agg #[.int .i64 k, strV n, .slice none 0 0]) ((k, n), []) := ⟨.slice none 0 0, rfl, hn, by simp, .inl ⟨rfl, none, 0, rfl⟩⟩
theorem leaf_refd {n : List UInt8} {k : Int} {q : List UInt8} (h : leafT n = some (k, q)) (m : Nat) : formB (m + 1) ((k, q), []) = true ∧ textT (m + 1) ((k, q), []) = n := leaf_form h
/-- The place of the result, laid first. -/
theorem res_at (w : World) : ∃ W0, W0 = w.alloc (Obj.cells #[.int .i64 0, .string ⟨#[]⟩, .slice none 0 0] 25) ∧ Below w.heap.size w W0 ∧ W0.heap.size = w.heap.size + 1 ∧ ∀ U, Below W0.heap.size W0 U → U.heap[w.heap.size]? = some (.cells #[.int .i64 0, .string ⟨#[]⟩, .slice none 0 0] 25 (0, 0)) ∧ Below w.heap.size w U := by
  have hb := (Below.refl w.heap.size w).alloc (Nat.le_refl _) (Obj.cells #[.int .i64 0, .string ⟨#[]⟩, .slice none 0 0] 25)
  have hs : (w.alloc (Obj.cells #[.int .i64 0, .string ⟨#[]⟩, .slice none 0 0] 25)).heap.size = w.heap.size + 1 := by simp
  refine ⟨_, rfl, hb, hs, fun U hU => ⟨?_, hb.trans (hU.mono (by omega))⟩⟩
  rw [hU.block _ (by omega)]
  show (w.heap.push _)[w.heap.size]? = _
  simp
set_option maxHeartbeats 8000000 in
set_option maxRecDepth 10000 in
theorem read_leaf (m : Nat) (s : ByteArray) (k : Nat) (w : World) (hs : s.size ≤ 65536) (hk : k ≤ s.size) (hb : begB [40] (rs s k) = false) :
    Calls Tryz.prog 28 #[.string s, .int .i64 k] w (RdPost w (rs s k) k (m + 1)) := by
  have B1 := fun W => ref_begins s ⟨#[40]⟩ k W hs hk (by show (1 : Nat) ≤ 10; omega)
  rw [show (⟨#[40]⟩ : ByteArray).data.toList = [40] from rfl, hb] at B1
  have W1 := fun W => ref_word s k W hs hk
  obtain ⟨r, e, hP, hE⟩ := word_split (rs s k)
  have hwl : (wordL (rs s k)).length ≤ s.size - k := by
    have h1 := congrArg List.length e
    rw [rs_len, List.length_append] at h1
    omega
  have L1 := fun W => ref_leaf (wordL (rs s k)) W (by omega)
  have HP : Hid (∀ W', Below w.heap.size w W' → RdPost w (rs s k) k (m + 1) (.returned (.tuple #[.agg #[.int .i64 ((leafT (wordL (rs s k))).getD (0, [])).1, strV ((leafT (wordL (rs s k))).getD (0, [])).2, .slice none 0 0], .int .i64 ((k : Int) + ((wordL (rs s k)).length : Int)), .bool (leafT (wordL (rs s k))).isSome])) W') := by
    intro W' hb'
    refine ⟨hb', _, _, _, _, _, _, _, rfl, ?_⟩
    cases h : leafT (wordL (rs s k)) with
    | none => exact .inr ⟨rfl, leaf_no hb h⟩
    | some p =>
      obtain ⟨kd, q⟩ := p
      obtain ⟨f1, f2⟩ := leaf_refd h m
      have hq := leaf_len h
      refine .inl ⟨rfl, ((kd, q), []), r, f1, by rw [f2]; exact e, fun _ => hE, by rw [f2]; push_cast; rfl, leaf_at _ _ (by show q.length < _; omega) m⟩
  generalize wordL (rs s k) = wd at W1 L1 HP hwl
  generalize ((leafT wd).getD (0, [])).1 = kd at L1 HP
  generalize ((leafT wd).getD (0, [])).2 = q at L1 HP
  generalize (leafT wd).isSome = ok at L1 HP
  clear e hP hE hb
  go_enter Tryz.func28, Tryz.ntmps28
  go_upto_region 5 with (first
    | (go_at_call 48; (with_reducible refine Calls.mono (B1 _) ?_); rintro e' w' ⟨rfl, rfl⟩)
    | (go_at_call 49; (with_reducible refine Calls.mono (W1 _) ?_); rintro e' w' ⟨rfl, rfl⟩)
    | (go_at_call 50; (with_reducible refine Calls.mono (L1 _) ?_); rintro e' w1 ⟨rfl, hb1⟩))
  obtain ⟨W0, hW0, hbW0, hsW0, hres⟩ := res_at w
  rw [← hW0] at hb1
  obtain ⟨U, hU, hbU, hsU, u0, u1, u2⟩ := cells_box w1 (.int .i64 kd) (strV q) (.slice none 0 0) 25
  rw [← hU]
  have hbU2 := hb1.trans (hbU.mono hb1.size)
  obtain ⟨resU, hwU⟩ := hres U hbU2
  obtain ⟨r0, r1, r2⟩ := heap_cells resU
  have g0 := heap_frozen (o := 0) resU
  have g1 := heap_frozen (o := 1) resU
  have g2 := heap_frozen (o := 2) resU
  have hz1 : w.heap.size < w1.heap.size := by have := hb1.size; omega
  have nz : ¬ w1.heap.size = w.heap.size := by omega
  clear hU hW0 hres hb1 hbU hbU2 hsU hsW0 hbW0 B1 W1 L1
  generalize hz : w.heap.size = z at r0 r1 r2 g0 g1 g2 resU hwU hz1 nz ⊢
  have HZ : Hid (w.heap.size = z) := hz
  clear hz
  generalize w1.heap.size = z1 at u0 u1 u2 hz1 nz ⊢
  go_wp2
  obtain ⟨W', hW', hz', hoth, hsz, hbz'⟩ := store3 resU (.int .i64 kd) (strV q) (.slice none 0 0)
  rw [← hW']
  obtain ⟨s0, s1, s2⟩ := heap_cells hz'
  refine bodyPost_ret (v := .tuple #[.agg #[.int .i64 kd, strV q, .slice none 0 0], .int .i64 ((k : Int) + (wd.length : Int)), .bool ok]) (by simp [results, Tryz.results28, go_sem, s0, s1, s2]) rfl ?_
  exact HP.out W' (by rw [HZ.out]; exact hwU.trans hbz')

theorem rs_open {s : ByteArray} {k : Nat} (hb : begB [40] (rs s k) = true) : k < s.size ∧ rs s k = 40 :: rs s (k + 1) := by
  obtain ⟨q, hq⟩ := beg_one hb
  have hl := rs_len s k
  have hlt : k < s.size := by rw [hq] at hl; simp at hl; omega
  refine ⟨hlt, ?_⟩
  rw [rs_cons hlt] at hq ⊢
  rw [(List.cons.inj hq).1]
theorem rs_after {s : ByteArray} {k : Nat} {a r : List UInt8} (h : rs s k = a ++ r) : rs s (k + a.length) = r ∧ (k ≤ s.size → k + a.length ≤ s.size) := by
  have h1 := rs_len s k
  rw [h, List.length_append] at h1
  exact ⟨by rw [← rs_drop, h, List.drop_left], fun hk => by omega⟩
/-- The word behind a bracket, and what stands behind that. -/
theorem word_at (s : ByteArray) (k : Nat) (hk : k ≤ s.size) : rs s k = wordL (rs s k) ++ rs s (k + (wordL (rs s k)).length) ∧ (∀ c ∈ wordL (rs s k), endB c = false) ∧ Ends (rs s (k + (wordL (rs s k)).length)) ∧ k + (wordL (rs s k)).length ≤ s.size := by
  obtain ⟨r, e, hP, hE⟩ := word_split (rs s k)
  obtain ⟨h1, h2⟩ := rs_after e
  rw [h1]
  exact ⟨e, hP, hE, h2 hk⟩
set_option maxHeartbeats 8000000 in
set_option maxRecDepth 10000 in
theorem read_data (m : Nat) (IH : ∀ (s : ByteArray) (k : Nat) (w : World), s.size ≤ 65536 → k ≤ s.size → s.size - k < m → Calls Tryz.prog 28 #[.string s, .int .i64 k] w (RdPost w (rs s k) k m))
    (s : ByteArray) (k : Nat) (w : World) (hs : s.size ≤ 65536) (hk : k ≤ s.size) (hm : s.size - k < m + 1) (hb : begB [40] (rs s k) = true) (hd : dataB (wordL (rs s (k + 1))) = true) (hn : begB [32, 45, 62, 32] (rs s (k + 1 + (wordL (rs s (k + 1))).length)) = false) :
    Calls Tryz.prog 28 #[.string s, .int .i64 k] w (RdPost w (rs s k) k (m + 1)) := by
  obtain ⟨hlt, hl⟩ := rs_open hb
  obtain ⟨e, hP, hE, hle⟩ := word_at s (k + 1) hlt
  have B1 := fun W => ref_begins s ⟨#[40]⟩ k W hs hk (by show (1 : Nat) ≤ 10; omega)
  rw [show (⟨#[40]⟩ : ByteArray).data.toList = [40] from rfl, hb] at B1
  have W1 := fun W => ref_word s (k + 1) W hs hlt
  have D1 := fun W => ref_data ⟨(wordL (rs s (k + 1))).toArray⟩ W (by show (wordL (rs s (k + 1))).toArray.size < _; simp; omega)
  rw [show (⟨(wordL (rs s (k + 1))).toArray⟩ : ByteArray).data.toList = wordL (rs s (k + 1)) by simp, hd] at D1
  have B2 := fun W => ref_begins s ⟨#[32, 45, 62, 32]⟩ (k + 1 + (wordL (rs s (k + 1))).length) W hs hle (by show (4 : Nat) ≤ 10; omega)
  rw [show (⟨#[32, 45, 62, 32]⟩ : ByteArray).data.toList = [32, 45, 62, 32] from rfl, hn] at B2
  have R1 := fun W => rest_any m IH s (k + 1 + (wordL (rs s (k + 1))).length) (wordL (rs s (k + 1))) W hs hle (by omega) (by omega)
  have HP' : Hid (∀ (w0 w1 W' : World) (kd : Int) (nm : ByteArray) (ad : Option Addr) (len cap : Nat) (n : Int) (ok : Bool), Below w.heap.size w W' → w.heap.size < w0.heap.size → w1.heap.size ≤ W'.heap.size → (∀ g, g ≠ w.heap.size → g < w1.heap.size → W'.heap[g]? = w1.heap[g]?) →
      ((ok = true ∧ RtOk w0 w1 (rs s (k + 1 + (wordL (rs s (k + 1))).length)) (wordL (rs s (k + 1))) (k + 1 + (wordL (rs s (k + 1))).length) m (.agg #[.int .i64 kd, .string nm, .slice ad len cap]) n) ∨ (ok = false ∧ RtNo (rs s (k + 1 + (wordL (rs s (k + 1))).length)))) →
      RdPost w (rs s k) k (m + 1) (.returned (.tuple #[.agg #[.int .i64 kd, .string nm, .slice ad len cap], .int .i64 n, .bool ok])) W') := by
    intro w0 w1 W' kd nm ad len cap n ok hbW hz hsz hoth hcase
    refine ⟨hbW, kd, nm, ad, len, cap, n, ok, rfl, ?_⟩
    rcases hcase with ⟨hok, ts, r, t0, t6, tf, tl, tn, tT⟩ | ⟨hok, hno⟩
    · refine .inl ⟨hok, ((4, wordL (rs s (k + 1))), ts), r, ?_, ?_, ?_, ?_, ?_⟩
      · rw [form_succ]
        simp [okB, hd, t6]
        exact tf
      · cases ts with
        | nil => exact absurd rfl t0
        | cons x xs =>
          rw [text_data, hl]
          conv => lhs; rw [e]
          rw [tl]
          simp
      · intro lf
        cases ts with
        | nil => exact absurd rfl t0
        | cons x xs =>
          have := lf.2.1 40 (by rw [text_data]; simp)
          cases this
      · cases ts with
        | nil => exact absurd rfl t0
        | cons x xs =>
          rw [tn, text_data]
          simp
          omega
      · refine TyS.on (S := fun g => w0.heap.size ≤ g ∧ g < w1.heap.size) (fun g q => ⟨by omega, by omega⟩) (fun g q => hoth g (by omega) q.2) _ _ _ tT
    · refine .inr ⟨hok, fun d t r hf hl' hE' => ?_⟩
      rw [hl] at hl'
      obtain ⟨e2, ts, t0, t6, tf, tl⟩ := open_data hf hl' e hE hd hn
      exact hno e2 ts r t0 t6 tf tl
  have hwl : (wordL (rs s (k + 1))).length ≤ 65536 := by omega
  generalize wordL (rs s (k + 1)) = wd at *
  have e1 : ((k + 1 : Nat) : Int) = (k : Int) + 1 := by omega
  have e2 : ((k + 1 + wd.length : Nat) : Int) = (k : Int) + 1 + (wd.length : Int) := by omega
  rw [e1] at W1
  rw [e2] at B2 R1
  clear e hP hE hd hn hb hl IH
  go_enter Tryz.func28, Tryz.ntmps28
  go_upto_region 10 with (first
    | (go_at_call_of 48 (⟨#[40]⟩ : ByteArray); (with_reducible refine Calls.mono (B1 _) ?_); rintro e' w' ⟨rfl, rfl⟩)
    | (go_at_call 49; (with_reducible refine Calls.mono (W1 _) ?_); rintro e' w' ⟨rfl, rfl⟩)
    | (go_at_call 51; (with_reducible refine Calls.mono (D1 _) ?_); rintro e' w' ⟨rfl, rfl⟩)
    | (go_at_call 48; (with_reducible refine Calls.mono (B2 _) ?_); rintro e' w' ⟨rfl, rfl⟩))
  obtain ⟨W0, hW0, hbW0, hsW0, hres⟩ := res_at w
  rw [← hW0]
  have HW0 : Hid (W0.heap.size = w.heap.size + 1) := hsW0
  have R2 := R1 W0
  have HR : Hid (∀ U, Below W0.heap.size W0 U → U.heap[w.heap.size]? = some (.cells #[.int .i64 0, .string ⟨#[]⟩, .slice none 0 0] 25 (0, 0)) ∧ Below w.heap.size w U) := hres
  generalize hz : w.heap.size = z at *
  clear hres hW0 hbW0 hsW0 R1 B1 B2 W1 D1
  have HZ : Hid (w.heap.size = z) := hz
  clear hz
  go_wp2_with (go_at_call 52; (with_reducible refine Calls.mono R2 ?_); intro e' w1 hpost; obtain ⟨hb1, kd, nm, ad, len, cap, n, ok, rfl, hcase⟩ := hpost; obtain ⟨resU, hwU⟩ := HR.out w1 hb1; obtain ⟨r0, r1, r2⟩ := heap_cells resU; have g0 := heap_frozen (o := 0) resU; have g1 := heap_frozen (o := 1) resU; have g2 := heap_frozen (o := 2) resU)
  obtain ⟨W', hW', hz', hoth, hsz, hbz'⟩ := store3 resU (.int .i64 kd) (.string nm) (.slice ad len cap)
  rw [← hW']
  obtain ⟨s0, s1, s2⟩ := heap_cells hz'
  refine bodyPost_ret (v := .tuple #[.agg #[.int .i64 kd, .string nm, .slice ad len cap], .int .i64 n, .bool ok]) (by simp [results, Tryz.results28, go_sem, s0, s1, s2]) rfl ?_
  exact HP'.out W0 w1 W' kd nm ad len cap n ok (hwU.trans hbz') (by have := HW0.out; omega) (by omega) (fun g hg _ => hoth g hg) hcase

theorem six_refd {w : World} {b : Nat} {c0 c1 c2 c3 c4 c5 : Value} {t : TypeId} {fr : Nat × Nat} (h : w.heap[b]? = some (.cells #[c0, c1, c2, c3, c4, c5] t fr)) : w.cell? ⟨b, 0, none⟩ = some c0 ∧ w.cell? ⟨b, 1, none⟩ = some c1 ∧ w.cell? ⟨b, 2, none⟩ = some c2 ∧ w.cell? ⟨b, 3, none⟩ = some c3 ∧ w.cell? ⟨b, 4, none⟩ = some c4 ∧ w.cell? ⟨b, 5, none⟩ = some c5 := by
  refine ⟨?_, ?_, ?_, ?_, ?_, ?_⟩ <;> (simp only [World.cell?, h]; rfl)
/-- A function's type of two that were read, in a row of its own. -/
theorem fun_at {w : World} {S : Nat → Prop} {m g : Nat} {ka kb : Int} {na nb : ByteArray} {ua ub : Value} {a b : Tn m} {t : TypeId} (hg : S g) (h : w.heap[g]? = some (.cells #[.int .i64 ka, .string na, ua, .int .i64 kb, .string nb, ub] t (0, 0)))
    (ha : TyS w S m (.agg #[.int .i64 ka, .string na, ua]) a) (hb : TyS w S m (.agg #[.int .i64 kb, .string nb, ub]) b) : TyS w S (m + 1) (.agg #[.int .i64 3, .string ⟨#[]⟩, .slice (some ⟨g, 0, none⟩) 2 2]) ((3, []), [a, b]) := by
  obtain ⟨h0, h1, h2, h3, h4, h5⟩ := six_refd h
  refine ⟨_, rfl, by simp, by simp, .inr ⟨g, 0, 2, rfl, by simp, by simp, hg, fun j hj => ?_⟩⟩
  match j, hj with
  | 0, _ => exact ⟨ka, na, ua, h0, h1, h2, ha⟩
  | 1, _ => exact ⟨kb, nb, ub, h3, h4, h5, hb⟩
set_option maxHeartbeats 8000000 in
set_option maxRecDepth 10000 in
theorem read_fun (m : Nat) (IH : ∀ (s : ByteArray) (k : Nat) (w : World), s.size ≤ 65536 → k ≤ s.size → s.size - k < m → Calls Tryz.prog 28 #[.string s, .int .i64 k] w (RdPost w (rs s k) k m))
    (s : ByteArray) (k : Nat) (w : World) (hs : s.size ≤ 65536) (hk : k ≤ s.size) (hm : s.size - k < m + 1) (hb : begB [40] (rs s k) = true) (hdf : dataB (wordL (rs s (k + 1))) = true → begB [32, 45, 62, 32] (rs s (k + 1 + (wordL (rs s (k + 1))).length)) = true) :
    Calls Tryz.prog 28 #[.string s, .int .i64 k] w (RdPost w (rs s k) k (m + 1)) := by
  obtain ⟨hlt, hl⟩ := rs_open hb
  obtain ⟨e, hP, hE, hle⟩ := word_at s (k + 1) hlt
  have B1 := fun W => ref_begins s ⟨#[40]⟩ k W hs hk (by show (1 : Nat) ≤ 10; omega)
  rw [show (⟨#[40]⟩ : ByteArray).data.toList = [40] from rfl, hb] at B1
  have W1 := fun W => ref_word s (k + 1) W hs hlt
  have D1 := fun W => ref_data ⟨(wordL (rs s (k + 1))).toArray⟩ W (by show (wordL (rs s (k + 1))).toArray.size < _; simp; omega)
  rw [show (⟨(wordL (rs s (k + 1))).toArray⟩ : ByteArray).data.toList = wordL (rs s (k + 1)) by simp] at D1
  have BA := fun (j : Nat) (hj : j ≤ s.size) W => ref_begins s ⟨#[32, 45, 62, 32]⟩ j W hs hj (by show (4 : Nat) ≤ 10; omega)
  rw [show (⟨#[32, 45, 62, 32]⟩ : ByteArray).data.toList = [32, 45, 62, 32] from rfl] at BA
  have BS := fun (j : Nat) (hj : j ≤ s.size) W => ref_begins s ⟨#[41]⟩ j W hs hj (by show (1 : Nat) ≤ 10; omega)
  rw [show (⟨#[41]⟩ : ByteArray).data.toList = [41] from rfl] at BS
  have B2 := BA _ hle
  have OF : Hid (∀ d (t : Tn d) r, formB d t = true → rs s k = textT d t ++ r → ∃ (e : Nat) (a b : Tn e), formB e a = true ∧ formB e b = true ∧ rs s (k + 1) = textT e a ++ ([32, 45, 62, 32] ++ (textT e b ++ 41 :: r))) := fun d t r hf h => by
    rw [hl] at h
    exact open_fun hf h e hE hP hdf
  have R1 := fun W => IH s (k + 1) W hs hlt (by omega)
  have RB := fun j (h1 : j ≤ s.size) (h2 : k < j) W => IH s j W hs h1 (by omega)
  have hwl : (wordL (rs s (k + 1))).length ≤ 65536 := by omega
  generalize dataB (wordL (rs s (k + 1))) = da at *
  generalize begB [32, 45, 62, 32] (rs s (k + 1 + (wordL (rs s (k + 1))).length)) = fu at *
  generalize wordL (rs s (k + 1)) = wd at *
  have e1 : ((k + 1 : Nat) : Int) = (k : Int) + 1 := by omega
  have e2 : ((k + 1 + wd.length : Nat) : Int) = (k : Int) + 1 + (wd.length : Int) := by omega
  rw [e1] at W1 R1
  rw [e2] at B2
  have HL : Hid (rs s k = 40 :: rs s (k + 1)) := hl
  clear e hP hE hb hl IH
  obtain ⟨W0, hW0, hbW0, hsW0, hres⟩ := res_at w
  have HW0 : Hid (W0.heap.size = w.heap.size + 1) := hsW0
  have HR : Hid (∀ U, Below W0.heap.size W0 U → U.heap[w.heap.size]? = some (.cells #[.int .i64 0, .string ⟨#[]⟩, .slice none 0 0] 25 (0, 0)) ∧ Below w.heap.size w U) := hres
  go_enter Tryz.func28, Tryz.ntmps28
  go_upto_region 9 with (first
    | (go_at_call_of 48 (⟨#[40]⟩ : ByteArray); (with_reducible refine Calls.mono (B1 _) ?_); rintro e' w' ⟨rfl, rfl⟩)
    | (go_at_call 49; (with_reducible refine Calls.mono (W1 _) ?_); rintro e' w' ⟨rfl, rfl⟩)
    | (go_at_call 51; (with_reducible refine Calls.mono (D1 _) ?_); rintro e' w' ⟨rfl, rfl⟩)
    | (go_at_call 48; (with_reducible refine Calls.mono (B2 _) ?_); rintro e' w' ⟨rfl, rfl⟩))
  rw [← hW0]
  generalize hz : w.heap.size = z at *
  have HZ : Hid (w.heap.size = z) := hz
  have HX : Hid (da = true → fu = true) := hdf
  clear hz hres hW0 hsW0 hbW0 B1 W1 D1 B2 hdf
  go_cut [58] from 22 (fun b wc => b = .bool false ∧ wc = W0)
  case first =>
    cases da
    · go_wp2
      go_meet
      exact ⟨rfl, rfl⟩
    · have hfu : fu = true := HX.out rfl
      subst hfu
      go_wp2
      go_meet
      exact ⟨rfl, rfl⟩
  case rest =>
    obtain ⟨rfl, rfl⟩ := hcut
    have RA := R1 wc
    clear R1 hwl
    go_upto_region 12 with (first
      | (go_at_call 28; (with_reducible refine Calls.mono RA ?_); intro e' w1 hpost; obtain ⟨hb1, ka, na, ada, lena, capa, n1, one, rfl, hcase⟩ := hpost))
    obtain ⟨U, hU, hbU, hsU, u0, u1, u2⟩ := cells_box w1 (.int .i64 ka) (.string na) (.slice ada lena capa) 25
    rw [← hU]
    have hbU2 := hb1.trans (hbU.mono hb1.size)
    obtain ⟨resU, hwU⟩ := HR.out U hbU2
    obtain ⟨r0, r1, r2⟩ := heap_cells resU
    have g0 := heap_frozen (o := 0) resU
    have g1 := heap_frozen (o := 1) resU
    have g2 := heap_frozen (o := 2) resU
    have hz1 : z < w1.heap.size := by have := hb1.size; have := HW0.out; omega
    have HS1 : Hid (U.heap.size = w1.heap.size + 1) := hsU
    have HU1 : Hid (∀ g, g < w1.heap.size → U.heap[g]? = w1.heap[g]?) := fun g hg => hbU.block g hg
    have HB1 : Hid (Below wc.heap.size wc U) := hbU2
    have HC1 : Hid (wc.heap.size ≤ w1.heap.size) := hb1.size
    clear hU hsU hb1 hbU hbU2 RA
    generalize hq1 : w1.heap.size = z1 at u0 u1 u2 hz1 ⊢
    have HQ1 : Hid (w1.heap.size = z1) := hq1
    have nz1 : ¬ z1 = z := by omega
    have hzU : z1 < U.heap.size := by have := HS1.out; omega
    clear hq1
    rcases hcase with ⟨rfl, hok⟩ | ⟨rfl, hno⟩
    · obtain ⟨ta, ra, fa, la, Ea, rfl, Ta⟩ := hok
      obtain ⟨hra, hj1⟩ := rs_after la
      have hj1 := hj1 hlt
      have B3 := BA _ hj1
      rw [hra] at B3
      have HTa : Hid (TyS w1 (fun g => wc.heap.size ≤ g ∧ g < w1.heap.size) m (.agg #[.int .i64 ka, .string na, .slice ada lena capa]) ta) := Ta
      generalize hj : k + 1 + (textT m ta).length = j1 at *
      have HJ1 : Hid (k + 1 + (textT m ta).length = j1) := hj
      have HA : Hid (∀ d (t : Tn d) r, formB d t = true → rs s k = textT d t ++ r → ∃ (e : Nat) (b : Tn e), formB e b = true ∧ ra = [32, 45, 62, 32] ++ (textT e b ++ 41 :: r)) := by
        intro d t r hf h
        obtain ⟨e, a, b, f1, f2, hl1⟩ := OF.out d t r hf h
        have hE2 : Ends ([32, 45, 62, 32] ++ (textT e b ++ 41 :: r)) := ends_cons rfl
        have := text_inj2 m ta e a ra ([32, 45, 62, 32] ++ (textT e b ++ 41 :: r)) fa f1 Ea (fun _ => hE2) (by rw [← la, hl1])
        exact ⟨e, b, f2, this.2⟩
      have HLA : Hid (rs s (k + 1) = textT m ta ++ ra ∧ formB m ta = true) := ⟨la, fa⟩
      have hkj : k < j1 := by omega
      clear la Ea Ta hj fa
      cases hbb : begB [32, 45, 62, 32] ra with
      | false =>
        rw [hbb] at B3
        have HN : Hid (RdNo (rs s k)) := by
          intro d t r hf h _
          obtain ⟨e, b, _, hr⟩ := HA.out d t r hf h
          rw [hr, beg_self] at hbb
          cases hbb
        have HWU := hwU
        clear BA BS RB hbb
        go_wp2_with (first | (go_at_call 48; (with_reducible refine Calls.mono (B3 _) ?_); rintro e' w' ⟨rfl, rfl⟩))
        obtain ⟨W', hW', hz', hoth, hsz, hbz'⟩ := store3 resU (.int .i64 0) (.string ⟨#[]⟩) (.slice none 0 0)
        rw [← hW']
        obtain ⟨s0, s1, s2⟩ := heap_cells hz'
        refine bodyPost_ret (v := .tuple #[.agg #[.int .i64 0, .string ⟨#[]⟩, .slice none 0 0], .int .i64 k, .bool false]) (by simp [results, Tryz.results28, go_sem, s0, s1, s2]) rfl ?_
        exact ⟨by rw [HZ.out]; exact HWU.trans hbz', _, _, _, _, _, _, false, rfl, .inr ⟨rfl, HN.out⟩⟩
      | true =>
        rw [hbb] at B3
        obtain ⟨r2', hr2⟩ := beg_arrow hbb
        obtain ⟨hrr, hj2⟩ := rs_after (hra.trans hr2)
        have hj2 := hj2 hj1
        have e4 : j1 + ([32, 45, 62, 32] : List UInt8).length = j1 + 4 := rfl
        rw [e4] at hrr hj2
        have RBB := RB (j1 + 4) hj2 (by omega) U
        rw [hrr] at RBB
        have e5 : ((j1 + 4 : Nat) : Int) = (j1 : Int) + 4 := by omega
        rw [e5] at RBB
        clear BA RB hbb
        go_upto_region 16 with (first
          | (go_at_call 48; (with_reducible refine Calls.mono (B3 _) ?_); rintro e' w' ⟨rfl, hw'⟩; rw [hw']; clear hw' w')
          | (go_at_call 28; (with_reducible refine Calls.mono RBB ?_); intro e' w2 hpost; obtain ⟨hb2, kb, nb, adb, lenb, capb, n2, two, rfl, hcase⟩ := hpost))
        obtain ⟨V, hV, hbV, hsV, v0, v1, v2⟩ := cells_box w2 (.int .i64 kb) (.string nb) (.slice adb lenb capb) 25
        rw [← hV]
        have hbV2 := hb2.trans (hbV.mono hb2.size)
        have hcV : Below wc.heap.size wc V := HB1.out.trans (hbV2.mono HB1.out.size)
        obtain ⟨resV, hwV⟩ := HR.out V hcV
        obtain ⟨p0, p1, p2⟩ := heap_cells resV
        have f0 := heap_frozen (o := 0) resV
        have f1 := heap_frozen (o := 1) resV
        have f2 := heap_frozen (o := 2) resV
        have q0 := (hbV2.cell (p := ⟨z1, 0, none⟩) hzU).trans u0
        have q1 := (hbV2.cell (p := ⟨z1, 1, none⟩) hzU).trans u1
        have q2 := (hbV2.cell (p := ⟨z1, 2, none⟩) hzU).trans u2
        have hz2 : z1 < w2.heap.size := by have := hb2.size; omega
        have HV2 : Hid (∀ g, g < w2.heap.size → V.heap[g]? = w2.heap[g]?) := fun g hg => hbV.block g hg
        have HVU : Hid (∀ g, g < U.heap.size → V.heap[g]? = U.heap[g]?) := fun g hg => hbV2.block g hg
        have HS2 : Hid (V.heap.size = w2.heap.size + 1) := hsV
        have HC2 : Hid (U.heap.size ≤ w2.heap.size) := hb2.size
        generalize hq2 : w2.heap.size = z2 at v0 v1 v2 hz2 ⊢
        have HQ2 : Hid (w2.heap.size = z2) := hq2
        have nz2 : ¬ z2 = z := by omega
        have nz3 : ¬ z2 = z1 := by omega
        have hzV : z2 < V.heap.size := by have := HS2.out; omega
        clear hV hsV hb2 hbV hbV2 hcV hq2 RBB B3 u0 u1 u2 r0 r1 r2 g0 g1 g2 resU hwU
        rcases hcase with ⟨rfl, hok⟩ | ⟨rfl, hno⟩
        · obtain ⟨tb, rb, fb, lb, Eb, rfl, Tb⟩ := hok
          obtain ⟨hrb, hj3⟩ := rs_after (hrr.trans lb)
          have hj3 := hj3 hj2
          have B4 := BS _ hj3
          rw [hrb] at B4
          have HTb : Hid (TyS w2 (fun g => U.heap.size ≤ g ∧ g < w2.heap.size) m (.agg #[.int .i64 kb, .string nb, .slice adb lenb capb]) tb) := Tb
          generalize hj : j1 + 4 + (textT m tb).length = j3 at *
          have HJ3 : Hid (j1 + 4 + (textT m tb).length = j3) := hj
          have HLB : Hid (r2' = textT m tb ++ rb ∧ formB m tb = true ∧ ra = [32, 45, 62, 32] ++ r2') := ⟨lb, fb, hr2⟩
          have HBb : Hid (∀ d (t : Tn d) r, formB d t = true → rs s k = textT d t ++ r → rb = 41 :: r) := by
            intro d t r hf h
            obtain ⟨e, b, f2', hr⟩ := HA.out d t r hf h
            rw [hr2] at hr
            have hr := List.append_cancel_left hr
            have hE2 : Ends (41 :: r) := ends_cons rfl
            exact (text_inj2 m tb e b rb (41 :: r) fb f2' Eb (fun _ => hE2) (by rw [← lb, hr])).2
          clear lb Eb Tb hj fb
          cases hbb : begB [41] rb with
          | false =>
            rw [hbb] at B4
            have HN : Hid (RdNo (rs s k)) := by
              intro d t r hf h _
              rw [HBb.out d t r hf h] at hbb
              simp [begB] at hbb
            clear BS hbb
            go_wp2_with (first | (go_at_call 48; (with_reducible refine Calls.mono (B4 _) ?_); rintro e' w' ⟨rfl, rfl⟩))
            obtain ⟨W', hW', hz', hoth, hsz, hbz'⟩ := store3 resV (.int .i64 0) (.string ⟨#[]⟩) (.slice none 0 0)
            rw [← hW']
            obtain ⟨s0, s1, s2⟩ := heap_cells hz'
            refine bodyPost_ret (v := .tuple #[.agg #[.int .i64 0, .string ⟨#[]⟩, .slice none 0 0], .int .i64 k, .bool false]) (by simp [results, Tryz.results28, go_sem, s0, s1, s2]) rfl ?_
            exact ⟨by rw [HZ.out]; exact hwV.trans hbz', _, _, _, _, _, _, false, rfl, .inr ⟨rfl, HN.out⟩⟩
          | true =>
            rw [hbb] at B4
            obtain ⟨r4, hr4⟩ := beg_one hbb
            have hzV2 : z + 1 ≤ V.heap.size := by omega
            have hA := (Below.refl (z + 1) V).alloc hzV2 (Obj.cells #[.int .i64 ka, .string na, .slice ada lena capa, .int .i64 kb, .string nb, .slice adb lenb capb] 25)
            have resA := (hA.block z (by omega)).trans resV
            have heapA : (V.alloc (Obj.cells #[.int .i64 ka, .string na, .slice ada lena capa, .int .i64 kb, .string nb, .slice adb lenb capb] 25)).heap[V.heap.size]? = some (.cells #[.int .i64 ka, .string na, .slice ada lena capa, .int .i64 kb, .string nb, .slice adb lenb capb] 25 (0, 0)) := by
              show (V.heap.push _)[V.heap.size]? = _
              simp
            obtain ⟨a0, a1, a2⟩ := heap_cells resA
            have c0 := heap_frozen (o := 0) resA
            have c1 := heap_frozen (o := 1) resA
            have c2 := heap_frozen (o := 2) resA
            have HwA : Hid (Below z w (V.alloc (Obj.cells #[.int .i64 ka, .string na, .slice ada lena capa, .int .i64 kb, .string nb, .slice adb lenb capb] 25))) := hwV.trans (hA.mono (by omega))
            have HresA : Hid _ := resA
            have HheapA : Hid _ := heapA
            clear BS hbb hA resA heapA hwV
            go_wp2_with (first | (go_at_call 48; (with_reducible refine Calls.mono (B4 _) ?_); rintro e' w' ⟨rfl, hw'⟩; rw [hw']; clear hw' w'))
            obtain ⟨W', hW', hz', hoth, hsz, hbz'⟩ := store3 HresA.out (.int .i64 3) (.string ⟨#[]⟩) (.slice (some ⟨V.heap.size, 0, none⟩) 2 2)
            rw [← hW']
            obtain ⟨s0, s1, s2⟩ := heap_cells hz'
            refine bodyPost_ret (v := .tuple #[.agg #[.int .i64 3, .string ⟨#[]⟩, .slice (some ⟨V.heap.size, 0, none⟩) 2 2], .int .i64 ((j3 : Int) + 1), .bool true]) (by simp [results, Tryz.results28, go_sem, s0, s1, s2]) rfl ?_
            have hszW : W'.heap.size = V.heap.size + 1 := by rw [hsz]; simp
            have hWV : ∀ g, g ≠ z → g < V.heap.size → W'.heap[g]? = V.heap[g]? := fun g h1 h2 => (hoth g h1).trans (Below.heap_alloc _ _ _ h2)
            have HS1 := HS1.out
            have HC1 := HC1.out
            have HC2 := HC2.out
            have HS2 := HS2.out
            have HW0 := HW0.out
            refine ⟨by rw [HZ.out]; exact HwA.out.trans hbz', _, _, _, _, _, _, true, rfl, .inl ⟨rfl, ((3, []), [ta, tb]), r4, ?_, ?_, ?_, ?_, ?_⟩⟩
            · rw [form_succ]
              simp [okB, HLA.out.2, HLB.out.2.1]
            · rw [HL.out, HLA.out.1, HLB.out.2.2, HLB.out.1, hr4, text_fun]
              simp
            · intro lf
              have := lf.2.1 40 (by rw [text_fun]; simp)
              cases this
            · rw [text_fun]
              have h1 := HJ1.out
              have h3 := HJ3.out
              simp
              omega
            · refine fun_at (g := V.heap.size) ⟨by rw [HZ.out]; omega, by omega⟩ ((hoth _ (by omega)).trans HheapA.out) ?_ ?_
              · refine TyS.on (S := fun g => wc.heap.size ≤ g ∧ g < w1.heap.size) (fun g q => ⟨by rw [HZ.out]; omega, by omega⟩) (fun g q => ?_) _ _ _ HTa.out
                rw [hWV g (by omega) (by omega), HVU.out g (by omega), HU1.out g q.2]
              · refine TyS.on (S := fun g => U.heap.size ≤ g ∧ g < w2.heap.size) (fun g q => ⟨by rw [HZ.out]; omega, by omega⟩) (fun g q => ?_) _ _ _ HTb.out
                rw [hWV g (by omega) (by omega), HV2.out g q.2]
        · have HN : Hid (RdNo (rs s k)) := by
            intro d t r hf h _
            obtain ⟨e, b, f2', hr⟩ := HA.out d t r hf h
            rw [hr2] at hr
            have hr := List.append_cancel_left hr
            exact hno e b (41 :: r) f2' hr fun _ => ends_cons rfl
          clear hno BS
          go_wp2
          obtain ⟨W', hW', hz', hoth, hsz, hbz'⟩ := store3 resV (.int .i64 0) (.string ⟨#[]⟩) (.slice none 0 0)
          rw [← hW']
          obtain ⟨s0, s1, s2⟩ := heap_cells hz'
          refine bodyPost_ret (v := .tuple #[.agg #[.int .i64 0, .string ⟨#[]⟩, .slice none 0 0], .int .i64 k, .bool false]) (by simp [results, Tryz.results28, go_sem, s0, s1, s2]) rfl ?_
          exact ⟨by rw [HZ.out]; exact hwV.trans hbz', _, _, _, _, _, _, false, rfl, .inr ⟨rfl, HN.out⟩⟩
    · have HN : Hid (RdNo (rs s k)) := by
        intro d t r hf h _
        obtain ⟨e, a, b, f1, _, hl1⟩ := OF.out d t r hf h
        exact hno e a _ f1 hl1 fun _ => ends_cons rfl
      have HWU := hwU
      clear hno BA BS RB
      go_wp2
      obtain ⟨W', hW', hz', hoth, hsz, hbz'⟩ := store3 resU (.int .i64 0) (.string ⟨#[]⟩) (.slice none 0 0)
      rw [← hW']
      obtain ⟨s0, s1, s2⟩ := heap_cells hz'
      refine bodyPost_ret (v := .tuple #[.agg #[.int .i64 0, .string ⟨#[]⟩, .slice none 0 0], .int .i64 k, .bool false]) (by simp [results, Tryz.results28, go_sem, s0, s1, s2]) rfl ?_
      exact ⟨by rw [HZ.out]; exact HWU.trans hbz', _, _, _, _, _, _, false, rfl, .inr ⟨rfl, HN.out⟩⟩

theorem read_refd : ∀ (m : Nat) (s : ByteArray) (k : Nat) (w : World), s.size ≤ 65536 → k ≤ s.size → s.size - k < m → Calls Tryz.prog 28 #[.string s, .int .i64 k] w (RdPost w (rs s k) k m)
  | 0, _, _, _, _, _, h => by omega
  | m + 1, s, k, w, hs, hk, hm => by
    cases hb : begB [40] (rs s k) with
    | false => exact read_leaf m s k w hs hk hb
    | true =>
      cases hd : dataB (wordL (rs s (k + 1))) with
      | false => exact read_fun m (read_refd m) s k w hs hk hm hb (fun h => by rw [hd] at h; cases h)
      | true =>
        cases hn : begB [32, 45, 62, 32] (rs s (k + 1 + (wordL (rs s (k + 1))).length)) with
        | false => exact read_data m (read_refd m) s k w hs hk hm hb hd hn
        | true => exact read_fun m (read_refd m) s k w hs hk hm hb (fun _ => hn)
end Go.Proofs.YthcejnpknjepfaaGreat
