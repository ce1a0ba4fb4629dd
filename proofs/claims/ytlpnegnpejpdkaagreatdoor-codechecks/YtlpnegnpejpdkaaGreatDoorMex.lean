/- The document's Depths: plain facts of one instruction. The document's Depths, the walk. -/
import Derived.Test.YtlpnegnpejpdkaaGreatDoorMdx
import Derived.Test.YtlpnegnpejpdkaaGreatDoorXg
import Derived.Test.YtlpnegnpejpdkaaGreatDoorKn
namespace Go.Proofs.YtlpnegnpejpdkaaGreatDoor
open Go.RowKit

theorem reach_yes {ds : List Int} {k : Nat} {b : Int} (hk : k < ds.length) (h : ds.getD k 0 = 0 ∨ ds.getD k 0 = b) : reachP ds k b = (ds.set k b, true) := by
  unfold reachP
  by_cases h0 : ds.getD k 0 = 0
  · rw [if_pos h0]
  · rw [if_neg h0]
    have h1 : ds.getD k 0 = b := h.resolve_left h0
    have h2 : ds[k] = b := by
      rw [← h1]
      simp [List.getD, hk]
    have h3 : ds.set k b = ds := by rw [← h2]; exact List.set_getElem_self hk
    rw [h3, decide_eq_true h1]
theorem reach_no {ds : List Int} {k : Nat} {b : Int} (h0 : ds.getD k 0 ≠ 0) (h1 : ds.getD k 0 ≠ b) : (reachP ds k b).2 = false := by
  unfold reachP
  rw [if_neg h0]
  exact decide_eq_false h1
theorem tail_none {x : Ins} {es : List Int} {b : Int} (h : targetP x = none) : tailP x (es, true) b = (es, 0) := by
  unfold tailP
  rw [if_neg (by simp), h]
theorem tail_some {x : Ins} {es : List Int} {b : Int} {k : Nat} (h : targetP x = some (k : Int)) : tailP x (es, true) b = ((reachP es k b).1, if (reachP es k b).2 then 0 else 173) := by
  unfold tailP
  rw [if_neg (by simp), h]
  rfl
theorem target_cases {ns ng n i : Nat} {op a b : Int} (h : numP ns ng n i (op, a, b) = 0) : (∃ k : Nat, targetR op a b = (k : Int) ∧ i < k ∧ k < n ∧ targetP (op, a, b) = some (k : Int)) ∨ (targetR op a b = -1 ∧ targetP (op, a, b) = none) := by
  obtain ⟨ho, hto⟩ := num_ok h
  obtain ⟨o1, o2⟩ := op_range ho
  have hop : op = 1 ∨ op = 2 ∨ op = 3 ∨ op = 4 ∨ op = 5 ∨ op = 6 ∨ op = 7 ∨ op = 8 ∨ op = 9 ∨ op = 10 ∨ op = 11 ∨ op = 12 ∨ op = 13 ∨ op = 14 ∨ op = 15 ∨ op = 16 ∨ op = 17 := by omega
  have htp : (targetP (op, a, b) = some (targetR op a b)) ∨ (targetR op a b = -1 ∧ targetP (op, a, b) = none) := by
    clear h hto o1 o2 ho
    rcases hop with rfl | rfl | rfl | rfl | rfl | rfl | rfl | rfl | rfl | rfl | rfl | rfl | rfl | rfl | rfl | rfl | rfl <;> simp [targetP, kindA, kindB, kindsP, targetR]
  rcases htp with h1 | h1
  · obtain ⟨q1, q2⟩ := hto _ h1
    refine Or.inl ⟨(targetR op a b).toNat, by omega, by omega, by omega, ?_⟩
    rw [h1]
    congr 1
    omega
  · exact Or.inr h1
theorem num_right {ns ng n i : Nat} {op a b : Int} (h : numP ns ng n i (op, a, b) = 0) : numbersP ns ng op a b = true := by
  rw [numP_gen] at h
  cases hn : numbersP ns ng op a b with
  | true => rfl
  | false => rw [if_pos hn] at h; omega
/-- What one instruction says of the depths. -/
structure StepF (fs : List Int) (n i : Nat) (ds : List Int) (op a b d nx : Int) (R : Int) (G : List Int → Int) : Prop where
  zero : d = 0 → R = 174
  need : d ≠ 0 → (behindP fs (op, a, b) d).2 = false → R = 173
  much : d ≠ 0 → (behindP fs (op, a, b) d).2 = true → 8000 < nx → R = 173
  last : d ≠ 0 → (behindP fs (op, a, b) d).2 = true → nx ≤ 8000 → goesP op = true → i + 1 = n → R = 174
  next : d ≠ 0 → (behindP fs (op, a, b) d).2 = true → nx ≤ 8000 → goesP op = true → i + 1 < n → ds.getD (i + 1) 0 ≠ 0 → ds.getD (i + 1) 0 ≠ nx → R = 173
  goon : d ≠ 0 → (behindP fs (op, a, b) d).2 = true → nx ≤ 8000 → goesP op = true → i + 1 < n → (ds.getD (i + 1) 0 = 0 ∨ ds.getD (i + 1) 0 = nx) → (targetP (op, a, b) = none → R = G (ds.set (i + 1) nx)) ∧ ∀ k : Nat, k < n → targetP (op, a, b) = some (k : Int) → ((ds.set (i + 1) nx).getD k 0 ≠ 0 → (ds.set (i + 1) nx).getD k 0 ≠ nx → R = 173) ∧ (((ds.set (i + 1) nx).getD k 0 = 0 ∨ (ds.set (i + 1) nx).getD k 0 = nx) → R = G ((ds.set (i + 1) nx).set k nx))
  stop : d ≠ 0 → (behindP fs (op, a, b) d).2 = true → nx ≤ 8000 → goesP op = false → (targetP (op, a, b) = none → R = G ds) ∧ ∀ k : Nat, k < n → targetP (op, a, b) = some (k : Int) → (ds.getD k 0 ≠ 0 → ds.getD k 0 ≠ nx → R = 173) ∧ ((ds.getD k 0 = 0 ∨ ds.getD k 0 = nx) → R = G (ds.set k nx))
theorem step_facts {fs : List Int} {n i : Nat} {ds : List Int} {op a b : Int} {r : List Ins} (hl : ds.length = n) :
    StepF fs n i ds op a b (ds.getD i 0) (behindP fs (op, a, b) (ds.getD i 0)).1 (if (atP fs n ds i (op, a, b)).2 = 0 then flowP fs n (i + 1) r (atP fs n ds i (op, a, b)).1 else (atP fs n ds i (op, a, b)).2) (fun es => flowP fs n (i + 1) r es) := by
  have fine : (behindP fs (op, a, b) (ds.getD i 0)).2 = true → (behindP fs (op, a, b) (ds.getD i 0)).1 ≤ 8000 → ¬ ((behindP fs (op, a, b) (ds.getD i 0)).2 = false ∨ 8000 < (behindP fs (op, a, b) (ds.getD i 0)).1) := fun h1 h2 h => by
    rcases h with h | h
    · rw [h1] at h; cases h
    · omega
  refine ⟨fun h => ?_, fun h0 h => ?_, fun h0 h1 h => ?_, fun h0 h1 h2 hg he => ?_, fun h0 h1 h2 hg he q1 q2 => ?_, fun h0 h1 h2 hg he q => ⟨fun ht => ?_, fun k hk ht => ⟨fun s1 s2 => ?_, fun s => ?_⟩⟩, fun h0 h1 h2 hg => ⟨fun ht => ?_, fun k hk ht => ⟨fun s1 s2 => ?_, fun s => ?_⟩⟩⟩
  · rw [at_zero h]; rfl
  · rw [at_needs h0 (.inl h)]; rfl
  · rw [at_needs h0 (.inr h)]; rfl
  · rw [at_end h0 (fine h1 h2) hg he]; rfl
  · rw [at_tail h0 (fine h1 h2) (fun h => by omega)]
    unfold tailP
    rw [if_pos hg, if_pos (reach_no q1 q2)]
    rfl
  · rw [at_tail h0 (fine h1 h2) (fun h => by omega), if_pos hg, reach_yes (by omega) q, tail_none ht]
    rfl
  · rw [at_tail h0 (fine h1 h2) (fun h => by omega), if_pos hg, reach_yes (by omega) q, tail_some ht, reach_no s1 s2]
    rfl
  · rw [at_tail h0 (fine h1 h2) (fun h => by omega), if_pos hg, reach_yes (by omega) q, tail_some ht, reach_yes (by rw [List.length_set]; omega) s]
    rfl
  · rw [at_tail h0 (fine h1 h2) (fun h => by have h1 := h.1; rw [hg] at h1; cases h1), if_neg (show ¬ goesP (op, a, b).1 = true from fun e => by rw [hg] at e; cases e), tail_none ht]
    rfl
  · rw [at_tail h0 (fine h1 h2) (fun h => by have h1 := h.1; rw [hg] at h1; cases h1), if_neg (show ¬ goesP (op, a, b).1 = true from fun e => by rw [hg] at e; cases e), tail_some ht, reach_no s1 s2]
    rfl
  · rw [at_tail h0 (fine h1 h2) (fun h => by have h1 := h.1; rw [hg] at h1; cases h1), if_neg (show ¬ goesP (op, a, b).1 = true from fun e => by rw [hg] at e; cases e), tail_some ht, reach_yes (by omega) s]
    rfl
end Go.Proofs.YtlpnegnpejpdkaaGreatDoor

namespace Go.Proofs.YtlpnegnpejpdkaaGreatDoor
open Go.RowKit

theorem set_range {ds : List Int} {k : Nat} {b : Int} (h : ∀ j, 0 ≤ ds.getD j 0 ∧ ds.getD j 0 ≤ 8000) (h1 : 0 ≤ b) (h2 : b ≤ 8000) : ∀ j, 0 ≤ (ds.set k b).getD j 0 ∧ (ds.set k b).getD j 0 ≤ 8000 := by
  intro j
  by_cases hj : j = k
  · subst hj
    by_cases hl : j < ds.length
    · rw [getD_set_eq' hl]; exact ⟨h1, h2⟩
    · rw [show (ds.set j b) = ds from List.set_eq_of_length_le (by omega)]; exact h j
  · rw [getD_set_ne' hj]; exact h j
set_option maxHeartbeats 32000000 in
set_option maxRecDepth 10000 in
theorem depths_ref {w : World} {sa ga ca : Option Addr} {sc ng gc n cc : Nat} {nm : Byt} {ar : Int} {l : List Shp} {code : List Ins} (hs : RowE EShp w (fun y => y < w.heap.size) (fun y => y < w.heap.size) (.slice sa l.length sc) l) (hfs : ∀ k (h : k < l.length), 0 ≤ l[k].2 ∧ l[k].2 ≤ 8) (hc : RowE EIns w (fun y => y < w.heap.size) (fun _ => False) (.slice ca n cc) code) (hn : n = code.length) (hn1 : 0 < n) (hn8 : n ≤ 8000) (h0 : 0 ≤ ar) (h24 : ar ≤ 24) (hx : ∀ i (h : i < code.length), numP l.length ng n i code[i] = 0) (hxa : ∀ i (h : i < code.length), code[i].2.1 < 9223372036854775808) :
    Calls Tryz.prog 35 #[.agg #[.slice sa l.length sc, .slice ga ng gc], .agg #[.string ⟨nm.toArray⟩, .int .i64 ar, .slice ca n cc]] w fun r w' => ∃ v, r = .returned (.tuple #[v, .int .i64 (flowR (l.map fun s => s.2) ar code)]) ∧ Hid (Below w.heap.size w w') := by
  have HN : Hid (n = code.length) := hn
  obtain ⟨X, hX⟩ : ∃ X, X = w.heap.size := ⟨_, rfl⟩
  obtain ⟨Y, hY⟩ : ∃ Y, Y = w.heap.size + 1 := ⟨_, rfl⟩
  obtain ⟨W, hW⟩ : ∃ W, W = (w.alloc (.cells #[.slice sa l.length sc, .slice ga ng gc] 25)).alloc (.cells #[.string ⟨nm.toArray⟩, .int .i64 ar, .slice ca n cc] 51) := ⟨_, rfl⟩
  have b1 : Below w.heap.size w (w.alloc (.cells #[.slice sa l.length sc, .slice ga ng gc] 25)) := (Below.refl _ _).alloc (Nat.le_refl _) _
  have b2 : Below (w.alloc (.cells #[.slice sa l.length sc, .slice ga ng gc] 25)).heap.size (w.alloc (.cells #[.slice sa l.length sc, .slice ga ng gc] 25)) W := by rw [hW]; exact (Below.refl _ _).alloc (Nat.le_refl _) _
  have hs1 : (w.alloc (.cells #[.slice sa l.length sc, .slice ga ng gc] 25)).heap.size = w.heap.size + 1 := World.size_alloc _ _
  have hXW : W.heap[X]? = some (.cells #[.slice sa l.length sc, .slice ga ng gc] 25 (0, 0)) := by rw [b2.block X (by rw [hs1, hX]; omega), hX]; exact new_blk _ _
  have hYW : W.heap[Y]? = some (.cells #[.string ⟨nm.toArray⟩, .int .i64 ar, .slice ca n cc] 51 (0, 0)) := by rw [hW, hY, ← hs1]; exact new_blk _ _
  have hBW : Below w.heap.size w W := b1.trans (b2.mono b1.size)
  have HC : Hid (∀ w2, Below W.heap.size W w2 → (w2.cell? ⟨X, 0, none⟩ = some (.slice sa l.length sc) ∧ w2.cell? ⟨X, 1, none⟩ = some (.slice ga ng gc) ∧ w2.cell? ⟨Y, 1, none⟩ = some (.int .i64 ar) ∧ w2.cell? ⟨Y, 2, none⟩ = some (.slice ca n cc)) ∧ Below w.heap.size w w2 ∧ ∀ i (hi : i < code.length), ∃ g o, ca = some ⟨g, o, none⟩ ∧ n ≤ cc ∧ w2.cell? ⟨g, o + i * 3, none⟩ = some (.int .i64 code[i].1) ∧ w2.cell? ⟨g, o + i * 3 + 1, none⟩ = some (.int .i64 code[i].2.1) ∧ w2.cell? ⟨g, o + i * 3 + 2, none⟩ = some (.int .i64 code[i].2.2)) := fun w2 hb => by
    have hb0 := hBW.trans (hb.mono hBW.size)
    refine ⟨⟨heap_cl ((hb.block X (lt_heap hXW)).trans hXW) rfl, heap_cl ((hb.block X (lt_heap hXW)).trans hXW) rfl, heap_cl ((hb.block Y (lt_heap hYW)).trans hYW) rfl, heap_cl ((hb.block Y (lt_heap hYW)).trans hYW) rfl⟩, hb0, fun i hi => ?_⟩
    obtain ⟨ad, cap, e, hh⟩ := ins_at (hc.on (Keeps.of hb0 fun _ h => h) (fun _ h => h.elim) (fun _ h => h) fun _ h => h)
    obtain ⟨rfl, -, rfl⟩ := Value.slice.inj e
    obtain ⟨g, o, q1, _, q2, q3, q4, q5⟩ := hh i hi
    exact ⟨g, o, q1, by omega, q3, q4, q5⟩
  have HSR : Hid (∀ w2, Below w.heap.size w w2 → RowE EShp w2 (fun y => y < w2.heap.size) (fun y => y < w2.heap.size) (.slice sa l.length sc) l) := fun w2 hb => row_below hs hb
  have HXE : Hid (X = w.heap.size) := hX
  have HYE : Hid (Y = X + 1) := by show Y = X + 1; rw [hX, hY]
  have HFS : Hid (∀ k (h : k < l.length), 0 ≤ l[k].2 ∧ l[k].2 ≤ 8) := hfs
  have HFG : Hid (∀ k, 0 ≤ (l.map fun s => s.2).getD k 0) := fun k => by
    by_cases hk : k < l.length
    · rw [getD_map2 l k hk]; exact (hfs k hk).1
    · simp [List.getD, show l.length ≤ k by omega]
  have HX : Hid (∀ i (h : i < code.length), numP l.length ng n i code[i] = 0) := hx
  have HXA : Hid (∀ i (h : i < code.length), code[i].2.1 < 9223372036854775808) := hxa
  obtain ⟨R, hR⟩ : ∃ R, R = flowR (l.map fun s => s.2) ar code := ⟨_, rfl⟩
  rw [← hR]
  have HR0 : Hid (R = flowP (l.map fun s => s.2) n 0 (code.drop 0) ((List.replicate n 0).set 0 (ar + 1))) := by
    show R = _
    rw [hR]
    unfold flowR
    rw [if_neg (fun e => by rw [e] at hn; simp at hn; omega), hn]
    rfl
  have qmk := make_ints n hn8
  obtain ⟨F, hF⟩ : ∃ F : Ending → World → Prop, F = fun r w' => ∃ v, r = .returned (.tuple #[v, .int .i64 R]) ∧ Hid (Below w.heap.size w w') := ⟨_, rfl⟩
  rw [← hF]
  have HF : Hid (∀ v w', Below w.heap.size w w' → F (.returned (.tuple #[v, .int .i64 R])) w') := fun v w' hb => by rw [hF]; exact ⟨v, rfl, hb⟩
  obtain ⟨⟨x0, x1, y1, y2⟩, _, _⟩ := HC.out W (Below.refl _ _)
  clear hX hY b1 b2 hs1 hXW hYW hBW hs hfs hc hn hx hxa hR hF
  go_enter Tryz.func35, Tryz.ntmps35
  go_upto_region 1 with fail
  rw [← hW, ← HXE.out, ← HYE.out]
  clear hW
  go_upto_region 2 with fail
  clear qmk x0 x1 y1 y2
  obtain ⟨Q, hQ⟩ : ∃ Q, Q = W.heap.size := ⟨_, rfl⟩
  obtain ⟨W6, hW6⟩ : ∃ X, X = W.alloc (.cells (Array.replicate n (.int .i64 0)) 3) := ⟨_, rfl⟩
  have HD6 : Hid (Below Q W W6 ∧ DepAt W6 Q (List.replicate n 0)) := ⟨by rw [hW6, hQ]; exact (Below.refl _ _).alloc (Nat.le_refl _) _, by unfold DepAt; rw [rep_ints, hW6, hQ]; exact new_blk _ _⟩
  rw [← hQ, ← hW6]
  rw [← hQ] at HC
  clear hQ hW6
  obtain ⟨⟨x0, x1, y1, y2⟩, _, _⟩ := HC.out W6 HD6.out.1
  have q0 : W6.cell? ⟨Q, 0, none⟩ = some (.int .i64 0) := by
    have h := HD6.out.2.cell (i := 0) (by simpa using hn1)
    simpa [List.getD, hn1] using h
  have f0 : W6.frozen? ⟨Q, 0, none⟩ = false := HD6.out.2.frozen
  obtain ⟨ds0, hds⟩ : ∃ ds, ds = (List.replicate n (0 : Int)).set 0 (ar + 1) := ⟨_, rfl⟩
  have HD7 : Hid (Below Q W (W6.setCell ⟨Q, 0, none⟩ (.int .i64 (ar + 1))) ∧ DepAt (W6.setCell ⟨Q, 0, none⟩ (.int .i64 (ar + 1))) Q ds0 ∧ ds0.length = n ∧ ∀ j, 0 ≤ ds0.getD j 0 ∧ ds0.getD j 0 ≤ 8000) := by
    refine ⟨HD6.out.1.setCell (Nat.le_refl _) _, by rw [hds]; exact HD6.out.2.put 0 (ar + 1), by rw [hds]; simp, fun j => ?_⟩
    rw [hds]
    by_cases hj : j = 0
    · subst hj
      rw [getD_set_eq' (by simpa using hn1)]
      omega
    · rw [getD_set_ne' hj]
      simp only [List.getD]
      by_cases hlt : j < n <;> simp [hlt]
  rw [← hds] at HR0
  have i1 : (0 : Int) < (n : Int) := by omega
  clear HD6 hds
  go_upto_region 3 with fail
  obtain ⟨W7, hW7⟩ : ∃ X, X = W6.setCell ⟨Q, 0, none⟩ (.int .i64 (ar + 1)) := ⟨_, rfl⟩
  rw [← hW7] at HD7 ⊢
  clear hW7 q0 f0 x0 x1 y1 y2 i1
  obtain ⟨⟨x0, x1, y1, y2⟩, _, _⟩ := HC.out W7 HD7.out.1
  go_upto_region 4 with fail
  clear x0 x1 y1 y2
  go_loopw [7] (fun iv wr => ∃ (i : Nat) (ds : List Int), i ≤ n ∧ iv = .int .i64 i ∧ Hid (Below Q W wr ∧ DepAt wr Q ds ∧ ds.length = n ∧ ∀ j, 0 ≤ ds.getD j 0 ∧ ds.getD j 0 ≤ 8000) ∧ Hid (R = flowP (l.map fun s => s.2) n i (code.drop i) ds)) (fun iv _ => n - (intOf iv).toNat)
  case atStart => exact ⟨0, ds0, by omega, by go_num, HD7.out, HR0.out⟩
  case round =>
    clear HD7 HR0
    obtain ⟨i, ds, hi, rfl, HM, HT⟩ := hrel
    obtain ⟨⟨x0, x1, y1, y2⟩, HWr, hrow⟩ := HC.out wr HM.out.1
    replace HWr : Hid (Below w.heap.size w wr) := HWr
    by_cases hin : i < n
    case neg =>
      have HE : Hid (R = 0) := by
        show R = 0
        rw [HT.out, List.drop_eq_nil_of_le (by have := HN.out; omega)]
        rfl
      have e3 : ¬ ((i : Int) < (n : Int)) := by omega
      clear HT hrow
      have hfin := HF.out (.slice (some ⟨Q, 0, none⟩) n n) wr HWr.out
      rw [HE.out] at hfin
      go_wp2
      exact hfin
    have hic : i < code.length := by have := HN.out; omega
    obtain ⟨⟨op, a, b⟩, hxe⟩ : ∃ x, x = code[i] := ⟨_, rfl⟩
    obtain ⟨g, o, rfl, hcc, c0, c1, c2⟩ := hrow i hic
    have hnum := HX.out i hic
    have hsm := HXA.out i hic
    rw [← hxe] at c0 c1 c2 hnum hsm
    simp only at c0 c1 c2 hsm
    have i1 : (0 : Int) ≤ (i : Int) := by omega
    have i2 : (i : Int) < (n : Int) := by omega
    have HSF0 := step_facts (fs := l.map fun s => s.2) (n := n) (i := i) (ds := ds) (op := op) (a := a) (b := b) (r := code.drop (i + 1)) HM.out.2.2.1
    have hRe : R = (if (atP (l.map fun s => s.2) n ds i (op, a, b)).2 = 0 then flowP (l.map fun s => s.2) n (i + 1) (code.drop (i + 1)) (atP (l.map fun s => s.2) n ds i (op, a, b)).1 else (atP (l.map fun s => s.2) n ds i (op, a, b)).2) := by
      rw [HT.out, List.drop_eq_getElem_cons hic, hxe]
      rfl
    rw [← hRe] at HSF0
    obtain ⟨d, hd⟩ : ∃ d, d = ds.getD i 0 := ⟨_, rfl⟩
    rw [← hd] at HSF0
    obtain ⟨nx, hnx⟩ : ∃ nx, nx = (behindP (l.map fun s => s.2) (op, a, b) d).1 := ⟨_, rfl⟩
    rw [← hnx] at HSF0
    have HSF : Hid (StepF (l.map fun s => s.2) n i ds op a b d nx R (fun es => flowP (l.map fun s => s.2) n (i + 1) (code.drop (i + 1)) es)) := HSF0
    have HNX : Hid (nx = (behindP (l.map fun s => s.2) (op, a, b) d).1) := hnx
    have HNUM : Hid (numP l.length ng n i (op, a, b) = 0) := hnum
    have hd0 : 0 ≤ d ∧ d ≤ 8000 := by rw [hd]; exact HM.out.2.2.2 i
    have q0 : wr.cell? ⟨Q, i, none⟩ = some (.int .i64 d) := by rw [hd]; exact HM.out.2.1.cell (by rw [HM.out.2.2.1]; exact hin)
    clear hRe HSF0 hnx hnum hxe hrow HT hd
    go_upto_region 7 with fail
    obtain ⟨Z, hZ⟩ : ∃ Z, Z = wr.heap.size := ⟨_, rfl⟩
    obtain ⟨W8, hW8⟩ : ∃ W, W = wr.alloc (.cells #[.int .i64 op, .int .i64 a, .int .i64 b] 53) := ⟨_, rfl⟩
    rw [← hZ, ← hW8]
    have b8 : Below wr.heap.size wr W8 := by rw [hW8]; exact (Below.refl _ _).alloc (Nat.le_refl _) _
    have hQr : Q < wr.heap.size := HM.out.2.1.lt
    have hQZ : Z ≠ Q := by omega
    have M8 : Hid (W8.heap[Z]? = some (.cells #[.int .i64 op, .int .i64 a, .int .i64 b] 53 (0, 0)) ∧ Below Q W W8 ∧ DepAt W8 Q ds) := ⟨by rw [hW8, hZ]; exact new_blk _ _, HM.out.1.trans (b8.mono (Nat.le_of_lt hQr)), HM.out.2.1.on (b8.block Q hQr)⟩
    have HDS : Hid (ds.length = n ∧ ∀ j, 0 ≤ ds.getD j 0 ∧ ds.getD j 0 ≤ 8000) := HM.out.2.2
    have q0 : W8.cell? ⟨Q, i, none⟩ = some (.int .i64 d) := (cell_on (b8.block Q hQr) i).trans q0
    clear hZ hW8 b8 hQr HM HWr x0 x1 y1 y2 c0 c1 c2
    go_upto_region 8 with fail
    clear q0
    have fin : ∀ (w' : World), Below Q W w' → Hid (∀ v, F (.returned (.tuple #[v, .int .i64 R])) w') := fun w' hb v => HF.out v w' (HC.out w' hb).2.1
    have HFIN : Hid (∀ (w' : World), Below Q W w' → ∀ v, F (.returned (.tuple #[v, .int .i64 R])) w') := fun w' hb => fin w' hb
    clear fin
    by_cases hdz : d = 0
    · have HE : Hid (R = 174) := HSF.out.zero hdz
      have hfin := HFIN.out W8 M8.out.2.1 (.slice (some ⟨Q, 0, none⟩) n n)
      rw [HE.out] at hfin
      clear HSF HE
      go_wp2
      exact hfin
    have hd1 : 1 ≤ d := by omega
    have e0 : (d == 0) = false := by simpa using hdz
    obtain ⟨⟨x0, x1, y1, y2⟩, hw8, _⟩ := HC.out W8 M8.out.2.1
    have z0 : W8.cell? ⟨Z, 0, none⟩ = some (.int .i64 op) := heap_cl M8.out.1 rfl
    have z1 : W8.cell? ⟨Z, 1, none⟩ = some (.int .i64 a) := heap_cl M8.out.1 rfl
    have z2 : W8.cell? ⟨Z, 2, none⟩ = some (.int .i64 b) := heap_cl M8.out.1 rfl
    have CD := needs_gen (w := W8) (sa := sa) (ga := ga) (sc := sc) (gc := gc) (HSR.out W8 hw8) HFS.out (num_right HNUM.out) hd1 hd0.2 hsm
    obtain ⟨nb, hnb⟩ : ∃ nb, nb = (behindP (l.map fun s => s.2) (op, a, b) d).2 := ⟨_, rfl⟩
    rw [← hnb] at CD
    have HNB : Hid (nb = (behindP (l.map fun s => s.2) (op, a, b) d).2) := hnb
    clear hw8 hnb
    go_upto_region 11 with (go_at_call 75; (with_reducible refine Calls.mono CD ?_); rintro e9 w9 ⟨rfl, H9⟩)
    have hQ8 : Q < W8.heap.size := M8.out.2.2.lt
    have M9 : Hid (w9.heap[Z]? = some (.cells #[.int .i64 op, .int .i64 a, .int .i64 b] 53 (0, 0)) ∧ Below Q W w9 ∧ DepAt w9 Q ds) := ⟨(H9.out.block Z (lt_heap M8.out.1)).trans M8.out.1, M8.out.2.1.trans (H9.out.mono (Nat.le_of_lt hQ8)), M8.out.2.2.on (H9.out.block Q hQ8)⟩
    clear CD H9 hQ8 M8 x0 x1 y1 y2 z0 z1 z2
    by_cases hnb : nb = true
    case neg =>
      have hnb' : nb = false := by simpa using hnb
      have HE : Hid (R = 173) := HSF.out.need hdz (by rw [← HNB.out]; exact hnb')
      have hfin := HFIN.out w9 M9.out.2.1 (.slice (some ⟨Q, 0, none⟩) n n)
      rw [HE.out] at hfin
      clear HSF HE hnb HNB
      subst hnb'
      go_wp2
      exact hfin
    have HB2 : Hid ((behindP (l.map fun s => s.2) (op, a, b) d).2 = true) := by show _ = _; rw [← HNB.out]; exact hnb
    clear HNB
    subst hnb
    obtain ⟨⟨x0, x1, y1, y2⟩, hw9, _⟩ := HC.out w9 M9.out.2.1
    have z0 : w9.cell? ⟨Z, 0, none⟩ = some (.int .i64 op) := heap_cl M9.out.1 rfl
    have z1 : w9.cell? ⟨Z, 1, none⟩ = some (.int .i64 a) := heap_cl M9.out.1 rfl
    have z2 : w9.cell? ⟨Z, 2, none⟩ = some (.int .i64 b) := heap_cl M9.out.1 rfl
    have CB := behind_gen (w := w9) (sa := sa) (ga := ga) (sc := sc) (gc := gc) (HSR.out w9 hw9) HFS.out (num_right HNUM.out) hd1 hd0.2 HB2.out hsm
    rw [← HNX.out] at CB
    have hnx1 : 1 ≤ nx := by
      rw [HNX.out]
      exact behind_pos (ns := l.length) (ng := ng) (len := n) (i := i) hd1 HFG.out HNUM.out HB2.out
    clear hw9
    go_upto_region 14 with (go_at_call 76; (with_reducible refine Calls.mono CB ?_); rintro e10 w10 ⟨rfl, H10⟩)
    have hQ9 : Q < w9.heap.size := M9.out.2.2.lt
    have M10 : Hid (w10.heap[Z]? = some (.cells #[.int .i64 op, .int .i64 a, .int .i64 b] 53 (0, 0)) ∧ Below Q W w10 ∧ DepAt w10 Q ds) := ⟨(H10.out.block Z (lt_heap M9.out.1)).trans M9.out.1, M9.out.2.1.trans (H10.out.mono (Nat.le_of_lt hQ9)), M9.out.2.2.on (H10.out.block Q hQ9)⟩
    clear CB H10 hQ9 M9 x0 x1 y1 y2 z0 z1 z2
    by_cases hbig : 8000 < nx
    · have HE : Hid (R = 173) := HSF.out.much hdz HB2.out hbig
      have hfin := HFIN.out w10 M10.out.2.1 (.slice (some ⟨Q, 0, none⟩) n n)
      rw [HE.out] at hfin
      have e1 : nx > 8000 := hbig
      clear HSF HE
      go_wp2
      exact hfin
    have e1 : ¬ nx > 8000 := hbig
    have z0 : w10.cell? ⟨Z, 0, none⟩ = some (.int .i64 op) := heap_cl M10.out.1 rfl
    have z1 : w10.cell? ⟨Z, 1, none⟩ = some (.int .i64 a) := heap_cl M10.out.1 rfl
    have z2 : w10.cell? ⟨Z, 2, none⟩ = some (.int .i64 b) := heap_cl M10.out.1 rfl
    have CE := ends_gen (w := w10) (op := op) (a := a) (b := b)
    go_upto_region 17 with (go_at_call 77; (with_reducible refine Calls.mono CE ?_); rintro e11 w11 ⟨rfl, H11⟩)
    have hQ10 : Q < w10.heap.size := M10.out.2.2.lt
    have M11 : Hid (w11.heap[Z]? = some (.cells #[.int .i64 op, .int .i64 a, .int .i64 b] 53 (0, 0)) ∧ Below Q W w11 ∧ DepAt w11 Q ds) := ⟨(H11.out.block Z (lt_heap M10.out.1)).trans M10.out.1, M10.out.2.1.trans (H11.out.mono (Nat.le_of_lt hQ10)), M10.out.2.2.on (H11.out.block Q hQ10)⟩
    clear CE H11 hQ10 M10 z0 z1 z2
    have z0 : w11.cell? ⟨Z, 0, none⟩ = some (.int .i64 op) := heap_cl M11.out.1 rfl
    have z1 : w11.cell? ⟨Z, 1, none⟩ = some (.int .i64 a) := heap_cl M11.out.1 rfl
    have z2 : w11.cell? ⟨Z, 2, none⟩ = some (.int .i64 b) := heap_cl M11.out.1 rfl
    have CT := target_gen (w := w11) (op := op) (a := a) (b := b)
    have HTC : Hid ((∃ k : Nat, targetR op a b = (k : Int) ∧ i < k ∧ k < n ∧ targetP (op, a, b) = some (k : Int)) ∨ (targetR op a b = -1 ∧ targetP (op, a, b) = none)) := target_cases HNUM.out
    generalize targetR op a b = to at *
    have hge : (goesP op = true ∧ endsR op = false ∧ (op != 13) = true) ∨ (goesP op = false ∧ endsR op = true) ∨ (goesP op = false ∧ endsR op = false ∧ (op != 13) = false) := by
      by_cases h16 : op = 16
      · right; left; rw [h16]; exact ⟨rfl, rfl⟩
      · by_cases h17 : op = 17
        · right; left; rw [h17]; exact ⟨rfl, rfl⟩
        · by_cases h13 : op = 13
          · right; right; rw [h13]; exact ⟨rfl, rfl, rfl⟩
          · left; simp [goesP, endsR, h16, h17, h13]
    generalize endsR op = eb at *
    go_upto_region 18 with (go_at_call 74; (with_reducible refine Calls.mono CT ?_); rintro e12 w12 ⟨rfl, H12⟩)
    have hQ11 : Q < w11.heap.size := M11.out.2.2.lt
    have M12 : Hid (w12.heap[Z]? = some (.cells #[.int .i64 op, .int .i64 a, .int .i64 b] 53 (0, 0)) ∧ Below Q W w12 ∧ DepAt w12 Q ds) := ⟨(H12.out.block Z (lt_heap M11.out.1)).trans M11.out.1, M11.out.2.1.trans (H12.out.mono (Nat.le_of_lt hQ11)), M11.out.2.2.on (H12.out.block Q hQ11)⟩
    clear CT H12 hQ11 M11 z0 z1 z2 HNUM HNX hsm
    have z0 : w12.cell? ⟨Z, 0, none⟩ = some (.int .i64 op) := heap_cl M12.out.1 rfl
    obtain ⟨⟨_, _, y1, y2⟩, _, _⟩ := HC.out w12 M12.out.2.1
    have hnx8 : nx ≤ 8000 := by omega
    rcases hge with ⟨hg, rfl, h13⟩ | hge
    · go_upto_region 19 with fail
      by_cases hlast : i + 1 = n
      · have HE : Hid (R = 174) := HSF.out.last hdz HB2.out hnx8 hg hlast
        have hfin := HFIN.out w12 M12.out.2.1 (.slice (some ⟨Q, 0, none⟩) n n)
        rw [HE.out] at hfin
        have e5 : ((i : Int) + 1 ≥ (n : Int)) := by omega
        clear HSF HE HTC
        go_wp2
        exact hfin
      have e5 : ¬ ((i : Int) + 1 ≥ (n : Int)) := by omega
      have i3 : (0 : Int) ≤ (i : Int) + 1 := by omega
      have i4 : (i : Int) + 1 < (n : Int) := by omega
      have hin1 : i + 1 < n := by omega
      obtain ⟨v1, hv1⟩ : ∃ v, v = ds.getD (i + 1) 0 := ⟨_, rfl⟩
      have q1 : w12.cell? ⟨Q, i + 1, none⟩ = some (.int .i64 v1) := by rw [hv1]; exact M12.out.2.2.cell (by rw [HDS.out.1]; exact hin1)
      have f1 : w12.frozen? ⟨Q, i + 1, none⟩ = false := M12.out.2.2.frozen
      by_cases hbad1 : v1 ≠ 0 ∧ v1 ≠ nx
      · have HE : Hid (R = 173) := HSF.out.next hdz HB2.out hnx8 hg hin1 (by rw [← hv1]; exact hbad1.1) (by rw [← hv1]; exact hbad1.2)
        have hfin := HFIN.out w12 M12.out.2.1 (.slice (some ⟨Q, 0, none⟩) n n)
        rw [HE.out] at hfin
        have e7 : (v1 != 0) = true := by simpa using hbad1.1
        have e8 : (v1 == nx) = false := by simpa using hbad1.2
        have e9 : ¬ v1 = nx := hbad1.2
        clear HSF HE HTC hbad1 hv1
        go_wp2
        exact hfin
      have hv3 : v1 = 0 ∨ (¬ v1 = 0 ∧ v1 = nx) := by
        by_cases hz : v1 = 0
        · exact Or.inl hz
        · by_cases hz2 : v1 = nx
          · exact Or.inr ⟨hz, hz2⟩
          · exact absurd ⟨hz, hz2⟩ hbad1
      obtain ⟨es, hes⟩ : ∃ es, es = ds.set (i + 1) nx := ⟨_, rfl⟩
      have HG0 := HSF.out.goon hdz HB2.out hnx8 hg hin1 (by rw [← hv1]; exact hv3.imp id And.right)
      rw [← hes] at HG0
      have HG : Hid ((targetP (op, a, b) = none → R = flowP (l.map fun s => s.2) n (i + 1) (code.drop (i + 1)) es) ∧ ∀ k : Nat, k < n → targetP (op, a, b) = some (k : Int) → (es.getD k 0 ≠ 0 → es.getD k 0 ≠ nx → R = 173) ∧ ((es.getD k 0 = 0 ∨ es.getD k 0 = nx) → R = flowP (l.map fun s => s.2) n (i + 1) (code.drop (i + 1)) (es.set k nx))) := HG0
      have MX : Hid (Below Q W (w12.setCell ⟨Q, i + 1, none⟩ (.int .i64 nx)) ∧ DepAt (w12.setCell ⟨Q, i + 1, none⟩ (.int .i64 nx)) Q es ∧ es.length = n ∧ ∀ j, 0 ≤ es.getD j 0 ∧ es.getD j 0 ≤ 8000) := ⟨M12.out.2.1.setCell (Nat.le_refl _) _, by rw [hes]; exact M12.out.2.2.put (i + 1) nx, by rw [hes, List.length_set]; exact HDS.out.1, by rw [hes]; exact set_range HDS.out.2 (by omega) hnx8⟩
      obtain ⟨W13, hW13⟩ : ∃ X, X = w12.setCell ⟨Q, i + 1, none⟩ (.int .i64 nx) := ⟨_, rfl⟩
      rw [← hW13] at MX
      clear HG0 HSF hbad1 hv1 hes M12 HDS
      rcases hv3 with rfl | ⟨hv3, hv4⟩
      · go_upto_region 25 with fail
        rw [← hW13]
        clear hW13 q1 f1 z0 y1 y2
        rcases HTC.out with ⟨k, hk1, hk2, hk3, hk4⟩ | ⟨hk1, hk4⟩
        · subst hk1
          have k1 : ((k : Int) ≥ 0) := by omega
          have k2 : (k : Int) < (n : Int) := by omega
          obtain ⟨v2, hv2⟩ : ∃ v, v = es.getD k 0 := ⟨_, rfl⟩
          have q2 : W13.cell? ⟨Q, k, none⟩ = some (.int .i64 v2) := by rw [hv2]; exact MX.out.2.1.cell (by rw [MX.out.2.2.1]; exact hk3)
          have f2 : W13.frozen? ⟨Q, k, none⟩ = false := MX.out.2.1.frozen
          have HG2 := HG.out.2 k hk3 hk4
          rw [← hv2] at HG2
          by_cases hbad : v2 ≠ 0 ∧ v2 ≠ nx
          · have HE : Hid (R = 173) := HG2.1 hbad.1 hbad.2
            have hfin := HFIN.out W13 MX.out.1 (.slice (some ⟨Q, 0, none⟩) n n)
            rw [HE.out] at hfin
            have e7 : (v2 != 0) = true := by simpa using hbad.1
            have e8 : (v2 == nx) = false := by simpa using hbad.2
            have e9 : ¬ v2 = nx := hbad.2
            clear HG HG2 HTC HE hbad MX hv2
            go_wp2
            exact hfin
          · have HGK : Hid (R = flowP (l.map fun s => s.2) n (i + 1) (code.drop (i + 1)) (es.set k nx)) := HG2.2 (by
              by_cases hz : v2 = 0
              · exact Or.inl hz
              · by_cases hz2 : v2 = nx
                · exact Or.inr hz2
                · exact absurd ⟨hz, hz2⟩ hbad)
            have MY : Hid (Below Q W (W13.setCell ⟨Q, k, none⟩ (.int .i64 nx)) ∧ DepAt (W13.setCell ⟨Q, k, none⟩ (.int .i64 nx)) Q (es.set k nx) ∧ (es.set k nx).length = n ∧ ∀ j, 0 ≤ (es.set k nx).getD j 0 ∧ (es.set k nx).getD j 0 ≤ 8000) := ⟨MX.out.1.setCell (Nat.le_refl _) _, MX.out.2.1.put k nx, by rw [List.length_set]; exact MX.out.2.2.1, set_range MX.out.2.2.2 (by omega) hnx8⟩
            have hv3 : v2 = 0 ∨ (¬ v2 = 0 ∧ v2 = nx) := by
              by_cases hz : v2 = 0
              · exact Or.inl hz
              · by_cases hz2 : v2 = nx
                · exact Or.inr ⟨hz, hz2⟩
                · exact absurd ⟨hz, hz2⟩ hbad
            clear HG HG2 HTC hbad MX hv2
            rcases hv3 with rfl | ⟨hv3, hv4⟩
            · go_wp2
              go_roundw
              case rel => exact ⟨i + 1, _, by omega, by go_num, MY.out, HGK.out⟩
              case measure => simp [intOf]; omega
            · have e7 : (v2 != 0) = true := by simpa using hv3
              have e8 : (v2 != nx) = false := by simpa using hv4
              clear hv3 hv4
              go_wp2
              go_roundw
              case rel => exact ⟨i + 1, _, by omega, by go_num, MY.out, HGK.out⟩
              case measure => simp [intOf]; omega
        · subst hk1
          have HGK : Hid (R = flowP (l.map fun s => s.2) n (i + 1) (code.drop (i + 1)) es) := HG.out.1 hk4
          clear HG HTC
          go_wp2
          go_roundw
          case rel => exact ⟨i + 1, _, by omega, by go_num, MX.out, HGK.out⟩
          case measure => simp [intOf]; omega
      · have e7 : (v1 != 0) = true := by simpa using hv3
        have e8 : (v1 != nx) = false := by simpa using hv4
        clear hv3 hv4
        go_upto_region 25 with fail
        rw [← hW13]
        clear hW13 q1 f1 z0 y1 y2 e7 e8
        rcases HTC.out with ⟨k, hk1, hk2, hk3, hk4⟩ | ⟨hk1, hk4⟩
        · subst hk1
          have k1 : ((k : Int) ≥ 0) := by omega
          have k2 : (k : Int) < (n : Int) := by omega
          obtain ⟨v2, hv2⟩ : ∃ v, v = es.getD k 0 := ⟨_, rfl⟩
          have q2 : W13.cell? ⟨Q, k, none⟩ = some (.int .i64 v2) := by rw [hv2]; exact MX.out.2.1.cell (by rw [MX.out.2.2.1]; exact hk3)
          have f2 : W13.frozen? ⟨Q, k, none⟩ = false := MX.out.2.1.frozen
          have HG2 := HG.out.2 k hk3 hk4
          rw [← hv2] at HG2
          by_cases hbad : v2 ≠ 0 ∧ v2 ≠ nx
          · have HE : Hid (R = 173) := HG2.1 hbad.1 hbad.2
            have hfin := HFIN.out W13 MX.out.1 (.slice (some ⟨Q, 0, none⟩) n n)
            rw [HE.out] at hfin
            have e7 : (v2 != 0) = true := by simpa using hbad.1
            have e8 : (v2 == nx) = false := by simpa using hbad.2
            have e9 : ¬ v2 = nx := hbad.2
            clear HG HG2 HTC HE hbad MX hv2
            go_wp2
            exact hfin
          · have HGK : Hid (R = flowP (l.map fun s => s.2) n (i + 1) (code.drop (i + 1)) (es.set k nx)) := HG2.2 (by
              by_cases hz : v2 = 0
              · exact Or.inl hz
              · by_cases hz2 : v2 = nx
                · exact Or.inr hz2
                · exact absurd ⟨hz, hz2⟩ hbad)
            have MY : Hid (Below Q W (W13.setCell ⟨Q, k, none⟩ (.int .i64 nx)) ∧ DepAt (W13.setCell ⟨Q, k, none⟩ (.int .i64 nx)) Q (es.set k nx) ∧ (es.set k nx).length = n ∧ ∀ j, 0 ≤ (es.set k nx).getD j 0 ∧ (es.set k nx).getD j 0 ≤ 8000) := ⟨MX.out.1.setCell (Nat.le_refl _) _, MX.out.2.1.put k nx, by rw [List.length_set]; exact MX.out.2.2.1, set_range MX.out.2.2.2 (by omega) hnx8⟩
            have hv3 : v2 = 0 ∨ (¬ v2 = 0 ∧ v2 = nx) := by
              by_cases hz : v2 = 0
              · exact Or.inl hz
              · by_cases hz2 : v2 = nx
                · exact Or.inr ⟨hz, hz2⟩
                · exact absurd ⟨hz, hz2⟩ hbad
            clear HG HG2 HTC hbad MX hv2
            rcases hv3 with rfl | ⟨hv3, hv4⟩
            · go_wp2
              go_roundw
              case rel => exact ⟨i + 1, _, by omega, by go_num, MY.out, HGK.out⟩
              case measure => simp [intOf]; omega
            · have e7 : (v2 != 0) = true := by simpa using hv3
              have e8 : (v2 != nx) = false := by simpa using hv4
              clear hv3 hv4
              go_wp2
              go_roundw
              case rel => exact ⟨i + 1, _, by omega, by go_num, MY.out, HGK.out⟩
              case measure => simp [intOf]; omega
        · subst hk1
          have HGK : Hid (R = flowP (l.map fun s => s.2) n (i + 1) (code.drop (i + 1)) es) := HG.out.1 hk4
          clear HG HTC
          go_wp2
          go_roundw
          case rel => exact ⟨i + 1, _, by omega, by go_num, MX.out, HGK.out⟩
          case measure => simp [intOf]; omega
    · have hgo : goesP op = false := by
        rcases hge with h | h
        · exact h.1
        · exact h.1
      have HG : Hid ((targetP (op, a, b) = none → R = flowP (l.map fun s => s.2) n (i + 1) (code.drop (i + 1)) ds) ∧ ∀ k : Nat, k < n → targetP (op, a, b) = some (k : Int) → (ds.getD k 0 ≠ 0 → ds.getD k 0 ≠ nx → R = 173) ∧ ((ds.getD k 0 = 0 ∨ ds.getD k 0 = nx) → R = flowP (l.map fun s => s.2) n (i + 1) (code.drop (i + 1)) (ds.set k nx))) := HSF.out.stop hdz HB2.out hnx8 hgo
      have MX : Hid (Below Q W w12 ∧ DepAt w12 Q ds ∧ ds.length = n ∧ ∀ j, 0 ≤ ds.getD j 0 ∧ ds.getD j 0 ≤ 8000) := ⟨M12.out.2.1, M12.out.2.2, HDS.out⟩
      clear HSF M12 HDS hgo
      rcases hge with ⟨_, rfl⟩ | ⟨_, rfl, h13⟩
      all_goals
        go_upto_region 25 with fail
        clear z0 y1 y2
        rcases HTC.out with ⟨k, hk1, hk2, hk3, hk4⟩ | ⟨hk1, hk4⟩
        · subst hk1
          have k1 : ((k : Int) ≥ 0) := by omega
          have k2 : (k : Int) < (n : Int) := by omega
          obtain ⟨v2, hv2⟩ : ∃ v, v = ds.getD k 0 := ⟨_, rfl⟩
          have q2 : w12.cell? ⟨Q, k, none⟩ = some (.int .i64 v2) := by rw [hv2]; exact MX.out.2.1.cell (by rw [MX.out.2.2.1]; exact hk3)
          have f2 : w12.frozen? ⟨Q, k, none⟩ = false := MX.out.2.1.frozen
          have HG2 := HG.out.2 k hk3 hk4
          rw [← hv2] at HG2
          by_cases hbad : v2 ≠ 0 ∧ v2 ≠ nx
          · have HE : Hid (R = 173) := HG2.1 hbad.1 hbad.2
            have hfin := HFIN.out w12 MX.out.1 (.slice (some ⟨Q, 0, none⟩) n n)
            rw [HE.out] at hfin
            have e7 : (v2 != 0) = true := by simpa using hbad.1
            have e8 : (v2 == nx) = false := by simpa using hbad.2
            have e9 : ¬ v2 = nx := hbad.2
            clear HG HG2 HTC HE hbad MX hv2
            go_wp2
            exact hfin
          · have HGK : Hid (R = flowP (l.map fun s => s.2) n (i + 1) (code.drop (i + 1)) (ds.set k nx)) := HG2.2 (by
              by_cases hz : v2 = 0
              · exact Or.inl hz
              · by_cases hz2 : v2 = nx
                · exact Or.inr hz2
                · exact absurd ⟨hz, hz2⟩ hbad)
            have MY : Hid (Below Q W (w12.setCell ⟨Q, k, none⟩ (.int .i64 nx)) ∧ DepAt (w12.setCell ⟨Q, k, none⟩ (.int .i64 nx)) Q (ds.set k nx) ∧ (ds.set k nx).length = n ∧ ∀ j, 0 ≤ (ds.set k nx).getD j 0 ∧ (ds.set k nx).getD j 0 ≤ 8000) := ⟨MX.out.1.setCell (Nat.le_refl _) _, MX.out.2.1.put k nx, by rw [List.length_set]; exact MX.out.2.2.1, set_range MX.out.2.2.2 (by omega) hnx8⟩
            have hv3 : v2 = 0 ∨ (¬ v2 = 0 ∧ v2 = nx) := by
              by_cases hz : v2 = 0
              · exact Or.inl hz
              · by_cases hz2 : v2 = nx
                · exact Or.inr ⟨hz, hz2⟩
                · exact absurd ⟨hz, hz2⟩ hbad
            clear HG HG2 HTC hbad MX hv2
            rcases hv3 with rfl | ⟨hv3, hv4⟩
            · go_wp2
              go_roundw
              case rel => exact ⟨i + 1, _, by omega, by go_num, MY.out, HGK.out⟩
              case measure => simp [intOf]; omega
            · have e7 : (v2 != 0) = true := by simpa using hv3
              have e8 : (v2 != nx) = false := by simpa using hv4
              clear hv3 hv4
              go_wp2
              go_roundw
              case rel => exact ⟨i + 1, _, by omega, by go_num, MY.out, HGK.out⟩
              case measure => simp [intOf]; omega
        · subst hk1
          have HGK : Hid (R = flowP (l.map fun s => s.2) n (i + 1) (code.drop (i + 1)) ds) := HG.out.1 hk4
          clear HG HTC
          go_wp2
          go_roundw
          case rel => exact ⟨i + 1, _, by omega, by go_num, MX.out, HGK.out⟩
          case measure => simp [intOf]; omega
end Go.Proofs.YtlpnegnpejpdkaaGreatDoor
