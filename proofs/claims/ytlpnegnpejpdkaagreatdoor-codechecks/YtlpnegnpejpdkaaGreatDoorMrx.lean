/- The table of one global. The document's shapes. Same: are two tables alike? awake: the document's example, at work. -/
import Derived.Test.YtlpnegnpejpdkaaGreatDoorUs
import Derived.Test.YtlpnegnpejpdkaaGreatDoorTi
import Derived.Test.YtlpnegnpejpdkaaGreatDoorKy
import Derived.Test.YtlpnegnpejpdkaaGreatDoorMcx
namespace Go.Proofs.YtlpnegnpejpdkaaGreatDoor
open Go.RowKit

def idT : Tab := (sevenP, [([105, 100], 1, [(1, 0, 0), (7, 2, 0), (4, 1, 0), (17, 0, 0)])])
theorem own_made {α : Type} {E : Elt α} {e B g : Nat} {w : World} {S : Nat → Prop} {css : List (List Value)} {l : List α} (hC : Css E w S css l) (hg : w.heap[g]? = some (.cells css.flatten.toArray e (0, 0))) (hB : B ≤ g) (hl : l.length ≤ 140737488355328) (hS : ∀ b, S b → g ≠ b) : Own E e B w S (.slice (some ⟨g, 0, none⟩) l.length l.length) l := by
  have hn := flatC_len css hC.lens
  rw [hC.1] at hn
  refine ⟨⟨css, hC, hn, .inr ⟨g, l.length, css.flatten.toArray, rfl, hB, hg, Nat.le_refl _, by unfold maxLen; omega, ?_, ?_⟩⟩, fun b hb e => ?_⟩
  · rw [List.size_toArray]; exact hn
  · show (css.flatten.toArray).toList.take _ = _
    rw [List.toList_toArray, ← hn, List.take_length]
  · injection e with e
    exact hS b hb e
theorem row_made {α : Type} {E : Elt α} {e g : Nat} {w : World} {Z S : Nat → Prop} {css : List (List Value)} {l : List α} (hC : Css E w S css l) (hg : w.heap[g]? = some (.cells css.flatten.toArray e (0, 0))) (hl : l.length ≤ 140737488355328) (hS : ∀ b, S b → g ≠ b) (hZ : Z g) : RowE E w Z S (.slice (some ⟨g, 0, none⟩) l.length l.length) l :=
  (Own.rowE (own_made (B := 0) (e := e) hC hg (Nat.zero_le _) hl hS)).on (Keeps.refl _ _) (Keeps.refl _ _) (fun y hy => by injection hy with hy; have hy : g = y := hy; rw [← hy]; exact hZ) fun _ h => h
theorem css_map {α : Type} {E : Elt α} {w : World} {S : Nat → Prop} {f : α → List Value} {l : List α} (h : ∀ x ∈ l, E.C w S (f x) x) : Css E w S (l.map f) l :=
  ⟨by rw [List.length_map], fun i a b => by rw [List.getElem_map]; exact h _ (List.getElem_mem b)⟩
def cellsS : List (List Value) := sevenP.map fun x => [.string ⟨x.1.toArray⟩, .int .i64 x.2]
def cellsI : List (List Value) := [(1, 0, 0), (7, 2, 0), (4, 1, 0), (17, 0, 0)].map fun x : Ins => [.int .i64 x.1, .int .i64 x.2.1, .int .i64 x.2.2]
set_option maxRecDepth 10000 in
theorem shapes_any (w : World) : Calls Tryz.prog 65 #[] w fun r w' => r = .returned (.slice (some ⟨w.heap.size, 0, none⟩) 7 7) ∧ w' = w.alloc (.cells cellsS.flatten.toArray 48) := by
  obtain ⟨F, hF⟩ : ∃ F : Ending → World → Prop, F = fun r w' => r = .returned (.slice (some ⟨w.heap.size, 0, none⟩) 7 7) ∧ w' = w.alloc (.cells cellsS.flatten.toArray 48) := ⟨_, rfl⟩
  rw [← hF]
  have HF : Hid (∀ r w', r = .returned (.slice (some ⟨w.heap.size, 0, none⟩) 7 7) → w' = w.alloc (.cells cellsS.flatten.toArray 48) → F r w') := fun r w' h1 h2 => by rw [hF]; exact ⟨h1, h2⟩
  clear hF
  go_enter Tryz.func65, Tryz.ntmps65
  go_wp2
  exact HF.out _ _ rfl rfl
/-- What id leaves. -/
structure IdP (w : World) (r : Ending) (w' : World) : Prop where
  r : ∃ sv gv, r = .returned (.agg #[sv, gv]) ∧ Hid (TabV w' (fun y => w.heap.size ≤ y ∧ y < w'.heap.size) sv gv idT)
  bel : Hid (Below w.heap.size w w')
theorem res26 {w : World} {X : Nat} {tm : Array Value} {a b : Value} (h4 : tm[0]? = some (.pointer (some ⟨X, 0, none⟩))) (x0 : w.cell? ⟨X, 0, none⟩ = some a) (x1 : w.cell? ⟨X, 1, none⟩ = some b) : (results Tryz.f26 tm).run Tryz.prog w = .ok (.agg #[a, b]) w := by
  simp [results, Tryz.f26, go_sem, h4, x0, x1]
set_option maxRecDepth 10000 in
theorem id_any (w : World) : Calls Tryz.prog 26 #[] w fun r w' => IdP w r w' := by
  obtain ⟨F, hF⟩ : ∃ F : Ending → World → Prop, F = fun r w' => IdP w r w' := ⟨_, rfl⟩
  rw [← hF]
  obtain ⟨A, hA⟩ : ∃ A, A = w.heap.size := ⟨_, rfl⟩
  have HAE : Hid (A = w.heap.size) := hA
  obtain ⟨W1, hW1⟩ : ∃ W1, W1 = w.alloc (.cells #[.slice none 0 0, .slice none 0 0] 25) := ⟨_, rfl⟩
  obtain ⟨W2, hW2⟩ : ∃ W2, W2 = W1.alloc (.cells #[.int .i64 1, .int .i64 0, .int .i64 0, .int .i64 7, .int .i64 2, .int .i64 0, .int .i64 4, .int .i64 1, .int .i64 0, .int .i64 17, .int .i64 0, .int .i64 0] 53) := ⟨_, rfl⟩
  obtain ⟨W3, hW3⟩ : ∃ W3, W3 = W2.alloc (.cells cellsS.flatten.toArray 48) := ⟨_, rfl⟩
  obtain ⟨W4, hW4⟩ : ∃ W4, W4 = W3.alloc (.cells #[.string ⟨#[105, 100]⟩, .int .i64 1, .slice (some ⟨w.heap.size + 1, 0, none⟩) 4 4] 51) := ⟨_, rfl⟩
  have s1 : W1.heap.size = w.heap.size + 1 := by rw [hW1]; exact World.size_alloc _ _
  have s2 : W2.heap.size = w.heap.size + 2 := by rw [hW2, World.size_alloc, s1]
  have s3 : W3.heap.size = w.heap.size + 3 := by rw [hW3, World.size_alloc, s2]
  have b1 : Below w.heap.size w W1 := by rw [hW1]; exact (Below.refl _ _).alloc (Nat.le_refl _) _
  have b2 : Below W1.heap.size W1 W2 := by rw [hW2]; exact (Below.refl _ _).alloc (Nat.le_refl _) _
  have b3 : Below W2.heap.size W2 W3 := by rw [hW3]; exact (Below.refl _ _).alloc (Nat.le_refl _) _
  have b4 : Below W3.heap.size W3 W4 := by rw [hW4]; exact (Below.refl _ _).alloc (Nat.le_refl _) _
  have k1 : W1.heap[A]? = some (.cells #[.slice none 0 0, .slice none 0 0] 25 (0, 0)) := by rw [hW1, hA]; exact new_blk _ _
  have k2 : W2.heap[w.heap.size + 1]? = some (.cells cellsI.flatten.toArray 53 (0, 0)) := by rw [hW2, ← s1]; exact new_blk _ _
  have k3 : W3.heap[w.heap.size + 2]? = some (.cells cellsS.flatten.toArray 48 (0, 0)) := by rw [hW3, ← s2]; exact new_blk _ _
  have k4 : W4.heap[w.heap.size + 3]? = some (.cells #[.string ⟨#[105, 100]⟩, .int .i64 1, .slice (some ⟨w.heap.size + 1, 0, none⟩) 4 4] 51 (0, 0)) := by rw [hW4, ← s3]; exact new_blk _ _
  have s4 : W4.heap.size = w.heap.size + 4 := by rw [hW4, World.size_alloc, s3]
  have m1 : W4.heap[A]? = some (.cells #[.slice none 0 0, .slice none 0 0] 25 (0, 0)) := (b4.block A (by omega)).trans ((b3.block A (by omega)).trans ((b2.block A (by omega)).trans k1))
  have m2 : W4.heap[w.heap.size + 1]? = some (.cells cellsI.flatten.toArray 53 (0, 0)) := (b4.block _ (by omega)).trans ((b3.block _ (by omega)).trans k2)
  have m3 : W4.heap[w.heap.size + 2]? = some (.cells cellsS.flatten.toArray 48 (0, 0)) := (b4.block _ (by omega)).trans k3
  have b5 : Below w.heap.size w W4 := b1.trans ((b2.mono (by omega)).trans ((b3.mono (by omega)).trans (b4.mono (by omega))))
  have x0 : W4.cell? ⟨A, 0, none⟩ = some (.slice none 0 0) := heap_cl m1 rfl
  have x1 : W4.cell? ⟨A, 1, none⟩ = some (.slice none 0 0) := heap_cl m1 rfl
  have f0 : W4.frozen? ⟨A, 0, none⟩ = false := heap_frozen m1
  have f1 : W4.frozen? ⟨A, 1, none⟩ = false := heap_frozen m1
  have HEND : Hid (∀ W5, W5 = (W4.setCell ⟨A, 0, none⟩ (.slice (some ⟨w.heap.size + 2, 0, none⟩) 7 7)).setCell ⟨A, 1, none⟩ (.slice (some ⟨w.heap.size + 3, 0, none⟩) 1 1) → (W5.cell? ⟨A, 0, none⟩ = some (.slice (some ⟨w.heap.size + 2, 0, none⟩) 7 7) ∧ W5.cell? ⟨A, 1, none⟩ = some (.slice (some ⟨w.heap.size + 3, 0, none⟩) 1 1)) ∧ F (.returned (.agg #[.slice (some ⟨w.heap.size + 2, 0, none⟩) 7 7, .slice (some ⟨w.heap.size + 3, 0, none⟩) 1 1])) W5) := by
    intro W5 hW5
    have hs : ∀ y, y ≠ A → W5.heap[y]? = W4.heap[y]? := fun y hy => by rw [hW5, Below.heap_setCell _ _ _ _ (show y ≠ A from hy), Below.heap_setCell _ _ _ _ (show y ≠ A from hy)]
    have h5 : W5.heap.size = w.heap.size + 4 := by rw [hW5, World.size_setCell, World.size_setCell, s4]
    have hA5 : W5.heap[A]? = some (.cells #[.slice (some ⟨w.heap.size + 2, 0, none⟩) 7 7, .slice (some ⟨w.heap.size + 3, 0, none⟩) 1 1] 25 (0, 0)) := by rw [hW5]; exact (setCell_block ((setCell_block m1 (v := .slice (some ⟨w.heap.size + 2, 0, none⟩) 7 7) (i := 0)).trans rfl) (v := .slice (some ⟨w.heap.size + 3, 0, none⟩) 1 1) (i := 1)).trans rfl
    refine ⟨⟨heap_cl hA5 rfl, heap_cl hA5 rfl⟩, ?_⟩
    rw [hF]
    have t1 : RowE EShp W5 (fun y => w.heap.size ≤ y ∧ y < W5.heap.size) (fun y => w.heap.size ≤ y ∧ y < W5.heap.size) (.slice (some ⟨w.heap.size + 2, 0, none⟩) 7 7) sevenP := by
      have := row_made (E := EShp) (e := 48) (w := W5) (Z := fun y => w.heap.size ≤ y ∧ y < W5.heap.size) (S := fun _ => False) (css := cellsS) (l := sevenP) (css_map fun x hx => ⟨rfl, by
        have : ∀ x ∈ sevenP, x.1.length < 140737488355328 := by decide
        exact this x hx⟩) ((hs _ (by omega)).trans m3) (by decide) (fun _ h => h.elim) ⟨by omega, by omega⟩
      exact this.on (Keeps.refl _ _) (Keeps.refl _ _) (fun _ h => h) fun _ h => h.elim
    have t2 : RowE EIns W5 (fun y => w.heap.size ≤ y ∧ y < W5.heap.size) (fun _ => False) (.slice (some ⟨w.heap.size + 1, 0, none⟩) 4 4) [(1, 0, 0), (7, 2, 0), (4, 1, 0), (17, 0, 0)] :=
      row_made (E := EIns) (e := 53) (w := W5) (Z := fun y => w.heap.size ≤ y ∧ y < W5.heap.size) (S := fun _ => False) (css := cellsI) (l := [(1, 0, 0), (7, 2, 0), (4, 1, 0), (17, 0, 0)]) (css_map fun x hx => rfl) ((hs _ (by omega)).trans m2) (by decide) (fun _ h => h.elim) ⟨by omega, by omega⟩
    have t3 : RowE EGlb W5 (fun y => w.heap.size ≤ y ∧ y < W5.heap.size) (fun y => w.heap.size ≤ y ∧ y < W5.heap.size) (.slice (some ⟨w.heap.size + 3, 0, none⟩) 1 1) idT.2 :=
      (RowE.new (E := EGlb) (w := W5) (S := fun y => w.heap.size ≤ y ∧ y < W5.heap.size) (e := 51) (cap := 1) (T := w.heap.size + 3) (cs := [.string ⟨#[105, 100]⟩, .int .i64 1, .slice (some ⟨w.heap.size + 1, 0, none⟩) 4 4]) (x := ([105, 100], 1, [(1, 0, 0), (7, 2, 0), (4, 1, 0), (17, 0, 0)])) ⟨_, rfl, by decide, by decide, t2⟩ ((hs _ (by omega)).trans k4) (Nat.le_refl _)).on (Keeps.refl _ _) (Keeps.refl _ _) (fun y hy => by rw [show y = w.heap.size + 3 from hy]; exact ⟨by omega, by omega⟩) fun _ h => h
    exact ⟨⟨_, _, rfl, t1, t3, by decide, by decide⟩, by rw [hW5]; exact ((b5.setCell (p := ⟨A, 0, none⟩) (by show w.heap.size ≤ A; omega) _).setCell (p := ⟨A, 1, none⟩) (by show w.heap.size ≤ A; omega) _)⟩
  have C65 : Calls Tryz.prog 65 #[] W2 fun r w' => r = .returned (.slice (some ⟨w.heap.size + 2, 0, none⟩) 7 7) ∧ w' = W3 := by
    refine (shapes_any W2).mono ?_
    rintro r w' ⟨h1, h2⟩
    exact ⟨by rw [h1, s2], by rw [h2, hW3]⟩
  have HS3 : Hid (W3.heap.size = w.heap.size + 3) := s3
  clear hF hA s1 s2 s4 b1 b2 b3 b4 b5 k1 k2 k3 k4 m1 m2 m3 hW3
  go_enter Tryz.func26, Tryz.ntmps26
  go_upto_region 1 with fail
  rw [← hW1, ← HAE.out]
  go_upto_region 2 with fail
  rw [← hW1, ← hW2]
  clear hW1 hW2
  go_wp2_with (go_at_call 65; (with_reducible refine Calls.mono C65 ?_); rintro e3 w3 ⟨rfl, hw⟩; obtain rfl := hw.symm; clear hw; rw [hW4] at x0 x1 f0 f1)
  rw [← hW4]
  obtain ⟨⟨y0, y1⟩, hF⟩ := HEND.out _ rfl
  exact bodyPost_ret (res26 rfl y0 y1) rfl hF
theorem id_check : checkP idT = 0 := by kernel_rfl
theorem id_big : bigP idT = false := by kernel_rfl
def idText : Byt := [115, 104, 97, 112, 101, 32, 34, 70, 97, 108, 115, 101, 34, 32, 48, 10, 115, 104, 97, 112, 101, 32, 34, 84, 114, 117, 101, 34, 32, 48, 10, 115, 104, 97, 112, 101, 32, 34, 85, 110, 105, 116, 34, 32, 48, 10, 115, 104, 97, 112, 101, 32, 34, 78, 105, 108, 34, 32, 48, 10, 115, 104, 97, 112, 101, 32, 34, 67, 111, 110, 115, 34, 32, 50, 10, 115, 104, 97, 112, 101, 32, 34, 80, 97, 105, 114, 34, 32, 50, 10, 115, 104, 97, 112, 101, 32, 34, 84, 114, 105, 112, 108, 101, 34, 32, 51, 10, 103, 108, 111, 98, 97, 108, 32, 34, 105, 100, 34, 32, 49, 10, 32, 32, 112, 117, 115, 104, 32, 48, 10, 32, 32, 117, 112, 100, 97, 116, 101, 32, 50, 10, 32, 32, 112, 111, 112, 32, 49, 10, 32, 32, 117, 110, 119, 105, 110, 100, 10]
theorem id_text : textT idT = idText := by kernel_rfl
theorem id_read : tableQ idText = some idT := by kernel_rfl
theorem id_bytes : 20 < (bytesW idT).length := by decide
theorem id_load : loadP (bytesW idT) = some idT := by kernel_rfl
end Go.Proofs.YtlpnegnpejpdkaaGreatDoor

namespace Go.Proofs.YtlpnegnpejpdkaaGreatDoor
open Go.RowKit

set_option maxHeartbeats 16000000 in
set_option maxRecDepth 10000 in
theorem shapes_ref {w : World} {v : Value} {m : List Shp} (h : RowE EShp w (fun y => y < w.heap.size) (fun y => y < w.heap.size) v m) (hl : m.length < 140737488355328) : Calls Tryz.prog 32 #[v] w fun r w' => r = .returned (.int .i64 (if shapesP m then 0 else 172)) ∧ Hid (Below w.heap.size w w') := by
  obtain ⟨ad, cap, rfl, _⟩ := shp_at h
  have HA : Hid (∀ w2, Below w.heap.size w w2 → ∀ i (hi : i < m.length), ∃ g o, ad = some ⟨g, o, none⟩ ∧ m.length ≤ cap ∧ w2.cell? ⟨g, o + i * 2, none⟩ = some (.string ⟨m[i].1.toArray⟩) ∧ w2.cell? ⟨g, o + i * 2 + 1, none⟩ = some (.int .i64 m[i].2) ∧ m[i].1.length < 140737488355328) := fun w2 hb i hi => by
    obtain ⟨ad', cap', e, hh⟩ := shp_at (row_below h hb)
    obtain ⟨rfl, -, rfl⟩ := Value.slice.inj e
    obtain ⟨g, o, q1, _, q2, q3, q4, q5⟩ := hh i hi
    exact ⟨g, o, q1, q2, q3, q4, q5⟩
  obtain ⟨R1, hR⟩ : ∃ R, R = thingsP 8 [] m := ⟨_, rfl⟩
  have HT0 : Hid (thingsP 8 (namesOf m 0) (m.drop 0) = R1) := by rw [hR]; rfl
  obtain ⟨E, hE⟩ : ∃ E : Int, E = (if shapesP m then 0 else 172) := ⟨_, rfl⟩
  rw [← hE]
  have HE0 : Hid (R1 = true → 7 ≤ m.length → (m.take 7 == sevenP) = true → E = 0) := fun h1 h2 h3 => by
    rw [hE]
    unfold shapesP
    rw [← hR, h1, decide_eq_true h2, h3]
    rfl
  have HE1 : Hid (R1 = false → E = 172) := fun h => by
    rw [hE]
    unfold shapesP
    rw [← hR, h]
    rfl
  have HE2 : Hid (m.length < 7 → E = 172) := fun h => by
    rw [hE]
    unfold shapesP
    rw [decide_eq_false (show ¬ 7 ≤ m.length by omega), Bool.and_false]
    rfl
  have HE3 : Hid ((m.take 7 == sevenP) = false → E = 172) := fun h => by
    rw [hE]
    unfold shapesP
    rw [h, Bool.and_false]
    rfl
  have hml2 : m.length < 140737488355328 := by omega
  have CS := fun W => shapes_any W
  clear h hR hl hE
  go_enter Tryz.func32, Tryz.ntmps32
  go_upto_region 2 with fail
  go_loopw [3] (fun iv wr => ∃ i : Nat, i ≤ m.length ∧ iv = .int .i64 i ∧ Hid (Below w.heap.size w wr) ∧ Hid (thingsP 8 (namesOf m i) (m.drop i) = R1)) (fun iv _ => m.length - (intOf iv).toNat)
  case atStart => exact ⟨0, by omega, by go_num, Below.refl _ _, HT0.out⟩
  case round =>
    clear HT0
    obtain ⟨i, hi, rfl, HB, HT⟩ := hrel
    by_cases hil : i < m.length
    · obtain ⟨g, o, rfl, hlc, c0, c1, hs⟩ := HA.out wr HB.out i hil
      have HST : Hid ((nameP m[i].1 && !(namesOf m i).contains m[i].1 && decide (0 ≤ m[i].2) && decide (m[i].2 ≤ 8) && thingsP 8 (namesOf m (i + 1)) (m.drop (i + 1))) = R1) := by
        show _ = _
        rw [← things_step hil]
        exact HT.out
      have HYES : Hid (∀ k, k < i → ∀ h : k < m.length, m[k].1 = m[i].1 → R1 = false) := fun k hk h e => by
        rw [← HST.out, names_yes hil hk e]
        simp
      have HNO : Hid ((∀ x (hx : x < m.length), x < i → m[x].1 ≠ m[i].1) → nameP m[i].1 = true → 0 ≤ m[i].2 → m[i].2 ≤ 8 → thingsP 8 (namesOf m (i + 1)) (m.drop (i + 1)) = R1) := fun h h1 h2 h3 => by
        rw [← HST.out, names_no hil h, h1, decide_eq_true h2, decide_eq_true h3]
        simp
      have HN1 : Hid (nameP m[i].1 = false → R1 = false) := fun h => by rw [← HST.out, h]; simp
      have HN2 : Hid (m[i].2 < 0 → R1 = false) := fun h => by rw [← HST.out, decide_eq_false (show ¬ 0 ≤ m[i].2 by omega)]; simp
      have HN3 : Hid (8 < m[i].2 → R1 = false) := fun h => by rw [← HST.out, decide_eq_false (show ¬ m[i].2 ≤ 8 by omega)]; simp
      have i1 : (0 : Int) ≤ (i : Int) := by omega
      have i2 : (i : Int) < (m.length : Int) := by omega
      have CN := name_ref m[i].1 wr hs
      clear HT HST
      generalize hmi : m[i] = mi at *
      obtain ⟨a, f⟩ := mi
      simp only at c0 c1 CN HYES HNO HN1 HN2 HN3
      go_upto_region 5 with (go_at_call 71; (with_reducible refine Calls.mono CN ?_); rintro e2 w2 ⟨rfl, rfl⟩)
      clear CN
      by_cases h1 : nameP a = true
      case neg =>
        have HE : Hid (R1 = false) := HN1.out (by simpa using h1)
        have h1' : nameP a = false := by simpa using h1
        clear HYES HNO HN1 HN2 HN3
        rw [h1']
        go_wp2
        go_ret
        exact ⟨by rw [HE1.out HE.out]; rfl, HB.out⟩
      have HNA : Hid (nameP a = true) := h1
      rw [h1]
      clear h1 HN1
      by_cases h2 : f < 0
      case pos =>
        have HE : Hid (R1 = false) := HN2.out h2
        clear HYES HNO HN2 HN3
        go_wp2
        go_ret
        exact ⟨by rw [HE1.out HE.out]; rfl, HB.out⟩
      by_cases h3 : 8 < f
      case pos =>
        have HE : Hid (R1 = false) := HN3.out h3
        clear HYES HNO HN2 HN3
        go_wp2
        go_ret
        exact ⟨by rw [HE1.out HE.out]; rfl, HB.out⟩
      have HNO2 : Hid ((∀ x (hx : x < m.length), x < i → m[x].1 ≠ a) → thingsP 8 (namesOf m (i + 1)) (m.drop (i + 1)) = R1) := fun h => HNO.out h HNA.out (by omega) (by omega)
      clear HNO HN2 HN3 HNA
      go_upto_region 8 with fail
      go_loopw [5] (fun kv wr => ∃ k : Nat, k ≤ i ∧ kv = .int .i64 k ∧ Hid (Below w.heap.size w wr) ∧ Hid (∀ x (hx : x < m.length), x < k → m[x].1 ≠ a)) (fun kv _ => i - (intOf kv).toNat)
      case atStart => exact ⟨0, by omega, by go_num, HB.out, fun x _ h => by omega⟩
      case round =>
        clear HB c0 c1
        obtain ⟨k, hk, rfl, HB, HK⟩ := hrel
        by_cases hki : k < i
        · have HBd : Hid (Below w.heap.size w wr.drew) := HB.out.drew
          obtain ⟨g', o', eg, _, c0, c1, _⟩ := HA.out wr.drew HBd.out i hil
          obtain ⟨g2, o2, eg2, _, d0, d1, _⟩ := HA.out wr.drew HBd.out k (by omega)
          simp only [Option.some.injEq, Addr.mk.injEq, and_true] at eg eg2
          obtain ⟨rfl, rfl⟩ := eg
          obtain ⟨rfl, rfl⟩ := eg2
          rw [hmi] at c0 c1
          simp only at c0 c1
          have k1 : (0 : Int) ≤ (k : Int) := by omega
          have k2 : (k : Int) < (m.length : Int) := by omega
          have k3 : (k : Int) < (i : Int) := by omega
          have HY2 : Hid (m[k].1 = a → R1 = false) := fun h => HYES.out k hki (by omega) h
          have HK2 : Hid (m[k].1 ≠ a → ∀ x (hx : x < m.length), x < k + 1 → m[x].1 ≠ a) := fun h x hx hxk => by
            rcases Nat.lt_succ_iff_lt_or_eq.1 hxk with q | rfl
            · exact HK.out x hx q
            · exact h
          clear HK d1 c1
          generalize m[k].1 = b at *
          by_cases e : b = a
          · have HE : Hid (R1 = false) := HY2.out e
            subst e
            have e1 : (b == b) = true := beq_self_eq_true _
            clear HY2 HK2 HYES HNO2
            go_wp2
            go_region
            all_goals
              go_wp2
              go_ret
              exact ⟨by rw [HE1.out HE.out]; rfl, HBd.out⟩
          · have HK3 : Hid (∀ x (hx : x < m.length), x < k + 1 → m[x].1 ≠ a) := HK2.out e
            have e1 : (b == a) = false := by simpa using e
            clear HY2 HK2
            go_wp2
            go_region
            all_goals
              go_wp2
              go_roundw
              case rel => exact ⟨k + 1, hki, by go_num, HBd.out, HK3.out⟩
              case measure => simp [intOf]; omega
        · have hke : k = i := by omega
          have HNX : Hid (thingsP 8 (namesOf m (i + 1)) (m.drop (i + 1)) = R1) := HNO2.out (fun x hx h => HK.out x hx (by omega))
          have k3 : ¬ (k : Int) < (i : Int) := by omega
          clear HNO2 HYES HK
          go_wp2
          go_roundw
          case rel => exact ⟨i + 1, hil, by go_num, HB.out, HNX.out⟩
          case measure => simp [intOf]; omega
    · have HE : Hid (R1 = true) := by
        show _ = _
        rw [← HT.out, List.drop_eq_nil_of_le (by omega)]
        rfl
      have e3 : ¬ ((i : Int) < (m.length : Int)) := by omega
      clear HT
      go_upto_region 13 with (go_at_call 65; (with_reducible refine Calls.mono (CS _) ?_); rintro e2 w2 ⟨rfl, hw⟩)
      obtain ⟨G, hG⟩ : ∃ G, G = wr.heap.size := ⟨_, rfl⟩
      have hbw : Below wr.heap.size wr w2 := by rw [hw]; exact (Below.refl _ _).alloc (Nat.le_refl _) _
      have HB2 : Hid (Below w.heap.size w w2) := HB.out.trans (hbw.mono HB.out.size)
      have mG : w2.heap[G]? = some (.cells cellsS.flatten.toArray 48 (0, 0)) := by rw [hw, hG]; exact new_blk _ _
      have HRW : RowE EShp w2 (fun y => y < w2.heap.size) (fun _ => False) (.slice (some ⟨G, 0, none⟩) 7 7) sevenP := row_made (css := cellsS) (css_map fun x hx => ⟨rfl, by
        have hs : ∀ q ∈ sevenP, q.1.length < 140737488355328 := by decide
        exact hs x hx⟩) mG (by decide) (fun _ h => h.elim) (lt_heap mG)
      have HF : Hid (∀ w3, Below w2.heap.size w2 w3 → ∀ j (hj : j < 7), w3.cell? ⟨G, j * 2, none⟩ = some (.string ⟨(sevenP[j]'hj).1.toArray⟩) ∧ w3.cell? ⟨G, j * 2 + 1, none⟩ = some (.int .i64 (sevenP[j]'hj).2)) := fun w3 hb j hj => by
        obtain ⟨ad', cap', e, hh⟩ := shp_at (HRW.on (Keeps.of hb fun _ h => h) (fun _ h => h.elim) (fun _ h => h) fun _ h => h)
        obtain ⟨g, o, q1, _, _, q3, q4, _⟩ := hh j hj
        have e : Value.slice (some ⟨G, 0, none⟩) 7 7 = .slice ad' 7 cap' := e
        obtain ⟨rfl, -, rfl⟩ := Value.slice.inj e
        simp only [Option.some.injEq, Addr.mk.injEq, and_true] at q1
        obtain ⟨rfl, rfl⟩ := q1
        rw [Nat.zero_add] at q3 q4
        exact ⟨q3, q4⟩
      rw [← hG, ← hw]
      clear hw hG hbw mG HRW CS
      by_cases h7 : m.length < 7
      case pos =>
        have HE7 : Hid (E = 172) := HE2.out h7
        clear HE0 HE1 HE2 HE3
        go_wp2
        go_ret
        exact ⟨by rw [HE7.out]; rfl, HB2.out⟩
      have HE00 : Hid ((m.take 7 == sevenP) = true → E = 0) := fun h => HE0.out HE.out (by omega) h
      clear HE0 HE1 HE2 HE e3 HB
      go_upto_region 16 with fail
      go_loopw [7] (fun jv wr => ∃ j : Nat, j ≤ 7 ∧ jv = .int .i64 j ∧ Hid (Below w.heap.size w wr ∧ Below w2.heap.size w2 wr) ∧ Hid (∀ x (h1 : x < m.length) (h2 : x < 7), x < j → m[x] = sevenP[x]'h2)) (fun jv _ => 7 - (intOf jv).toNat)
      case atStart => exact ⟨0, by omega, by go_num, ⟨HB2.out, Below.refl _ _⟩, fun x _ _ h => by omega⟩
      case round =>
        clear HB2
        obtain ⟨j, hj, rfl, HB, HJ⟩ := hrel
        by_cases hj7 : j < 7
        · have HBd : Hid (Below w.heap.size w wr.drew ∧ Below w2.heap.size w2 wr.drew) := ⟨HB.out.1.drew, HB.out.2.drew⟩
          obtain ⟨g, o, rfl, hlc, c0, c1, _⟩ := HA.out wr.drew HBd.out.1 j (by omega)
          obtain ⟨d0, d1⟩ := HF.out wr.drew HBd.out.2 j hj7
          have i1 : (0 : Int) ≤ (j : Int) := by omega
          have i2 : (j : Int) < 7 := by omega
          have i4 : (j : Int) < (m.length : Int) := by omega
          have HNE : Hid (m[j]'(by omega) ≠ sevenP[j]'hj7 → E = 172) := fun hne => by
            refine HE3.out ?_
            rw [beq_eq_false_iff_ne]
            intro e
            apply hne
            have : (m.take 7)[j]? = sevenP[j]? := by rw [e]
            rw [List.getElem?_take_of_lt hj7, List.getElem?_eq_getElem (by omega), List.getElem?_eq_getElem (show j < sevenP.length from hj7)] at this
            exact Option.some.inj this
          have HJ2 : Hid (m[j]'(by omega) = sevenP[j]'hj7 → ∀ x (h1 : x < m.length) (h2 : x < 7), x < j + 1 → m[x] = sevenP[x]'h2) := fun he x a b c => by
            rcases Nat.lt_succ_iff_lt_or_eq.1 c with d | rfl
            · exact HJ.out x a b d
            · exact he
          clear HJ
          generalize hsj : sevenP[j]'hj7 = sj at *
          generalize hlj : m[j]'(by omega) = lj at *
          clear hsj hlj
          have qn := fun W => neq_shp lj sj W
          by_cases he : lj = sj
          · have HJ3 : Hid (∀ x (h1 : x < m.length) (h2 : x < 7), x < j + 1 → m[x] = sevenP[x]'h2) := HJ2.out he
            have e1 : decide (lj ≠ sj) = false := decide_eq_false (by simpa using he)
            rw [e1] at qn
            clear HNE HJ2 he
            go_wp2
            go_region
            all_goals
              go_wp2
              go_roundw
              case rel => exact ⟨j + 1, hj7, by go_num, HBd.out, HJ3.out⟩
              case measure => simp [intOf]; omega
          · have HE9 : Hid (E = 172) := HNE.out he
            have e1 : decide (lj ≠ sj) = true := decide_eq_true (by simpa using he)
            rw [e1] at qn
            clear HNE HJ2 he
            go_wp2
            go_region
            all_goals
              go_wp2
              go_ret
              exact ⟨by rw [HE9.out]; rfl, HBd.out.1⟩
        · have HE9 : Hid (E = 0) := by
            refine HE00.out ?_
            rw [beq_iff_eq]
            have hs7 : sevenP.length = 7 := rfl
            refine List.ext_getElem (by rw [List.length_take, hs7]; omega) fun x h1 h2 => ?_
            rw [List.getElem_take]
            rw [List.length_take] at h1
            exact HJ.out x (by omega) (by omega) (by omega)
          have e4 : ¬ ((j : Int) < 7) := by omega
          clear HJ HE00 HE3
          go_wp2
          go_ret
          exact ⟨by rw [HE9.out]; rfl, HB.out.1⟩
end Go.Proofs.YtlpnegnpejpdkaaGreatDoor

namespace Go.Proofs.YtlpnegnpejpdkaaGreatDoor
open Go.RowKit

theorem Tryz.fields53 : (Tryz.prog.fieldsOf 53).toList.map (fun f => (f.name == "_", f.type, f.offset)) = [(false, 3, 0), (false, 3, 1), (false, 3, 2)] := by kernel_rfl
theorem neq_ins (a b : Ins) (w : World) : (binOp .neq 53 (.agg #[.int .i64 a.1, .int .i64 a.2.1, .int .i64 a.2.2]) (.agg #[.int .i64 b.1, .int .i64 b.2.1, .int .i64 b.2.2])).run Tryz.prog w = .ok (.bool (decide (a ≠ b))) w := by
  rw [run_neq_struct]
  have ht : Tryz.prog.underlying 53 = some (.struct (Tryz.prog.fieldsOf 53)) := by kernel_rfl
  rw [run_equalIn_struct w 9999 53 _ _ ht (by kernel_rfl)]
  have hf : ∃ f1 f2 f3 : Field, (Tryz.prog.fieldsOf 53).toList = [f1, f2, f3] ∧ f1.name ≠ "_" ∧ f1.type = 3 ∧ f1.offset = 0 ∧ f2.name ≠ "_" ∧ f2.type = 3 ∧ f2.offset = 1 ∧ f3.name ≠ "_" ∧ f3.type = 3 ∧ f3.offset = 2 := by
    have h := Tryz.fields53
    generalize (Tryz.prog.fieldsOf 53).toList = l at h
    match l, h with
    | [], h => simp at h
    | [_], h => simp at h
    | [_, _], h => simp at h
    | _ :: _ :: _ :: _ :: _, h => simp at h
    | [f1, f2, f3], h =>
      simp only [List.map_cons, List.map_nil, List.cons.injEq, Prod.mk.injEq, and_true, beq_eq_false_iff_ne] at h
      exact ⟨f1, f2, f3, rfl, h.1.1, h.1.2.1, h.1.2.2, h.2.1.1, h.2.1.2.1, h.2.1.2.2, h.2.2.1, h.2.2.2.1, h.2.2.2.2⟩
  obtain ⟨f1, f2, f3, e, n1, t1, o1, n2, t2, o2, n3, t3, o3⟩ := hf
  rw [e]
  simp only [Op.eqFields, if_pos n1, if_pos n2, if_pos n3, t1, t2, t3, o1, o2, o3]
  have q3 := Tryz.underlying3
  by_cases h1 : a.1 = b.1
  · have e1 : (a.1 == b.1) = true := by simpa using h1
    by_cases h2 : a.2.1 = b.2.1
    · have e2 : (a.2.1 == b.2.1) = true := by simpa using h2
      by_cases h3 : a.2.2 = b.2.2
      · have e3 : (a.2.2 == b.2.2) = true := by simpa using h3
        have h4 : decide (a ≠ b) = false := decide_eq_false (by simp [Prod.ext_iff, h1, h2, h3])
        rw [h4]
        go_simp
      · have e3 : (a.2.2 == b.2.2) = false := by simpa using h3
        have h4 : decide (a ≠ b) = true := decide_eq_true (by simp [Prod.ext_iff, h3])
        rw [h4]
        go_simp
    · have e2 : (a.2.1 == b.2.1) = false := by simpa using h2
      have h4 : decide (a ≠ b) = true := decide_eq_true (by simp [Prod.ext_iff, h2])
      rw [h4]
      go_simp
  · have e1 : (a.1 == b.1) = false := by simpa using h1
    have h4 : decide (a ≠ b) = true := decide_eq_true (by simp [Prod.ext_iff, h1])
    rw [h4]
    go_simp
def glbEq : DecidableEq (List UInt8 × Int × List (Int × Int × Int)) := inferInstance
def glbsEq : DecidableEq (List (List UInt8 × Int × List (Int × Int × Int))) := @instDecidableEqList _ glbEq
def tabEq : DecidableEq (List (List UInt8 × Int) × List (List UInt8 × Int × List (Int × Int × Int))) := @instDecidableEqProd _ _ inferInstance glbsEq
/-- Are two tables one? -/
def sameP (t u : Tab) : Bool := @decide (t = u) (tabEq t u)
theorem same_yes {t u : Tab} (h : t = u) : sameP t u = true := @decide_eq_true _ (tabEq t u) h
theorem same_no {t u : Tab} (h : t ≠ u) : sameP t u = false := @decide_eq_false _ (tabEq t u) h
theorem shp_get {w : World} {S : Nat → Prop} {sa : Option Addr} {n sc : Nat} {gv : Value} {t : Tab} (h : TabV w S (.slice sa n sc) gv t) {i : Nat} (hi : i < t.1.length) : ∃ g o, sa = some ⟨g, o, none⟩ ∧ t.1.length ≤ sc ∧ w.cell? ⟨g, o + i * 2, none⟩ = some (.string ⟨t.1[i].1.toArray⟩) ∧ w.cell? ⟨g, o + i * 2 + 1, none⟩ = some (.int .i64 t.1[i].2) := by
  obtain ⟨ad, cap, e, hin⟩ := shp_at h.shp
  injection e with e1 e2 e3
  subst e1 e3
  obtain ⟨g, o, q1, _, q2, q3, q4, _⟩ := hin i hi
  exact ⟨g, o, q1, q2, q3, q4⟩
theorem glb_get {w : World} {S : Nat → Prop} {sv : Value} {ga : Option Addr} {n gc : Nat} {t : Tab} (h : TabV w S sv (.slice ga n gc) t) {i : Nat} (hi : i < t.2.length) : ∃ g o ca cc, ga = some ⟨g, o, none⟩ ∧ t.2.length ≤ gc ∧ w.cell? ⟨g, o + i * 3, none⟩ = some (.string ⟨t.2[i].1.toArray⟩) ∧ w.cell? ⟨g, o + i * 3 + 1, none⟩ = some (.int .i64 t.2[i].2.1) ∧ w.cell? ⟨g, o + i * 3 + 2, none⟩ = some (.slice ca t.2[i].2.2.length cc) ∧ t.2[i].2.2.length < 140737488355328 ∧ RowE EIns w S (fun _ => False) (.slice ca t.2[i].2.2.length cc) t.2[i].2.2 := by
  obtain ⟨ad, cap, e, hin⟩ := glb_at h.glb
  injection e with e1 e2 e3
  subst e1 e3
  obtain ⟨g, o, cv, q1, _, q2, q3, q4, q5, _, q6, q7⟩ := hin i hi
  obtain ⟨ca, cc, rfl⟩ := RowK.len q7
  exact ⟨g, o, ca, cc, q1, q2, q3, q4, q5, q6, q7⟩
theorem ins_get {w : World} {Z S : Nat → Prop} {ca : Option Addr} {n cc : Nat} {l : List Ins} (h : RowE EIns w Z S (.slice ca n cc) l) {i : Nat} (hi : i < l.length) : ∃ g o, ca = some ⟨g, o, none⟩ ∧ l.length ≤ cc ∧ w.cell? ⟨g, o + i * 3, none⟩ = some (.int .i64 l[i].1) ∧ w.cell? ⟨g, o + i * 3 + 1, none⟩ = some (.int .i64 l[i].2.1) ∧ w.cell? ⟨g, o + i * 3 + 2, none⟩ = some (.int .i64 l[i].2.2) := by
  obtain ⟨ad, cap, e, hin⟩ := ins_at h
  injection e with e1 e2 e3
  subst e1 e3
  obtain ⟨g, o, q1, _, q2, q3, q4, q5⟩ := hin i hi
  exact ⟨g, o, q1, q2, q3, q4, q5⟩
set_option maxHeartbeats 16000000 in
set_option maxRecDepth 10000 in
theorem same_tab {w : World} {S S' : Nat → Prop} {sv gv sv' gv' : Value} {t u : Tab} (hS : ∀ b, S b → b < w.heap.size) (hS' : ∀ b, S' b → b < w.heap.size) (h : TabV w S sv gv t) (h' : TabV w S' sv' gv' u) : Calls Tryz.prog 13 #[.agg #[sv, gv], .agg #[sv', gv']] w fun r w' => r = .returned (.bool (sameP t u)) ∧ Hid (Below w.heap.size w w') := by
  obtain ⟨sa, sc, rfl⟩ := RowK.len h.shp
  obtain ⟨ga, gc, rfl⟩ := RowK.len h.glb
  obtain ⟨sa', sc', rfl⟩ := RowK.len h'.shp
  obtain ⟨ga', gc', rfl⟩ := RowK.len h'.glb
  have HT1 : Hid (∀ wr, Below w.heap.size w wr → TabV wr S (.slice sa t.1.length sc) (.slice ga t.2.length gc) t) := fun wr hb => h.on (Keeps.of hb hS)
  have HT2 : Hid (∀ wr, Below w.heap.size w wr → TabV wr S' (.slice sa' u.1.length sc') (.slice ga' u.2.length gc') u) := fun wr hb => h'.on (Keeps.of hb hS')
  obtain ⟨X, hX⟩ : ∃ X, X = w.heap.size := ⟨_, rfl⟩
  obtain ⟨Y, hY⟩ : ∃ Y, Y = w.heap.size + 1 := ⟨_, rfl⟩
  have HXE : Hid (X = w.heap.size) := hX
  have HYE : Hid (Y = w.heap.size + 1) := hY
  obtain ⟨W1, hW1⟩ : ∃ W1, W1 = w.alloc (.cells #[.slice sa t.1.length sc, .slice ga t.2.length gc] 25) := ⟨_, rfl⟩
  obtain ⟨W, hW⟩ : ∃ W, W = W1.alloc (.cells #[.slice sa' u.1.length sc', .slice ga' u.2.length gc'] 25) := ⟨_, rfl⟩
  have s1 : W1.heap.size = w.heap.size + 1 := by rw [hW1]; exact World.size_alloc _ _
  have s2 : W.heap.size = w.heap.size + 2 := by rw [hW, World.size_alloc, s1]
  have b1 : Below w.heap.size w W1 := by rw [hW1]; exact (Below.refl _ _).alloc (Nat.le_refl _) _
  have b2 : Below W1.heap.size W1 W := by rw [hW]; exact (Below.refl _ _).alloc (Nat.le_refl _) _
  have m1 : W.heap[X]? = some (.cells #[.slice sa t.1.length sc, .slice ga t.2.length gc] 25 (0, 0)) := (b2.block X (by omega)).trans (by rw [hW1, hX]; exact new_blk _ _)
  have m2 : W.heap[Y]? = some (.cells #[.slice sa' u.1.length sc', .slice ga' u.2.length gc'] 25 (0, 0)) := by rw [hW, hY, ← s1]; exact new_blk _ _
  have HB0 : Hid (Below w.heap.size w W) := b1.trans (b2.mono (by omega))
  have HBX : Hid (∀ wr, Below W.heap.size W wr → (wr.cell? ⟨X, 0, none⟩ = some (.slice sa t.1.length sc) ∧ wr.cell? ⟨X, 1, none⟩ = some (.slice ga t.2.length gc)) ∧ (wr.cell? ⟨Y, 0, none⟩ = some (.slice sa' u.1.length sc') ∧ wr.cell? ⟨Y, 1, none⟩ = some (.slice ga' u.2.length gc')) ∧ Below w.heap.size w wr) := fun wr hb =>
    ⟨⟨heap_cl ((hb.block X (lt_heap m1)).trans m1) rfl, heap_cl ((hb.block X (lt_heap m1)).trans m1) rfl⟩, ⟨heap_cl ((hb.block Y (lt_heap m2)).trans m2) rfl, heap_cl ((hb.block Y (lt_heap m2)).trans m2) rfl⟩, HB0.out.trans (hb.mono (by omega))⟩
  have hls := h.ls
  have hlg := h.lg
  obtain ⟨F, hF⟩ : ∃ F : Ending → World → Prop, F = fun r w' => r = .returned (.bool (sameP t u)) ∧ Hid (Below w.heap.size w w') := ⟨_, rfl⟩
  rw [← hF]
  have HNO : Hid (∀ wr, t ≠ u → Below W.heap.size W wr → F (.returned (.bool false)) wr) := fun wr hne hb => by rw [hF]; exact ⟨by rw [same_no hne], (HBX.out wr hb).2.2⟩
  have HYES : Hid (∀ wr, t = u → Below W.heap.size W wr → F (.returned (.bool true)) wr) := fun wr he hb => by rw [hF]; exact ⟨by rw [same_yes he], (HBX.out wr hb).2.2⟩
  obtain ⟨⟨x0, x1⟩, ⟨y0, y1⟩, _⟩ := HBX.out W (Below.refl _ _)
  rw [hW1] at hW
  clear hF h h' hX hY s1 s2 b1 b2 m1 m2 HB0 hW1
  go_enter Tryz.func13, Tryz.ntmps13
  go_upto_region 1 with fail
  rw [← HXE.out] at HYE
  rw [← HXE.out, ← HYE.out, ← hW]
  clear hW
  by_cases h1 : t.1.length = u.1.length
  · by_cases h2 : t.2.length = u.2.length
    · have e1 : ((t.1.length : Int) != (u.1.length : Int)) = false := by simp [h1]
      have e2 : ((t.2.length : Int) != (u.2.length : Int)) = false := by simp [h2]
      go_upto_region 4 with fail
      clear e1 e2 x0 x1 y0 y1
      have HB0 : Hid (Below W.heap.size W W) := Below.refl _ _
      go_loopw [5] (fun iv wr => ∃ i : Nat, i ≤ t.1.length ∧ iv = .int .i64 i ∧ Hid (Below W.heap.size W wr) ∧ Hid (∀ k (a : k < t.1.length) (b : k < u.1.length), k < i → t.1[k] = u.1[k])) (fun iv _ => t.1.length - (intOf iv).toNat)
      case atStart => exact ⟨0, Nat.zero_le _, by go_num, HB0.out, fun k _ _ h => by omega⟩
      case round =>
        clear HB0
        obtain ⟨i, hi, rfl, HB, HK⟩ := hrel
        by_cases hil : i < t.1.length
        · have hil2 : i < u.1.length := by omega
          have i1 : (0 : Int) ≤ (i : Int) := by omega
          have i2 : (i : Int) < (t.1.length : Int) := by omega
          have i3 : (i : Int) < (u.1.length : Int) := by omega
          have HBd : Hid (Below W.heap.size W wr.drew) := HB.out.drew
          obtain ⟨⟨x0, x1⟩, ⟨y0, y1⟩, hbw⟩ := HBX.out wr HB.out
          obtain ⟨⟨x0', x1'⟩, ⟨y0', y1'⟩, hbw'⟩ := HBX.out wr.drew HBd.out
          obtain ⟨g, o, rfl, hc1, c0, c1⟩ := shp_get (HT1.out wr.drew hbw') hil
          obtain ⟨g', o', rfl, hc2, d0, d1⟩ := shp_get (HT2.out wr.drew hbw') hil2
          have HKE : Hid (∀ a b, a = t.1[i] → b = u.1[i] → (a.1 = b.1 → a.2 = b.2 → ∀ k (a : k < t.1.length) (b : k < u.1.length), k < i + 1 → t.1[k] = u.1[k]) ∧ (¬ (a.1 = b.1 ∧ a.2 = b.2) → t ≠ u)) := by
            rintro a b rfl rfl
            refine ⟨fun e1 e2 k p q hk => ?_, fun hne e => ?_⟩
            · rcases Nat.lt_succ_iff_lt_or_eq.1 hk with hk | rfl
              · exact HK.out k p q hk
              · exact Prod.ext e1 e2
            · subst e
              exact hne ⟨rfl, rfl⟩
          obtain ⟨a, ha⟩ : ∃ a, a = t.1[i] := ⟨_, rfl⟩
          obtain ⟨b, hb⟩ : ∃ b, b = u.1[i] := ⟨_, rfl⟩
          have HKF := HKE.out a b ha hb
          rw [← ha] at c0 c1
          rw [← hb] at d0 d1
          have HKG : Hid ((a.1 = b.1 → a.2 = b.2 → ∀ k (a : k < t.1.length) (b : k < u.1.length), k < i + 1 → t.1[k] = u.1[k]) ∧ (¬ (a.1 = b.1 ∧ a.2 = b.2) → t ≠ u)) := HKF
          clear HKE HKF ha hb HK
          by_cases q1 : a.1 = b.1
          · by_cases q2 : a.2 = b.2
            · have HK2 : Hid (∀ k (a : k < t.1.length) (b : k < u.1.length), k < i + 1 → t.1[k] = u.1[k]) := HKG.out.1 q1 q2
              clear HKG
              go_upto_region 6 with fail
              go_region
              all_goals
                go_wp2
                go_roundw
                case rel => exact ⟨i + 1, hil, by go_num, HBd.out, HK2.out⟩
                case measure => simp [intOf]; omega
            · have HN : Hid (t ≠ u) := HKG.out.2 fun h => q2 h.2
              clear HKG
              go_upto_region 6 with fail
              go_region
              all_goals
                go_wp2
                exact HNO.out _ HN.out HBd.out
          · have HN : Hid (t ≠ u) := HKG.out.2 fun h => q1 h.1
            clear HKG
            go_upto_region 6 with fail
            go_region
            all_goals
              go_wp2
              exact HNO.out _ HN.out HBd.out
        · have j1 : ¬ ((i : Int) < (t.1.length : Int)) := by omega
          have HS1 : Hid (t.1 = u.1) := List.ext_getElem h1 fun k p q => HK.out k p q (by omega)
          clear HK
          obtain ⟨⟨x0, x1⟩, ⟨y0, y1⟩, hbw⟩ := HBX.out wr HB.out
          go_upto_region 9 with fail
          clear x0 x1 y0 y1 hbw j1
          go_loopw [6] (fun iv wr => ∃ i : Nat, i ≤ t.2.length ∧ iv = .int .i64 i ∧ Hid (Below W.heap.size W wr) ∧ Hid (∀ k (a : k < t.2.length) (b : k < u.2.length), k < i → t.2[k] = u.2[k])) (fun iv _ => t.2.length - (intOf iv).toNat)
          case atStart => exact ⟨0, Nat.zero_le _, by go_num, HB.out, fun k _ _ h => by omega⟩
          case round =>
            clear HB
            obtain ⟨i, hi, rfl, HB, HK⟩ := hrel
            by_cases hil : i < t.2.length
            · have hil2 : i < u.2.length := by omega
              have i1 : (0 : Int) ≤ (i : Int) := by omega
              have i2 : (i : Int) < (t.2.length : Int) := by omega
              have i3 : (i : Int) < (u.2.length : Int) := by omega
              obtain ⟨⟨x0, x1⟩, ⟨y0, y1⟩, hbw⟩ := HBX.out wr HB.out
              obtain ⟨g, o, ca, cc, rfl, hc1, c0, c1, c2, hcl, hrow⟩ := glb_get (HT1.out wr hbw) hil
              have hKK : ∀ a b, a = t.2[i] → b = u.2[i] → (a = b → ∀ k (a : k < t.2.length) (b : k < u.2.length), k < i + 1 → t.2[k] = u.2[k]) ∧ (a ≠ b → t ≠ u) := by
                rintro a b rfl rfl
                refine ⟨fun e k p q hk => ?_, fun hne e => ?_⟩
                · rcases Nat.lt_succ_iff_lt_or_eq.1 hk with hk | rfl
                  · exact HK.out k p q hk
                  · exact e
                · subst e
                  exact hne rfl
              obtain ⟨V1, hV1⟩ : ∃ V1, V1 = wr.alloc (.cells #[.string ⟨t.2[i].1.toArray⟩, .int .i64 t.2[i].2.1, .slice ca t.2[i].2.2.length cc] 51) := ⟨_, rfl⟩
              have bV1 : Below wr.heap.size wr V1 := by rw [hV1]; exact (Below.refl _ _).alloc (Nat.le_refl _) _
              have sV1 : V1.heap.size = wr.heap.size + 1 := by rw [hV1]; exact World.size_alloc _ _
              obtain ⟨⟨x0', x1'⟩, ⟨y0', y1'⟩, hbw1⟩ := HBX.out V1 (HB.out.trans (bV1.mono HB.out.size))
              obtain ⟨g', o', ca', cc', rfl, hc2, d0, d1, d2, hcl', hrow'⟩ := glb_get (HT2.out V1 hbw1) hil2
              obtain ⟨V2, hV2⟩ : ∃ V2, V2 = V1.alloc (.cells #[.string ⟨u.2[i].1.toArray⟩, .int .i64 u.2[i].2.1, .slice ca' u.2[i].2.2.length cc'] 51) := ⟨_, rfl⟩
              have bV2 : Below V1.heap.size V1 V2 := by rw [hV2]; exact (Below.refl _ _).alloc (Nat.le_refl _) _
              obtain ⟨Z1, hZ1⟩ : ∃ Z, Z = wr.heap.size := ⟨_, rfl⟩
              obtain ⟨Z2, hZ2⟩ : ∃ Z, Z = V1.heap.size := ⟨_, rfl⟩
              have m1 : V2.heap[Z1]? = some (.cells #[.string ⟨t.2[i].1.toArray⟩, .int .i64 t.2[i].2.1, .slice ca t.2[i].2.2.length cc] 51 (0, 0)) := (bV2.block Z1 (by omega)).trans (by rw [hV1, hZ1]; exact new_blk _ _)
              have m2 : V2.heap[Z2]? = some (.cells #[.string ⟨u.2[i].1.toArray⟩, .int .i64 u.2[i].2.1, .slice ca' u.2[i].2.2.length cc'] 51 (0, 0)) := by rw [hV2, hZ2]; exact new_blk _ _
              have bV : Below wr.heap.size wr V2 := bV1.trans (bV2.mono bV1.size)
              have HBV : Hid (Below W.heap.size W V2) := HB.out.trans (bV.mono HB.out.size)
              have hrow2 : RowE EIns V2 S (fun _ => False) (.slice ca t.2[i].2.2.length cc) t.2[i].2.2 := hrow.on (Keeps.of bV fun b hb => Nat.lt_of_lt_of_le (hS b hb) hbw.size) (Keeps.of bV fun _ h => h.elim) (fun _ h => h) fun _ h => h
              have hrow2' : RowE EIns V2 S' (fun _ => False) (.slice ca' u.2[i].2.2.length cc') u.2[i].2.2 := hrow'.on (Keeps.of bV2 fun b hb => Nat.lt_of_lt_of_le (hS' b hb) hbw1.size) (Keeps.of bV2 fun _ h => h.elim) (fun _ h => h) fun _ h => h
              have hsz : w.heap.size ≤ V2.heap.size := Nat.le_trans hbw.size bV.size
              have HKK := hKK t.2[i] u.2[i] rfl rfl
              have HZ1 : Hid (Z1 = wr.heap.size) := hZ1
              have HZ2 : Hid (Z2 = V1.heap.size) := hZ2
              have HV1 : Hid (V1 = wr.alloc (.cells #[.string ⟨t.2[i].1.toArray⟩, .int .i64 t.2[i].2.1, .slice ca t.2[i].2.2.length cc] 51)) := hV1
              have HV2 : Hid (V2 = V1.alloc (.cells #[.string ⟨u.2[i].1.toArray⟩, .int .i64 u.2[i].2.1, .slice ca' u.2[i].2.2.length cc'] 51)) := hV2
              clear hKK hV1 hV2 hZ1 hZ2 hrow hrow' bV1 bV2 bV sV1 hbw hbw1 HK HB
              generalize t.2[i] = A at *
              generalize u.2[i] = B at *
              obtain ⟨nm, ar, code⟩ := A
              obtain ⟨nm', ar', code'⟩ := B
              replace HKK : Hid (((nm, ar, code) = (nm', ar', code') → ∀ k (a : k < t.2.length) (b : k < u.2.length), k < i + 1 → t.2[k] = u.2[k]) ∧ ((nm, ar, code) ≠ (nm', ar', code') → t ≠ u)) := HKK
              dsimp only at c0 c1 c2 d0 d1 d2 hcl hcl' hrow2 hrow2' m1 m2 HV1 HV2
              have HR1 : Hid (∀ wi, Below V2.heap.size V2 wi → RowE EIns wi S (fun _ => False) (.slice ca code.length cc) code) := fun wi hb => hrow2.on (Keeps.of hb fun b h => Nat.lt_of_lt_of_le (hS b h) hsz) (Keeps.of hb fun _ h => h.elim) (fun _ h => h) fun _ h => h
              have HR2 : Hid (∀ wi, Below V2.heap.size V2 wi → RowE EIns wi S' (fun _ => False) (.slice ca' code'.length cc') code') := fun wi hb => hrow2'.on (Keeps.of hb fun b h => Nat.lt_of_lt_of_le (hS' b h) hsz) (Keeps.of hb fun _ h => h.elim) (fun _ h => h) fun _ h => h
              have HZ : Hid (∀ wi, Below V2.heap.size V2 wi → wi.cell? ⟨Z1, 2, none⟩ = some (.slice ca code.length cc) ∧ wi.cell? ⟨Z2, 2, none⟩ = some (.slice ca' code'.length cc')) := fun wi hb => ⟨heap_cl ((hb.block Z1 (lt_heap m1)).trans m1) rfl, heap_cl ((hb.block Z2 (lt_heap m2)).trans m2) rfl⟩
              have z0 : V2.cell? ⟨Z1, 0, none⟩ = some (.string ⟨nm.toArray⟩) := heap_cl m1 rfl
              have z1 : V2.cell? ⟨Z1, 1, none⟩ = some (.int .i64 ar) := heap_cl m1 rfl
              have z2 : V2.cell? ⟨Z1, 2, none⟩ = some (.slice ca code.length cc) := heap_cl m1 rfl
              have t0 : V2.cell? ⟨Z2, 0, none⟩ = some (.string ⟨nm'.toArray⟩) := heap_cl m2 rfl
              have t1 : V2.cell? ⟨Z2, 1, none⟩ = some (.int .i64 ar') := heap_cl m2 rfl
              have t2 : V2.cell? ⟨Z2, 2, none⟩ = some (.slice ca' code'.length cc') := heap_cl m2 rfl
              clear hrow2 hrow2' m1 m2 hsz
              go_upto_region 12 with fail
              rw [← HV1.out, ← HZ1.out]
              clear c0 c1 c2 x0 x1 y0 y1
              go_upto_region 13 with fail
              rw [← HV2.out, ← HZ2.out]
              clear d0 d1 d2 x0' x1' y0' y1' HV1 HV2 HZ1 HZ2
              by_cases q1 : nm = nm'
              · by_cases q2 : ar = ar'
                · by_cases q3 : code.length = code'.length
                  · have p1 : (nm == nm') = true := by simp [q1]
                    have p2 : (ar == ar') = true := by simp [q2]
                    have p3 : ((code.length : Int) != (code'.length : Int)) = false := by simp [q3]
                    have HKE : Hid ((code = code' → ∀ k (a : k < t.2.length) (b : k < u.2.length), k < i + 1 → t.2[k] = u.2[k]) ∧ (code ≠ code' → t ≠ u)) := ⟨fun e => HKK.out.1 (by rw [q1, q2, e]), fun hne => HKK.out.2 fun e => hne (by injection e with _ e; injection e)⟩
                    have Q3 : Hid (code.length = code'.length) := q3
                    subst q1
                    subst q2
                    clear HKK q3
                    go_upto_region 16 with fail
                    clear p1 p2 p3 z0 z1 z2 t0 t1 t2
                    have HB0 : Hid (Below V2.heap.size V2 V2) := Below.refl _ _
                    go_loopw [9] (fun jv wi => ∃ j : Nat, j ≤ code.length ∧ jv = .int .i64 j ∧ Hid (Below V2.heap.size V2 wi) ∧ Hid (∀ k (a : k < code.length) (b : k < code'.length), k < j → code[k] = code'[k])) (fun jv _ => code.length - (intOf jv).toNat)
                    case atStart => exact ⟨0, Nat.zero_le _, by go_num, HB0.out, fun k _ _ h => by omega⟩
                    case round =>
                      clear HB0
                      obtain ⟨j, hj, rfl, HBi, HK⟩ := hrel
                      by_cases hjl : j < code.length
                      · have hjl2 : j < code'.length := by have := Q3.out; omega
                        have i4 : (0 : Int) ≤ (j : Int) := by omega
                        have i5 : (j : Int) < (code.length : Int) := by omega
                        have i6 : (j : Int) < (code'.length : Int) := by omega
                        have HBd : Hid (Below V2.heap.size V2 wr.drew) := HBi.out.drew
                        obtain ⟨z2, t2⟩ := HZ.out wr HBi.out
                        obtain ⟨z2', t2'⟩ := HZ.out wr.drew HBd.out
                        obtain ⟨ig, io, rfl, ic1, k0, k1, k2⟩ := ins_get (HR1.out wr.drew HBd.out) hjl
                        obtain ⟨jg, jo, rfl, ic2, n0, n1, n2⟩ := ins_get (HR2.out wr.drew HBd.out) hjl2
                        have hKK : ∀ a b, a = code[j] → b = code'[j] → (a = b → ∀ k (a : k < code.length) (b : k < code'.length), k < j + 1 → code[k] = code'[k]) ∧ (a ≠ b → code ≠ code') := by
                          rintro a b rfl rfl
                          refine ⟨fun e k p q hk => ?_, fun hne e => ?_⟩
                          · rcases Nat.lt_succ_iff_lt_or_eq.1 hk with hk | rfl
                            · exact HK.out k p q hk
                            · exact e
                          · subst e
                            exact hne rfl
                        have HKJ := hKK code[j] code'[j] rfl rfl
                        clear hKK HK
                        generalize code[j] = a at *
                        generalize code'[j] = b at *
                        obtain ⟨a0, a1, a2⟩ := a
                        obtain ⟨b0, b1, b2⟩ := b
                        replace HKJ : Hid (((a0, a1, a2) = (b0, b1, b2) → ∀ k (a : k < code.length) (b : k < code'.length), k < j + 1 → code[k] = code'[k]) ∧ ((a0, a1, a2) ≠ (b0, b1, b2) → code ≠ code')) := HKJ
                        dsimp only at k0 k1 k2 n0 n1 n2
                        have HBW : Hid (Below W.heap.size W wr.drew) := HBV.out.trans (HBd.out.mono HBV.out.size)
                        by_cases w0 : a0 = b0
                        · by_cases w1 : a1 = b1
                          · by_cases w2 : a2 = b2
                            · have HK2 : Hid (∀ k (a : k < code.length) (b : k < code'.length), k < j + 1 → code[k] = code'[k]) := HKJ.out.1 (by rw [w0, w1, w2])
                              clear HKJ
                              go_upto_region 18 with fail
                              go_region
                              all_goals
                                go_wp2
                                go_roundw
                                case rel => exact ⟨j + 1, hjl, by go_num, HBd.out, HK2.out⟩
                                case measure => simp [intOf]; omega
                            · have HN : Hid (t ≠ u) := HKE.out.2 (HKJ.out.2 fun e => w2 (by injection e with _ e; injection e))
                              clear HKJ HKE
                              go_upto_region 18 with fail
                              go_region
                              all_goals
                                go_wp2
                                exact HNO.out _ HN.out HBW.out
                          · have HN : Hid (t ≠ u) := HKE.out.2 (HKJ.out.2 fun e => w1 (by injection e with _ e; injection e))
                            clear HKJ HKE
                            go_upto_region 18 with fail
                            go_region
                            all_goals
                              go_wp2
                              exact HNO.out _ HN.out HBW.out
                        · have HN : Hid (t ≠ u) := HKE.out.2 (HKJ.out.2 fun e => w0 (by injection e))
                          clear HKJ HKE
                          go_upto_region 18 with fail
                          go_region
                          all_goals
                            go_wp2
                            exact HNO.out _ HN.out HBW.out
                      · have j1 : ¬ ((j : Int) < (code.length : Int)) := by omega
                        have HCE : code = code' := List.ext_getElem Q3.out fun k p q => HK.out k p q (by omega)
                        have HK2 : Hid (∀ k (a : k < t.2.length) (b : k < u.2.length), k < i + 1 → t.2[k] = u.2[k]) := HKE.out.1 HCE
                        obtain ⟨z2, t2⟩ := HZ.out wr HBi.out
                        clear HCE HK HKE
                        go_wp2
                        go_roundw
                        case rel => exact ⟨i + 1, hil, by go_num, HBV.out.trans (HBi.out.mono HBV.out.size), HK2.out⟩
                        case measure => simp [intOf]; omega
                  · have p1 : (nm == nm') = true := by simp [q1]
                    have p2 : (ar == ar') = true := by simp [q2]
                    have p3 : ((code.length : Int) != (code'.length : Int)) = true := by simp; omega
                    have HN : Hid (t ≠ u) := HKK.out.2 fun e => q3 (by injection e with _ e; injection e with _ e; rw [e])
                    subst q1
                    subst q2
                    clear HKK
                    go_wp2
                    exact HNO.out _ HN.out HBV.out
                · have p1 : (nm == nm') = true := by simp [q1]
                  have HN : Hid (t ≠ u) := HKK.out.2 fun e => q2 (by injection e with _ e; injection e)
                  have p2 : (ar != ar') = true := by simp [q2]
                  subst q1
                  clear HKK
                  go_wp2
                  exact HNO.out _ HN.out HBV.out
              · have p1 : (nm != nm') = true := by simp [q1]
                have HN : Hid (t ≠ u) := HKK.out.2 fun e => q1 (by injection e)
                clear HKK
                go_wp2
                exact HNO.out _ HN.out HBV.out
            · have j1 : ¬ ((i : Int) < (t.2.length : Int)) := by omega
              have HS2 : t.2 = u.2 := List.ext_getElem h2 fun k p q => HK.out k p q (by omega)
              have HTU : Hid (t = u) := Prod.ext HS1.out HS2
              obtain ⟨⟨x0, x1⟩, ⟨y0, y1⟩, hbw⟩ := HBX.out wr HB.out
              clear HK HS2
              go_wp2
              exact HYES.out _ HTU.out HB.out
    · have e1 : ((t.1.length : Int) != (u.1.length : Int)) = false := by simp [h1]
      have e2 : ((t.2.length : Int) != (u.2.length : Int)) = true := by simp; omega
      go_wp2
      exact HNO.out _ (fun e => h2 (by rw [e])) (Below.refl _ _)
  · have e1 : ((t.1.length : Int) != (u.1.length : Int)) = true := by simp; omega
    go_wp2
    exact HNO.out _ (fun e => h1 (by rw [e])) (Below.refl _ _)
end Go.Proofs.YtlpnegnpejpdkaaGreatDoor

namespace Go.Proofs.YtlpnegnpejpdkaaGreatDoor
open Go.RowKit

theorem TabV.up {w : World} {S S' : Nat → Prop} {sv gv : Value} {t : Tab} (h : TabV w S sv gv t) (hS : ∀ b, S b → S' b) : TabV w S' sv gv t := ⟨h.shp.on (Keeps.refl _ _) (Keeps.refl _ _) hS hS, h.glb.on (Keeps.refl _ _) (Keeps.refl _ _) hS hS, h.ls, h.lg⟩
/-- What the example asks of memory. -/
structure AwIn (w : World) : Prop where
  first : FirstAt w
  rd : RdS w
theorem AwIn.below {w w' : World} (h : AwIn w) (hb : Below w.heap.size w w') : AwIn w' := ⟨h.first.below hb, h.rd.below hb⟩
theorem id_small : Small idT := by
  intro g hg x hx
  have : ∀ g ∈ idT.2, ∀ x ∈ g.2.2, x.2.1 < 9223372036854775808 ∧ x.2.2 < 9223372036854775808 := by decide
  exact this g hg x hx
theorem id_ck {w w' : World} {sv gv : Value} (hA : AwIn w') (h : TabV w' (fun y => w.heap.size ≤ y ∧ y < w'.heap.size) sv gv idT) : CkIn w' sv gv idT := ⟨h.up fun _ h => h.2, hA.first, hA.rd.rows, id_small⟩
theorem id_sizes : idT.1.length < 140737488355328 ∧ idT.2.length < 140737488355328 ∧ ∀ g ∈ idT.2, g.2.2.length < 140737488355328 := by decide
set_option maxRecDepth 100000 in
theorem id_tshort : ¬ 8388608 < idText.length := by decide
theorem id_tsmall : idText.length < 140737488355328 := by have := id_tshort; omega
theorem id_print {w w' : World} {sv gv : Value} (hA : AwIn w') (h : TabV w' (fun y => w.heap.size ≤ y ∧ y < w'.heap.size) sv gv idT) : Calls Tryz.prog 17 #[.agg #[sv, gv]] w' fun r w2 => r = .returned (.tuple #[.string ⟨idText.toArray⟩, .int .i64 0]) ∧ Hid (Below w'.heap.size w' w2) :=
  (print_any ⟨id_ck hA h, hA.rd.ops, hA.rd.num.pt⟩).mono fun r w2 hp => ⟨(hp.good id_check (by rw [id_text]; exact id_tshort)).trans (by rw [id_text]), hp.bel⟩
theorem id_reads {w : World} (hA : AwIn w) : Calls Tryz.prog 19 #[.string ⟨idText.toArray⟩] w fun r w' => ∃ sa sc ga gc, r = .returned (.tuple #[.agg #[.slice sa idT.1.length sc, .slice ga idT.2.length gc], .int .i64 0]) ∧ Hid (TabV w' (fun y => y < w'.heap.size) (.slice sa idT.1.length sc) (.slice ga idT.2.length gc) idT ∧ Below w.heap.size w w') :=
  (read_any hA.rd id_tsmall).mono fun r w' hp => by
    obtain ⟨sv, gv, raws, Bt, h1, _, h2⟩ := hp.good id_tshort idT id_read id_big
    have h3 := h2.out.tabV id_sizes.1 id_sizes.2.1 id_sizes.2.2
    obtain ⟨sa, sc, rfl⟩ := RowK.len h3.shp
    obtain ⟨ga, gc, rfl⟩ := RowK.len h3.glb
    exact ⟨sa, sc, ga, gc, h1, h3, hp.bel⟩
set_option maxRecDepth 100000 in
theorem id_short : ¬ 8388608 < (bytesW idT).length := by decide
theorem id_byte {w w' : World} {sv gv : Value} (hA : AwIn w') (h : TabV w' (fun y => w.heap.size ≤ y ∧ y < w'.heap.size) sv gv idT) : Calls Tryz.prog 22 #[.agg #[sv, gv]] w' fun r w2 => ∃ ba bc, r = .returned (.tuple #[.slice ba (bytesW idT).length bc, .int .i64 0]) ∧ Hid (Bts w2 (.slice ba (bytesW idT).length bc) (bytesW idT) ∧ Below w'.heap.size w' w2) :=
  (bytes_any (id_ck hA h)).mono fun r w2 hp => by
    obtain ⟨h0, _, _, h3⟩ := hp
    obtain ⟨v, h4, h5⟩ := h3 id_check id_short
    have h6 := own_bts h5.out
    obtain ⟨ad, cap, rfl, h7⟩ := id h6
    exact ⟨ad, cap, h4, h6, h0.out⟩
theorem id_loads {w : World} {u : Value} (hA : AwIn w) (hb : Bts w u (bytesW idT)) : Calls Tryz.prog 25 #[u] w fun r w' => ∃ sa sc ga gc, r = .returned (.tuple #[.agg #[.slice sa idT.1.length sc, .slice ga idT.2.length gc], .int .i64 0]) ∧ Hid (TabV w' (fun y => y < w'.heap.size) (.slice sa idT.1.length sc) (.slice ga idT.2.length gc) idT ∧ Below w.heap.size w w') :=
  (load_any ⟨hb, by have := id_short; omega, hA.first, hA.rd.rows⟩).mono fun r w' hp => by
    obtain ⟨sv, gv, raws, Bt, h1, _, h2⟩ := hp.good id_short idT id_load
    have h3 := h2.out.tabV id_sizes.1 id_sizes.2.1 id_sizes.2.2
    obtain ⟨sa, sc, rfl⟩ := RowK.len h3.shp
    obtain ⟨ga, gc, rfl⟩ := RowK.len h3.glb
    exact ⟨sa, sc, ga, gc, h1, h3, hp.bel⟩
theorem id_same {w w0 : World} {S : Nat → Prop} {sv gv sv' gv' : Value} (h : TabV w S sv gv idT) (hS : ∀ b, S b → b < w.heap.size) (h' : TabV w (fun y => w0.heap.size ≤ y ∧ y < w.heap.size) sv' gv' idT) : Calls Tryz.prog 13 #[.agg #[sv, gv], .agg #[sv', gv']] w fun r w' => r = .returned (.bool true) ∧ Hid (Below w.heap.size w w') :=
  (same_tab hS (fun _ h => h.2) h h').mono fun r w' hp => ⟨hp.1.trans (by rw [same_yes rfl]), hp.2⟩
set_option maxHeartbeats 16000000 in
set_option maxRecDepth 10000 in
theorem awake_any {w : World} (h : AwIn w) : Calls Tryz.prog 9 #[] w fun r w' => r = .returned (.bool true) ∧ Hid (Below w.heap.size w w') := by
  have HA : Hid (∀ wr, Below w.heap.size w wr → AwIn wr) := fun wr hb => h.below hb
  obtain ⟨F, hF⟩ : ∃ F : Ending → World → Prop, F = fun r w' => r = .returned (.bool true) ∧ Hid (Below w.heap.size w w') := ⟨_, rfl⟩
  rw [← hF]
  have HF : Hid (∀ wr, Below w.heap.size w wr → F (.returned (.bool true)) wr) := fun wr hb => by rw [hF]; exact ⟨rfl, hb⟩
  have CI := fun W => id_any W
  clear hF h
  go_enter Tryz.func9, Tryz.ntmps9
  go_upto_region 2 with fail
  rw [show ((([115, 104, 97, 112, 101, 32, 34, 70, 97, 108, 115, 101, 34, 32, 48, 10, 115, 104, 97, 112, 101, 32, 34, 84, 114, 117, 101, 34, 32, 48, 10, 115, 104, 97, 112, 101, 32, 34, 85] : List UInt8).append [110, 105, 116, 34, 32, 48, 10, 115, 104, 97, 112, 101, 32, 34, 78, 105, 108, 34, 32, 48, 10, 115, 104, 97, 112, 101, 32, 34, 67, 111, 110, 115, 34, 32, 50, 10, 115, 104, 97, 112]).append (([101, 32, 34, 80, 97, 105, 114, 34, 32, 50, 10, 115, 104, 97, 112, 101, 32, 34, 84, 114, 105, 112, 108, 101, 34, 32, 51, 10, 103, 108, 111, 98, 97, 108, 32, 34, 105, 100, 34] : List UInt8).append [32, 49, 10, 32, 32, 112, 117, 115, 104, 32, 48, 10, 32, 32, 117, 112, 100, 97, 116, 101, 32, 50, 10, 32, 32, 112, 111, 112, 32, 49, 10, 32, 32, 117, 110, 119, 105, 110, 100, 10])).toArray = idText.toArray from rfl]
  go_upto_region 3 with (first | (go_at_call 26; (with_reducible refine Calls.mono (CI _) ?_); rintro e1 w1 ⟨⟨sv1, gv1, rfl, HT1⟩, HI1⟩; have HB1 : Hid (Below w.heap.size w w1) := HI1.out; have CK := check_any (id_ck (HA.out w1 HB1.out) HT1.out); rw [id_check] at CK) | (go_at_call 11; (with_reducible refine Calls.mono CK ?_); rintro e2 w2 ⟨rfl, H2⟩; have HB2 : Hid (Below w.heap.size w w2) := HB1.out.trans (H2.out.mono HB1.out.size); clear CK HT1 HI1 H2))
  go_upto_region 4 with (first | (go_at_call 26; (with_reducible refine Calls.mono (CI _) ?_); rintro e1 w3 ⟨⟨sv3, gv3, rfl, HT3⟩, HI3⟩; have HB3 : Hid (Below w.heap.size w w3) := HB2.out.trans (HI3.out.mono HB2.out.size); have CK := id_print (HA.out w3 HB3.out) HT3.out) | (go_at_call 17; (with_reducible refine Calls.mono CK ?_); rintro e2 w4 ⟨rfl, H4⟩; have HB4 : Hid (Below w.heap.size w w4) := HB3.out.trans (H4.out.mono HB3.out.size); clear CK HT3 HI3 H4))
  have CR := id_reads (HA.out w4 HB4.out)
  go_upto_region 5 with (go_at_call 19; (with_reducible refine Calls.mono CR ?_); rintro e2 w5 ⟨sa, sc, ga, gc, rfl, H5⟩; have HB5 : Hid (Below w.heap.size w w5) := HB4.out.trans (H5.out.2.mono HB4.out.size); clear CR)
  obtain ⟨Z5, hZ5⟩ : ∃ Z, Z = w5.heap.size := ⟨_, rfl⟩
  obtain ⟨V5, hV5⟩ : ∃ V, V = w5.alloc (.cells #[.slice sa idT.1.length sc, .slice ga idT.2.length gc] 25) := ⟨_, rfl⟩
  rw [← hZ5, ← hV5]
  have b5 : Below w5.heap.size w5 V5 := by rw [hV5]; exact (Below.refl _ _).alloc (Nat.le_refl _) _
  have HV5 : Hid (Below w.heap.size w V5 ∧ V5.heap[Z5]? = some (.cells #[.slice sa idT.1.length sc, .slice ga idT.2.length gc] 25 (0, 0)) ∧ TabV V5 (fun y => y < V5.heap.size) (.slice sa idT.1.length sc) (.slice ga idT.2.length gc) idT) := ⟨HB5.out.trans (b5.mono HB5.out.size), by rw [hV5, hZ5]; exact new_blk _ _, (H5.out.1.on (Keeps.of b5 fun _ h => h)).up fun _ h => Nat.lt_of_lt_of_le h b5.size⟩
  clear H5 HB5 hZ5 hV5 b5
  go_upto_region 6 with (first | (go_at_call 26; (with_reducible refine Calls.mono (CI _) ?_); rintro e1 w6 ⟨⟨sv6, gv6, rfl, HT6⟩, HI6⟩; have HB6 : Hid (Below w.heap.size w w6) := HV5.out.1.trans (HI6.out.mono HV5.out.1.size); have CK := id_byte (HA.out w6 HB6.out) HT6.out) | (go_at_call 22; (with_reducible refine Calls.mono CK ?_); rintro e2 w7 ⟨ba, bc, rfl, H7⟩; have HB7 : Hid (Below w.heap.size w w7) := HB6.out.trans (H7.out.2.mono HB6.out.size); have HK7 : Hid (Below V5.heap.size V5 w7) := HI6.out.trans (H7.out.2.mono HI6.out.size); clear CK HT6 HI6))
  have CL := id_loads (HA.out w7 HB7.out) H7.out.1
  clear H7
  go_upto_region 7 with (go_at_call 25; (with_reducible refine Calls.mono CL ?_); rintro e2 w8 ⟨la, lc, ha, hc, rfl, H8⟩; have HB8 : Hid (Below w.heap.size w w8) := HB7.out.trans (H8.out.2.mono HB7.out.size); clear CL)
  obtain ⟨Z8, hZ8⟩ : ∃ Z, Z = w8.heap.size := ⟨_, rfl⟩
  obtain ⟨V8, hV8⟩ : ∃ V, V = w8.alloc (.cells #[.slice la idT.1.length lc, .slice ha idT.2.length hc] 25) := ⟨_, rfl⟩
  rw [← hZ8, ← hV8]
  have b8 : Below w8.heap.size w8 V8 := by rw [hV8]; exact (Below.refl _ _).alloc (Nat.le_refl _) _
  have HV8 : Hid (Below w.heap.size w V8 ∧ V8.heap[Z8]? = some (.cells #[.slice la idT.1.length lc, .slice ha idT.2.length hc] 25 (0, 0)) ∧ TabV V8 (fun y => y < V8.heap.size) (.slice la idT.1.length lc) (.slice ha idT.2.length hc) idT) := ⟨HB8.out.trans (b8.mono HB8.out.size), by rw [hV8, hZ8]; exact new_blk _ _, (H8.out.1.on (Keeps.of b8 fun _ h => h)).up fun _ h => Nat.lt_of_lt_of_le h b8.size⟩
  have HK8 : Hid (Below V5.heap.size V5 V8) := HK7.out.trans ((H8.out.2.mono HK7.out.size).trans (b8.mono (Nat.le_trans HK7.out.size H8.out.2.size)))
  clear H8 HB8 hZ8 hV8 b8
  obtain ⟨D7, hD⟩ : ∃ X : World, X = V8.drew := ⟨_, rfl⟩
  have HD7 : Hid (Below w.heap.size w D7 ∧ Below V5.heap.size V5 D7) := by rw [hD]; exact ⟨HV8.out.1.drew, HK8.out.drew⟩
  have HD7b : Hid (Below V8.heap.size V8 D7) := by rw [hD]; exact (Below.refl _ _).drew
  have HC7 : Hid (∀ W', Below V5.heap.size V5 W' → W'.cell? ⟨Z5, 0, none⟩ = some (.slice sa idT.1.length sc) ∧ W'.cell? ⟨Z5, 1, none⟩ = some (.slice ga idT.2.length gc)) := fun W' hb => ⟨heap_cl ((hb.block _ (lt_heap HV5.out.2.1)).trans HV5.out.2.1) rfl, heap_cl ((hb.block _ (lt_heap HV5.out.2.1)).trans HV5.out.2.1) rfl⟩
  have hS0 : (fun w' : World => w'.cell? ⟨Z5, 0, none⟩ = some (.slice sa idT.1.length sc) ∧ w'.cell? ⟨Z5, 1, none⟩ = some (.slice ga idT.2.length gc)) D7 := HC7.out _ HD7.out.2
  refine wp_region_M (S := (fun w' : World => w'.cell? ⟨Z5, 0, none⟩ = some (.slice sa idT.1.length sc) ∧ w'.cell? ⟨Z5, 1, none⟩ = some (.slice ga idT.2.length gc))) (L := 100) (n := 4) (by kernel_rfl) rfl (by kernel_rfl) ?_
  rw [← hD]
  clear hD
  refine wpAnyK_go (i := 0) (m' := 1) (some 35) (v := .agg #[.slice sa idT.1.length sc, .slice ga idT.2.length gc]) rfl rfl (by kernel_rfl) (by kernel_rfl) (by kernel_rfl) (by kernel_rfl) (by kernel_rfl) (fun _ _ _ h => h) (Or.inl ⟨by rfl, ?_⟩) hS0 ?_
  · intro w' hSw
    obtain ⟨p0, p1⟩ := hSw
    go_simp
  try simp only [Act.put, List.setIfInBounds_toArray, List.set_cons_zero, List.set_cons_succ]
  refine wpAnyK_only (i := 1) (m' := 3) (by kernel_rfl) rfl (by kernel_rfl) fun K hK => ?_
  go_simp
  (with_reducible refine Calls.mono (CI _) ?_)
  rintro e1 u7 ⟨⟨sv9, gv9, rfl, HT9⟩, HI9⟩
  go_simp
  have HU7 : Hid (Below w.heap.size w u7 ∧ Below V5.heap.size V5 u7) := ⟨HD7.out.1.trans (HI9.out.mono HD7.out.1.size), HD7.out.2.trans (HI9.out.mono HD7.out.2.size)⟩
  have HU7b : Hid (Below V8.heap.size V8 u7) := HD7b.out.trans (HI9.out.mono HD7b.out.size)
  have CK := id_same (HV5.out.2.2.on (Keeps.of HU7.out.2 fun _ h => h)) (fun b (hb : b < V5.heap.size) => Nat.lt_of_lt_of_le hb HU7.out.2.size) HT9.out
  refine hK.out _ _ (fun _ => HC7.out _ HU7.out.2) ?_
  clear hK K hS0 HT9 HI9
  try simp only [Act.put, List.setIfInBounds_toArray, List.set_cons_zero, List.set_cons_succ]
  refine wpAnyK_only (i := 2) (m' := 7) (by kernel_rfl) rfl (by kernel_rfl) fun K hK => ?_
  go_simp
  (with_reducible refine Calls.mono CK ?_)
  rintro e1 v7 ⟨rfl, H9⟩
  go_simp
  have HX7 : Hid (Below w.heap.size w v7 ∧ Below V5.heap.size V5 v7) := ⟨HU7.out.1.trans (H9.out.mono HU7.out.1.size), HU7.out.2.trans (H9.out.mono HU7.out.2.size)⟩
  have HX7b : Hid (Below V8.heap.size V8 v7) := HU7b.out.trans (H9.out.mono HU7b.out.size)
  refine hK.out _ _ (fun _ => HC7.out _ HX7.out.2) ?_
  clear hK K CK H9
  try simp only [Act.put, List.setIfInBounds_toArray, List.set_cons_zero, List.set_cons_succ]
  refine wpAnyK_only (i := 3) (m' := 15) (by kernel_rfl) rfl (by kernel_rfl) fun K hK => ?_
  go_simp
  refine hK.out _ _ (fun _ => HC7.out _ HX7.out.2) ?_
  clear hK K
  try simp only [Act.put, List.setIfInBounds_toArray, List.set_cons_zero, List.set_cons_succ]
  refine wpAnyK_done (by kernel_rfl) ?_ _
  have HK9 : Hid (Below V8.heap.size V8 v7) := HX7b.out
  go_upto_region 8 with fail
  obtain ⟨D8, hD⟩ : ∃ X : World, X = v7.drew := ⟨_, rfl⟩
  have HD8 : Hid (Below w.heap.size w D8 ∧ Below V8.heap.size V8 D8) := by rw [hD]; exact ⟨HX7.out.1.drew, HK9.out.drew⟩
  have HC8 : Hid (∀ W', Below V8.heap.size V8 W' → W'.cell? ⟨Z8, 0, none⟩ = some (.slice la idT.1.length lc) ∧ W'.cell? ⟨Z8, 1, none⟩ = some (.slice ha idT.2.length hc)) := fun W' hb => ⟨heap_cl ((hb.block _ (lt_heap HV8.out.2.1)).trans HV8.out.2.1) rfl, heap_cl ((hb.block _ (lt_heap HV8.out.2.1)).trans HV8.out.2.1) rfl⟩
  have hS0 : (fun w' : World => w'.cell? ⟨Z8, 0, none⟩ = some (.slice la idT.1.length lc) ∧ w'.cell? ⟨Z8, 1, none⟩ = some (.slice ha idT.2.length hc)) D8 := HC8.out _ HD8.out.2
  refine wp_region_M (S := (fun w' : World => w'.cell? ⟨Z8, 0, none⟩ = some (.slice la idT.1.length lc) ∧ w'.cell? ⟨Z8, 1, none⟩ = some (.slice ha idT.2.length hc))) (L := 100) (n := 4) (by kernel_rfl) rfl (by kernel_rfl) ?_
  rw [← hD]
  clear hD
  refine wpAnyK_go (i := 0) (m' := 1) (some 38) (v := .agg #[.slice la idT.1.length lc, .slice ha idT.2.length hc]) rfl rfl (by kernel_rfl) (by kernel_rfl) (by kernel_rfl) (by kernel_rfl) (by kernel_rfl) (fun _ _ _ h => h) (Or.inl ⟨by rfl, ?_⟩) hS0 ?_
  · intro w' hSw
    obtain ⟨p0, p1⟩ := hSw
    go_simp
  try simp only [Act.put, List.setIfInBounds_toArray, List.set_cons_zero, List.set_cons_succ]
  refine wpAnyK_only (i := 1) (m' := 3) (by kernel_rfl) rfl (by kernel_rfl) fun K hK => ?_
  go_simp
  (with_reducible refine Calls.mono (CI _) ?_)
  rintro e1 u8 ⟨⟨sv9, gv9, rfl, HT9⟩, HI9⟩
  go_simp
  have HU8 : Hid (Below w.heap.size w u8 ∧ Below V8.heap.size V8 u8) := ⟨HD8.out.1.trans (HI9.out.mono HD8.out.1.size), HD8.out.2.trans (HI9.out.mono HD8.out.2.size)⟩
  have CK := id_same (HV8.out.2.2.on (Keeps.of HU8.out.2 fun _ h => h)) (fun b (hb : b < V8.heap.size) => Nat.lt_of_lt_of_le hb HU8.out.2.size) HT9.out
  refine hK.out _ _ (fun _ => HC8.out _ HU8.out.2) ?_
  clear hK K hS0 HT9 HI9
  try simp only [Act.put, List.setIfInBounds_toArray, List.set_cons_zero, List.set_cons_succ]
  refine wpAnyK_only (i := 2) (m' := 7) (by kernel_rfl) rfl (by kernel_rfl) fun K hK => ?_
  go_simp
  (with_reducible refine Calls.mono CK ?_)
  rintro e1 v8 ⟨rfl, H9⟩
  go_simp
  have HX8 : Hid (Below w.heap.size w v8 ∧ Below V8.heap.size V8 v8) := ⟨HU8.out.1.trans (H9.out.mono HU8.out.1.size), HU8.out.2.trans (H9.out.mono HU8.out.2.size)⟩
  refine hK.out _ _ (fun _ => HC8.out _ HX8.out.2) ?_
  clear hK K CK H9
  try simp only [Act.put, List.setIfInBounds_toArray, List.set_cons_zero, List.set_cons_succ]
  refine wpAnyK_only (i := 3) (m' := 15) (by kernel_rfl) rfl (by kernel_rfl) fun K hK => ?_
  go_simp
  refine hK.out _ _ (fun _ => HC8.out _ HX8.out.2) ?_
  clear hK K
  try simp only [Act.put, List.setIfInBounds_toArray, List.set_cons_zero, List.set_cons_succ]
  refine wpAnyK_done (by kernel_rfl) ?_ _
  have hnb := id_bytes
  generalize (bytesW idT).length = nb at *
  have hnb2 : (20 : Int) < (nb : Int) := by omega
  go_wp2
  exact HF.out _ HX8.out.1
end Go.Proofs.YtlpnegnpejpdkaaGreatDoor
