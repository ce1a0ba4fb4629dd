/- The reference's Lex: its contract. -/
import Derived.Test.YtkfhdmkdkphmoaaGreatDoorSA
import Derived.Test.YtkfhdmkdkphmoaaGreatDoorSh
import Derived.Test.YtkfhdmkdkphmoaaGreatDoorLb
namespace Go.Proofs.YtkfhdmkdkphmoaaGreatDoor
open Go.RowKit

@[reducible] def zero4 : Obj := .cells #[.int .i64 0, .int .i64 0, .int .i64 0, .string ⟨#[]⟩] 26
theorem zero4_block {w wr : World} (h : Below (w.heap.size + 1) (w.alloc zero4) wr) : wr.heap[w.heap.size]? = some zero4 := by
  rw [h.block w.heap.size (by omega)]
  show (w.heap.push _)[w.heap.size]? = _
  simp
theorem zero4_below {w wr : World} (h : Below (w.heap.size + 1) (w.alloc zero4) wr) : Below w.heap.size w wr := (below1 w zero4).trans (h.mono (by omega))
theorem four_of {W : World} {B : Nat} (h : W.heap[B]? = some zero4) : (W.cell? ⟨B, 0, none⟩ = some (.int .i64 0) ∧ W.cell? ⟨B, 1, none⟩ = some (.int .i64 0) ∧ W.cell? ⟨B, 2, none⟩ = some (.int .i64 0) ∧ W.cell? ⟨B, 3, none⟩ = some (.string ⟨#[]⟩)) ∧ W.frozen? ⟨B, 0, none⟩ = false ∧ W.frozen? ⟨B, 1, none⟩ = false ∧ W.frozen? ⟨B, 2, none⟩ = false ∧ W.frozen? ⟨B, 3, none⟩ = false :=
  ⟨⟨cell_block h, cell_block h, cell_block h, cell_block h⟩, frozen_block h, frozen_block h, frozen_block h, frozen_block h⟩
theorem set_four {B : Nat} {w wr : World} (h : Below B w wr) (a b c d : Value) : Below B w ((((wr.setCell ⟨B, 0, none⟩ a).setCell ⟨B, 1, none⟩ b).setCell ⟨B, 2, none⟩ c).setCell ⟨B, 3, none⟩ d) :=
  (((h.setCell (p := ⟨B, 0, none⟩) (Nat.le_refl _) a).setCell (p := ⟨B, 1, none⟩) (Nat.le_refl _) b).setCell (p := ⟨B, 2, none⟩) (Nat.le_refl _) c).setCell (p := ⟨B, 3, none⟩) (Nat.le_refl _) d

theorem own_set4 {W : World} {B e size n : Nat} {v : Value} {xs : List Value} (h : W.ownsRow (B + 1) e size v n xs) (a b c d : Value) : ((((W.setCell ⟨B, 0, none⟩ a).setCell ⟨B, 1, none⟩ b).setCell ⟨B, 2, none⟩ c).setCell ⟨B, 3, none⟩ d).ownsRow B e size v n xs := by
  refine ⟨h.1, ?_⟩
  rcases h.2 with h0 | ⟨g, cap, cur, rfl, hg, hgg, rest⟩
  · exact .inl h0
  · refine .inr ⟨g, cap, cur, rfl, by omega, ?_, rest⟩
    have ne : g ≠ B := by omega
    rw [Below.heap_setCell _ _ _ _ ne, Below.heap_setCell _ _ _ _ ne, Below.heap_setCell _ _ _ _ ne, Below.heap_setCell _ _ _ _ ne]
    exact hgg

/-- What the reference's Lex leaves. -/
def RefPost (w : World) (e : Ending) (w' : World) : Lexed → Prop
  | .error (c, p) => e = .returned (.tuple #[.slice none 0 0, .agg #[.int .i64 c, .int .i64 0, .int .i64 p, .string ⟨#[]⟩]]) ∧ Below w.heap.size w w'
  | .ok ts => (∃ tk, e = .returned (.tuple #[tk, .agg #[.int .i64 0, .int .i64 0, .int .i64 0, .string ⟨#[]⟩]]) ∧ w'.ownsRow w.heap.size 39 4 tk ts.length (rowCells ts)) ∧ Below w.heap.size w w'

set_option maxRecDepth 10000 in
theorem ref_lex_long (s : ByteArray) (w : World) (hs : 65536 < s.size) (hm : s.size ≤ maxLen) : Calls Tryz.prog 5 #[.string s] w fun e w' => e = .returned (.tuple #[.slice none 0 0, .agg #[.int .i64 2, .int .i64 0, .int .i64 (-1), .string ⟨#[]⟩]]) ∧ Below w.heap.size w w' := by
  unfold maxLen at hm
  have hs' : (65536 : Int) < (s.size : Int) := by omega
  go_enter Tryz.func5, Tryz.ntmps5
  go_wp2
  refine bodyPost_ret (v := .tuple #[.slice none 0 0, .agg #[.int .i64 2, .int .i64 0, .int .i64 (-1), .string ⟨#[]⟩]]) (by simp [results, Tryz.results5, go_sem, *]) rfl ?_
  exact ⟨rfl, below1 _ _⟩

theorem lex_row {w wr w1 : World} {B : Nat} {v v' : Value} {ts : List Tk} {t : Tk} (hB : B ≤ wr.heap.size) (hbel : Below B w wr)
    (hown : wr.ownsRow B 39 4 v ts.length (rowCells ts)) {o o' : Obj}
    (hown' : w1.ownsRow B 39 4 v' (ts.length + 1) (rowCells ts ++ [.int .i64 t.1, .string ⟨t.2.1.toArray⟩, .int .i64 t.2.2.1, .int .i64 t.2.2.2]))
    (hg : ((wr.alloc o).alloc o').grownBy w1 v.ownBlock) :
    w1.ownsRow B 39 4 v' (ts ++ [t]).length (rowCells (ts ++ [t])) ∧ Below B w w1 := by
  refine ⟨?_, ?_⟩
  · rw [rowCells_snoc, List.length_append]
    exact hown'
  · refine ((hbel.alloc hB o).alloc (by simp; omega) o').grown hg (by simp; omega) ?_
    intro k hk
    exact (hown.lt k hk).1
theorem stepJ_len {l : List UInt8} (hl : l ≠ []) {o : Option (Nat × List UInt8 × Nat)} {n : Nat} (h : stepL l = .ok (o, n)) : 1 ≤ n ∧ n ≤ l.length := by
  have h1 : 1 ≤ l.length := by
    cases l with
    | nil => exact absurd rfl hl
    | cons c r => simp
  unfold stepL at h
  split at h
  · simp at h; omega
  split at h
  · split at h
    · cases h
    · rename_i hb; simp at h; have := blockL_pos hb; omega
  split at h
  · rename_i hd; simp at h; have := dash_head hd; omega
  split at h
  · cases h
  · rename_i ht; simp at h; have := tokL_pos ht; omega


theorem step_kind {l : List UInt8} {kd nm n : Nat} {tx : List UInt8} (h : stepL l = .ok (some (kd, tx, nm), n)) : kd ≠ 0 := by
  have ht : tokL l = .ok (kd, tx, nm, n) := by
    unfold stepL at h
    split at h
    · cases h
    · split at h
      · split at h <;> cases h
      · split at h
        · cases h
        · split at h
          · cases h
          · rename_i hq
            simp at h
            obtain ⟨⟨rfl, rfl, rfl⟩, rfl⟩ := h
            exact hq
  clear h
  unfold tokL at ht
  split at ht
  · simp at ht
    have := ht.1
    unfold wordKindP at this
    split at this <;> omega
  split at ht
  · simp at ht
    have := ht.1
    unfold upperL at this
    split at this
    · split at this
      · simp at this; omega
      · split at this <;> (simp at this; omega)
    · simp at this; omega
  split at ht
  · split at ht
    · cases ht
    · simp at ht; omega
  split at ht
  · split at ht
    · cases ht
    · simp at ht; omega
  split at ht
  · split at ht
    · cases ht
    · simp at ht; omega
  split at ht
  · split at ht
    · cases ht
    · rename_i hr
      simp at ht
      rw [← ht.1]
      exact hr
  split at ht
  · simp at ht; omega
  split at ht
  · split at ht
    · cases ht
    · simp at ht; omega
  · cases ht

set_option maxHeartbeats 8000000 in
set_option maxRecDepth 10000 in
theorem ref_lex_by (s : ByteArray) (w : World) (hs : s.size ≤ 65536) (AT0 : ∀ k W, k < s.size → Calls Tryz.prog 11 #[.string s, .int .i64 k] W fun e w' => e = .returned (stepV k (stepL (rest s k))) ∧ Below W.heap.size W w') : Calls Tryz.prog 5 #[.string s] w fun e w' => RefPost w e w' (lexL 0 (rest s 0) 0) := by
  obtain ⟨i0, hi, hz0, hz1, hz2⟩ := info_parts Tryz.info39
  generalize hL : lexL 0 (rest s 0) 0 = L
  have HL0 : Hid (lexL 0 (rest s 0) 0 = L) := hL
  clear hL
  obtain ⟨B, hB⟩ : ∃ B, B = w.heap.size := ⟨_, rfl⟩
  have HB : Hid (B = w.heap.size) := hB
  have hs' : ¬ (65536 : Int) < s.size := by omega
  go_enter Tryz.func5, Tryz.ntmps5
  go_wp2_with fail
  rw [← hB] at ⊢
  clear hB
  go_loopw [4, 5] (fun v i wr => ∃ (j : Nat) (ts : List Tk), j ≤ s.size ∧ ts.length ≤ 20000 ∧ i = .int .i64 j ∧ wr.ownsRow (B + 1) 39 4 v ts.length (rowCells ts) ∧ Below (w.heap.size + 1) (w.alloc zero4) wr ∧ Hid (L = (lexL j (rest s j) ts.length).map (ts ++ ·))) (fun _ i _ => s.size - (intOf i).toNat)
  case atStart => exact ⟨0, [], by omega, by simp, by go_num, World.ownsRow_nil _ _ _ _, Below.refl _ _, by
    show L = _
    rw [← HL0.out]; cases lexL 0 (rest s 0) 0 <;> rfl⟩
  case round =>
    obtain ⟨j, ts, hj, hts, rfl, hown, hbel, HL⟩ := hrel
    have hblk := zero4_block hbel
    have hbw := zero4_below hbel
    have hsz0 := hbel.size
    rw [← HB.out] at hblk hbw
    have hsz : B + 1 ≤ wr.heap.size := by have := HB.out; simp at hsz0; omega
    clear hsz0 HL0
    have hform : ∃ ad cap, u4 = .slice ad ts.length cap := by
      rcases hown.2 with ⟨h1, h2⟩ | ⟨g', cap', cur, h1, _⟩
      · exact ⟨none, 0, by rw [h1, h2]⟩
      · exact ⟨_, _, h1⟩
    by_cases hin : j < s.size
    · have AT := fun W => AT0 j W hin
      clear AT0
      cases hst : stepL (rest s j) with
      | error c =>
        have hc := stepL_err hst
        have HE : Hid (L = .error (c, j)) := by
          show L = _
          rw [HL.out, lexL_err hin hst]
          rfl
        rw [hst] at AT
        have AT2 : ∀ W, Calls Tryz.prog 11 #[.string s, .int .i64 j] W fun e w' => e = .returned (.agg #[.int .i64 0, .string ⟨#[]⟩, .int .i64 0, .int .i64 0, .int .i64 0, .int .i64 c]) ∧ Below W.heap.size W w' := AT
        have hc' : ((c : Int) != 0) = true := by simp; omega
        clear AT HL hst hown hbel hc
        go_wp2_with (first | (go_at_call 11; (with_reducible refine Calls.mono (AT2 _) ?_); rintro e w2 ⟨rfl, hb2⟩; have hb3 := hbw.trans (hb2.mono (by omega)); have hblk2 := (hb2.block B (by omega)).trans hblk; obtain ⟨⟨q0, q1, q2, q3⟩, z0, z1, z2, z3⟩ := four_of hblk2; have ng : ¬ B = w2.heap.size := (by have := hb2.size; omega)))
        have hsz2 : B < w2.heap.size := by have := hb2.size; omega
        go_region
        all_goals
          go_wp2
          refine bodyPost_ret (v := .tuple #[.slice none 0 0, .agg #[.int .i64 c, .int .i64 0, .int .i64 j, .string ⟨#[]⟩]]) (by simp [results, Tryz.results5, go_sem, *]) rfl ?_
          rw [HE.out]
          refine ⟨rfl, ?_⟩
          rw [← HB.out]
          exact ((set_four hb3 _ _ _ _).alloc (by simp; omega) _).drew
      | ok x =>
        obtain ⟨y, n⟩ := x
        obtain ⟨hn1, hn2⟩ := stepJ_len (by rw [rest_in hin]; simp) hst
        rw [rest_len] at hn2
        obtain ⟨J, hJ⟩ : ∃ J, J = j + n := ⟨_, rfl⟩
        have hJ1 : j < J := by omega
        have hJ2 : J ≤ s.size := by omega
        cases y with
        | none =>
          have HE : Hid (L = (lexL J (rest s J) ts.length).map (ts ++ ·)) := by
            show L = _
            rw [HL.out, lexL_skip hin hst hn1, hJ]
          rw [hst] at AT
          have AT2 : ∀ W, Calls Tryz.prog 11 #[.string s, .int .i64 j] W fun e w' => e = .returned (.agg #[.int .i64 0, .string ⟨#[]⟩, .int .i64 0, .int .i64 0, .int .i64 J, .int .i64 0]) ∧ Below W.heap.size W w' := by rw [hJ]; exact AT
          clear AT HL hst hblk hJ hn1 hn2
          go_wp2_with (first | (go_at_call 11; (with_reducible refine Calls.mono (AT2 _) ?_); rintro e w2 ⟨rfl, hb2⟩))
          go_roundw
          case rel => exact ⟨J, ts, hJ2, hts, by go_num, (own_stay hown hb2).alloc _, (hbel.trans (hb2.mono (by have := HB.out; omega))).alloc (by have := HB.out; have := hb2.size; omega) _, HE⟩
          case measure => simp [intOf]; omega
        | some z =>
          obtain ⟨kd, tx, nm⟩ := z
          have hkd := step_kind hst
          rw [hst] at AT
          have AT2 : ∀ W, Calls Tryz.prog 11 #[.string s, .int .i64 j] W fun e w' => e = .returned (.agg #[.int .i64 kd, .string ⟨tx.toArray⟩, .int .i64 nm, .int .i64 j, .int .i64 J, .int .i64 0]) ∧ Below W.heap.size W w' := by rw [hJ]; exact AT
          have hkd' : ((kd : Int) != 0) = true := by simp; omega
          by_cases hfull : ts.length = 20000
          · have HE : Hid (L = .error (4, j)) := by
              show L = _
              rw [HL.out, hfull, lexL_full hin hst]
              rfl
            have hfull' : (ts.length : Int) = 20000 := by omega
            obtain ⟨ad, cap, rfl⟩ := hform
            clear AT HL hst hown hbel hkd hn1 hn2 hJ
            go_wp2_with (first | (go_at_call 11; (with_reducible refine Calls.mono (AT2 _) ?_); rintro e w2 ⟨rfl, hb2⟩; have hb3 := hbw.trans (hb2.mono (by omega)); have hblk2 := fun o => (heap_alloc_old w2 o (show B < w2.heap.size by have := hb2.size; omega)).trans ((hb2.block B (by omega)).trans hblk); have q0 := fun o => (four_of (hblk2 o)).1.1; have q1 := fun o => (four_of (hblk2 o)).1.2.1; have q2 := fun o => (four_of (hblk2 o)).1.2.2.1; have q3 := fun o => (four_of (hblk2 o)).1.2.2.2; have z0 := fun o => (four_of (hblk2 o)).2.1; have z1 := fun o => (four_of (hblk2 o)).2.2.1; have z2 := fun o => (four_of (hblk2 o)).2.2.2.1; have z3 := fun o => (four_of (hblk2 o)).2.2.2.2))
            refine bodyPost_ret (v := .tuple #[.slice none 0 0, .agg #[.int .i64 4, .int .i64 0, .int .i64 j, .string ⟨#[]⟩]]) (by simp [results, Tryz.results5, go_sem, *]) rfl ?_
            rw [HE.out]
            refine ⟨rfl, ?_⟩
            rw [← HB.out]
            exact set_four (hb3.alloc (by have := hb2.size; omega) _) _ _ _ _
          · have HE : Hid (L = (lexL J (rest s J) (ts ++ [(kd, tx, nm, j)]).length).map ((ts ++ [(kd, tx, nm, j)]) ++ ·)) := by
              show L = _
              rw [HL.out, lexL_tok hin hst hn1 hfull, hJ, List.length_append]
              show Except.map _ (Except.map _ (lexL (j + n) (rest s (j + n)) (ts.length + 1))) = Except.map _ (lexL (j + n) (rest s (j + n)) (ts.length + 1))
              cases lexL (j + n) (rest s (j + n)) (ts.length + 1) with
              | error e => rfl
              | ok l => simp [Except.map]
            have hfull' : ((ts.length : Int) == 20000) = false := by simp; omega
            obtain ⟨ad, cap, rfl⟩ := hform
            clear AT HL hst hkd hn1 hn2 hJ hblk hbw
            go_wp2_with (first | (go_at_call 11; (with_reducible refine Calls.mono (AT2 _) ?_); rintro e w2 ⟨rfl, hb2⟩; have own2 := own_stay hown hb2) | (at_builtin; refine wpList_append_own _ rfl _ _ 23 rfl (B + 1) 39 i0 _ 4 40 Tryz.underlying23 hi hz0 hz1 hz2 rfl (by decide) _ _ _ rfl ((own2.alloc _).alloc _) ⟨w2.heap.size + 1, 0, none⟩ 1 1 [.int .i64 kd, .string ⟨tx.toArray⟩, .int .i64 nm, .int .i64 j] rfl rfl ?c1 ?c2 ?c3 ?c4 ?c5 ?_))
            case c1 =>
              intro j' u hj'
              match j', hj' with
              | 0, hj' => simp at hj'; subst hj'; simp [Addr.add]
              | 1, hj' => simp at hj'; subst hj'; simp [Addr.add]
              | 2, hj' => simp at hj'; subst hj'; simp [Addr.add]
              | 3, hj' => simp at hj'; subst hj'; simp [Addr.add]
            case c2 => intro u hu; simp at hu; rcases hu with rfl | rfl | rfl | rfl <;> rfl
            case c3 => unfold maxLen; omega
            case c4 => omega
            case c5 => have := hb2.size; simp; omega
            intro v' w1 hown' hgrow _
            have bel2 : Below (B + 1) (w.alloc zero4) w2 := by rw [HB.out]; exact hbel.trans (hb2.mono (by have := HB.out; omega))
            have R1 := lex_row (t := (kd, tx, nm, j)) (by have := hb2.size; omega) bel2 own2 hown' hgrow
            have q4 : w1.cell? ⟨w2.heap.size, 4, none⟩ = some (.int .i64 J) := by
              rw [hgrow.cell_far ⟨w2.heap.size, 4, none⟩ (by simp; omega) (fun h => Nat.lt_irrefl _ (own2.lt w2.heap.size h.symm).2)]
              simp
            clear hown' hgrow hown own2 hbel
            go_wp2
            go_roundw
            case rel => exact ⟨J, ts ++ [(kd, tx, nm, j)], hJ2, by simp; omega, by go_num, R1.1, by rw [← HB.out]; exact R1.2, HE⟩
            case measure => simp [intOf]; omega
    · have HE : Hid (L = .ok ts) := by
        show L = _
        rw [HL.out, lexL_end hin]
        show Except.ok (ts ++ []) = _
        rw [List.append_nil]
      have hin' : (s.size : Int) ≤ j := by omega
      obtain ⟨⟨q0, q1, q2, q3⟩, z0, z1, z2, z3⟩ := four_of hblk
      clear HL AT0 hbel hblk
      obtain ⟨ad, cap, rfl⟩ := hform
      go_wp2_with fail
      refine bodyPost_ret (v := .tuple #[.slice ad ts.length cap, .agg #[.int .i64 0, .int .i64 0, .int .i64 0, .string ⟨#[]⟩]]) (by simp [results, Tryz.results5, go_sem, *]) rfl ?_
      rw [HE.out]
      refine ⟨⟨_, rfl, ?_⟩, ?_⟩
      · rw [← HB.out]
        exact own_set4 hown _ _ _ _
      · rw [← HB.out]
        exact set_four hbw _ _ _ _
end Go.Proofs.YtkfhdmkdkphmoaaGreatDoor
