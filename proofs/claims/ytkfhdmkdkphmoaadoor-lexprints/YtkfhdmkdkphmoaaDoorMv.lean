/- The contract of moved: tokens that stand so much further on. -/
import Derived.Test.YtkfhdmkdkphmoaaDoorRowt
namespace Go.Proofs.YtkfhdmkdkphmoaaDoor
open Go.RowKit

def mvT (b : Nat) (t : Tk) : Tk := (t.1, t.2.1, t.2.2.1, t.2.2.2 + b)

theorem mv_step (ts : List Tk) (b j : Nat) (h : j < ts.length) : rowCells ((ts.map (mvT b)).take (j + 1)) = rowCells ((ts.map (mvT b)).take j) ++ [.int .i64 ts[j].1, .string ⟨ts[j].2.1.toArray⟩, .int .i64 ts[j].2.2.1, .int .i64 ((ts[j].2.2.2 : Int) + b)] := by
  rw [List.take_succ_eq_append_getElem (by simpa using h), rowCells_snoc]
  simp [tokCells, mvT]

theorem mv_rel {w wr w1 : World} {B b : Nat} {v v' : Value} {ts : List Tk} {j : Nat} (hj : j < ts.length) (hB : B = w.heap.size) (hbel : Below B w wr)
    (hown : wr.ownsRow B 28 4 v j (rowCells ((ts.map (mvT b)).take j))) {o o' : Obj}
    (hown' : w1.ownsRow B 28 4 v' (j + 1) (rowCells ((ts.map (mvT b)).take j) ++ [.int .i64 ts[j].1, .string ⟨ts[j].2.1.toArray⟩, .int .i64 ts[j].2.2.1, .int .i64 ((ts[j].2.2.2 : Int) + b)]))
    (hg : ((wr.alloc o).alloc o').grownBy w1 v.ownBlock) :
    w1.ownsRow B 28 4 v' (j + 1) (rowCells ((ts.map (mvT b)).take (j + 1))) ∧ Below B w w1 := by
  refine ⟨by rw [mv_step ts b j hj]; exact hown', ?_⟩
  have h1 := hbel.size
  refine (((hbel.alloc (by omega) o).alloc (by simp; omega) o')).grown hg (by simp; omega) ?_
  intro k hk
  exact (hown.lt k hk).1

set_option maxHeartbeats 4000000 in
set_option maxRecDepth 10000 in
theorem moved_any (v : Value) (ts : List Tk) (b C : Nat) (w : World) (hv : w.ownsRow C 28 4 v ts.length (rowCells ts)) (hl : ts.length ≤ 20000) (hb : b ≤ 65536) (hat : ∀ t ∈ ts, t.2.2.2 ≤ 65536) :
    Calls Tryd.prog 16 #[v, .int .i64 b] w fun e w' => (∃ v', e = .returned v' ∧ w'.ownsRow w.heap.size 28 4 v' ts.length (rowCells (ts.map (mvT b)))) ∧ Below w.heap.size w w' := by
  obtain ⟨B, hB⟩ : ∃ B, B = w.heap.size := ⟨_, rfl⟩
  obtain ⟨i0, hi, hz0, hz1, hz2⟩ := info_parts Tryd.info28
  rw [← hB]
  have HB : Hid (B = w.heap.size) := hB
  have hlt0 := hv.lt
  rcases RowAt.of_own hv with ⟨rfl, rfl⟩ | ⟨g, cap, rfl, hcap, hg⟩
  · clear hB hv
    go_enter Tryd.func16, Tryd.ntmps16
    go_wp2
    refine wp_loop_rounds 1 ?_
    rw [rounds_succ]
    go_wp2
    go_ret
    exact ⟨⟨_, rfl, World.ownsRow_nil _ _ _ _⟩, Below.refl _ _⟩
  · have hgB : g < B := by rw [hB]; exact (hlt0 g rfl).2
    clear hB hv hlt0
    go_enter Tryd.func16, Tryd.ntmps16
    go_wp2
    go_loopw [5, 6] (fun v' i wr => ∃ j : Nat, j ≤ ts.length ∧ i = .int .i64 j ∧ wr.ownsRow B 28 4 v' j (rowCells ((ts.map (mvT b)).take j)) ∧ Below B w wr) (fun _ i _ => ts.length - (intOf i).toNat)
    case atStart => exact ⟨0, by omega, by go_num, World.ownsRow_nil _ _ _ _, Below.refl _ _⟩
    case round =>
      obtain ⟨j, hj, rfl, hown, hbel⟩ := hrel
      by_cases hlt : j < ts.length
      · obtain ⟨a0, a1, a2, a3⟩ := hg j hlt
        rw [← hbel.cell (p := ⟨g, j * 4, none⟩) hgB] at a0
        rw [← hbel.cell (p := ⟨g, j * 4 + 1, none⟩) hgB] at a1
        rw [← hbel.cell (p := ⟨g, j * 4 + 2, none⟩) hgB] at a2
        rw [← hbel.cell (p := ⟨g, j * 4 + 3, none⟩) hgB] at a3
        have hat' := hat ts[j] (List.getElem_mem hlt)
        have hsz := hbel.size
        have hHB := HB.out
        have ng : ¬ g = wr.heap.size := by omega
        clear hg hat hHB
        go_wp2_with (at_builtin; refine wpList_append_own _ rfl _ _ 22 rfl B 28 i0 _ 4 40 Tryd.underlying22 hi hz0 hz1 hz2 rfl (by decide) _ _ _ rfl ((hown.alloc _).alloc _) ⟨wr.heap.size + 1, 0, none⟩ 1 1 [.int .i64 ts[j].1, .string ⟨ts[j].2.1.toArray⟩, .int .i64 ts[j].2.2.1, .int .i64 ((ts[j].2.2.2 : Int) + b)] rfl rfl ?c1 ?c2 ?c3 ?c4 ?c5 ?_)
        case c1 =>
          intro j' u hj'
          match j', hj' with
          | 0, hj' => simp at hj'; subst hj'; simp [Addr.add]
          | 1, hj' => simp at hj'; subst hj'; simp [Addr.add]
          | 2, hj' => simp at hj'; subst hj'; simp [Addr.add]
          | 3, hj' => simp at hj'; subst hj'; simp [Addr.add]
        case c2 => intro u hu; simp at hu; rcases hu with rfl | rfl | rfl | rfl <;> rfl
        case c3 => unfold maxLen; omega
        case c4 => omega
        case c5 => have := HB.out; simp; omega
        intro v' w1 hown' hgrow _
        have R1 := mv_rel hlt HB.out hbel hown hown' hgrow
        clear hown' hgrow hown
        go_wp2
        go_roundw
        case rel => exact ⟨j + 1, by omega, by go_num, R1.1, R1.2⟩
        case measure => simp [intOf]; omega
      · go_wp2
        go_ret
        rw [List.take_of_length_le (by simp; omega), show j = ts.length by omega] at hown
        exact ⟨⟨_, rfl, hown⟩, hbel⟩
end Go.Proofs.YtkfhdmkdkphmoaaDoor
