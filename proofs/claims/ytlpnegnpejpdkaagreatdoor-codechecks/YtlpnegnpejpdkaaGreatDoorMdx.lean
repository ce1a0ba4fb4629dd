/- behind: the depth behind an instruction; reach: an instruction is reached. The document's Numbers, Target, jumps and Ends, of any instruction. The document's Numbers, Target, jumps and Ends (the rest), of any instruction. The document's Needs and Behind, of an instruction whose numbers are right. reach: an instruction is reached with a depth. -/
import Derived.Test.YtlpnegnpejpdkaaGreatDoorMcx
import Derived.Test.YtlpnegnpejpdkaaGreatDoorMax
namespace Go.Proofs.YtlpnegnpejpdkaaGreatDoor
open Go.RowKit

theorem behind9 (fs : List Int) (a b d : Int) : behindP fs (9, a, b) d = (d - fs.getD a.toNat 0 + 1, decide (fs.getD a.toNat 0 < d)) := by simp [behindP]
theorem behind10 (fs : List Int) (a b d : Int) : behindP fs (10, a, b) d = (d - 1 + fs.getD a.toNat 0, decide (1 < d)) := by simp [behindP]
theorem getD_map2 (l : List Shp) (i : Nat) (h : i < l.length) : (l.map fun s => s.2).getD i 0 = l[i].2 := by simp [List.getD, h]
set_option maxHeartbeats 16000000 in
set_option maxRecDepth 10000 in
theorem behind_any {w : World} {F : Nat} {sv : Value} {l : List Shp} (hF : w.cell? ⟨F, 0, none⟩ = some sv) (hs : RowE EShp w (fun y => y < w.heap.size) (fun y => y < w.heap.size) sv l) (hfs : ∀ k (h : k < l.length), 0 ≤ l[k].2 ∧ l[k].2 ≤ 8) (_hll : l.length < 140737488355328) {ng len i : Nat} (x : Ins) (hx : numP l.length ng len i x = 0) (hxa : x.2.1 < 9223372036854775808) (d : Int) (h1 : 1 ≤ d) (h2 : d ≤ 8000) :
    Calls Tryz.prog 122 #[.pointer (some ⟨F, 0, none⟩), .agg #[.int .i64 x.1, .int .i64 x.2.1, .int .i64 x.2.2], .int .i64 d] w fun r w' => r = .returned (.tuple #[.int .i64 (behindP (l.map fun s => s.2) x d).1, .bool (behindP (l.map fun s => s.2) x d).2]) ∧ Hid (Below w.heap.size w w') := by
  obtain ⟨op, a, b⟩ := x
  have hfit : isOpP op = true ∧ fitsP l.length ng (kindA op) a = true := by
    unfold numP at hx
    split at hx
    · omega
    · rename_i hw
      simp only [Bool.not_eq_false, Bool.and_eq_true] at hw
      exact hw.1
  obtain ⟨hop, hfa⟩ := hfit
  obtain ⟨o1, o2⟩ := op_range hop
  clear hx hop
  simp only at hxa
  obtain ⟨ad, cap, rfl, _⟩ := shp_at hs
  obtain ⟨X, hX⟩ : ∃ X, X = w.heap.size := ⟨_, rfl⟩
  obtain ⟨W, hW⟩ : ∃ W, W = w.alloc (.cells #[.int .i64 op, .int .i64 a, .int .i64 b] 53) := ⟨_, rfl⟩
  have hBW : Below w.heap.size w W := by rw [hW]; exact (Below.refl _ _).alloc (Nat.le_refl _) _
  have hXW : W.heap[X]? = some (.cells #[.int .i64 op, .int .i64 a, .int .i64 b] 53 (0, 0)) := by rw [hW, hX]; exact new_blk _ _
  have x0 : W.cell? ⟨X, 0, none⟩ = some (.int .i64 op) := heap_cl hXW rfl
  have HALL : Hid (∀ w2 : World, Below W.heap.size W w2 → w2.cell? ⟨X, 1, none⟩ = some (.int .i64 a) ∧ w2.cell? ⟨F, 0, none⟩ = some (.slice ad l.length cap) ∧ Below w.heap.size w w2 ∧ ∀ k (hk : k < l.length), ∃ g o, ad = some ⟨g, o, none⟩ ∧ l.length ≤ cap ∧ w2.cell? ⟨g, o + k * 2 + 1, none⟩ = some (.int .i64 l[k].2)) := fun w2 hb => by
    have hb0 := hBW.trans (hb.mono hBW.size)
    refine ⟨heap_cl ((hb.block X (lt_heap hXW)).trans hXW) rfl, (hb0.cell (p := ⟨F, 0, none⟩) (World.block_lt_of_cell? w _ hF)).trans hF, hb0, fun k hk => ?_⟩
    obtain ⟨ad', cap', e, hh⟩ := shp_at (row_below hs hb0)
    obtain ⟨rfl, -, rfl⟩ := Value.slice.inj e
    obtain ⟨g, o, q1, _, q2, _, q4, _⟩ := hh k hk
    exact ⟨g, o, q1, q2, q4⟩
  obtain ⟨z1, z2, HB, z4⟩ := HALL.out W (Below.refl _ _)
  obtain ⟨y1, y2, HBd, y4⟩ := HALL.out W.drew ((Below.refl _ _).drew)
  replace HB : Hid (Below w.heap.size w W) := HB
  replace HBd : Hid (Below w.heap.size w W.drew) := HBd
  replace z4 : Hid (∀ k (hk : k < l.length), ∃ g o, ad = some ⟨g, o, none⟩ ∧ l.length ≤ cap ∧ W.cell? ⟨g, o + k * 2 + 1, none⟩ = some (.int .i64 l[k].2)) := z4
  replace y4 : Hid (∀ k (hk : k < l.length), ∃ g o, ad = some ⟨g, o, none⟩ ∧ l.length ≤ cap ∧ W.drew.cell? ⟨g, o + k * 2 + 1, none⟩ = some (.int .i64 l[k].2)) := y4
  have HXE : Hid (X = w.heap.size) := hX
  have HFS : Hid (∀ k (h : k < l.length), 0 ≤ l[k].2 ∧ l[k].2 ≤ 8) := hfs
  clear hX hXW hBW HALL hs hF hfs
  have hop : op = 1 ∨ op = 2 ∨ op = 3 ∨ op = 4 ∨ op = 5 ∨ op = 6 ∨ op = 7 ∨ op = 8 ∨ op = 9 ∨ op = 10 ∨ op = 11 ∨ op = 12 ∨ op = 13 ∨ op = 14 ∨ op = 15 ∨ op = 16 ∨ op = 17 := by omega
  clear o1 o2
  rcases hop with rfl | rfl | rfl | rfl | rfl | rfl | rfl | rfl | rfl | rfl | rfl | rfl | rfl | rfl | rfl | rfl | rfl
  · -- 1
    have ha0 : 0 ≤ a := by simpa [fitsP, kindA, kindsP] using hfa
    go_enter Tryz.func122, Tryz.ntmps122
    go_upto_region 1 with fail
    rw [← hW, ← HXE.out]
    clear hW
    go_wp2
    go_region
    all_goals
      go_wp2
      go_ret2
      exact ⟨by simp [behindP] <;> omega, HBd.out⟩
  · -- 2
    go_enter Tryz.func122, Tryz.ntmps122
    go_upto_region 1 with fail
    rw [← hW, ← HXE.out]
    clear hW
    go_wp2
    go_ret2
    exact ⟨by simp [behindP], HB.out⟩
  · -- 3
    go_enter Tryz.func122, Tryz.ntmps122
    go_upto_region 1 with fail
    rw [← hW, ← HXE.out]
    clear hW
    go_wp2
    go_ret2
    exact ⟨by simp [behindP], HB.out⟩
  · -- 4
    have ha0 : 0 ≤ a := by simpa [fitsP, kindA, kindsP] using hfa
    go_enter Tryz.func122, Tryz.ntmps122
    go_upto_region 1 with fail
    rw [← hW, ← HXE.out]
    clear hW
    go_wp2
    go_region
    all_goals
      go_wp2
      go_ret2
      exact ⟨by simp [behindP] <;> omega, HBd.out⟩
  · -- 5
    have ha0 : 0 ≤ a := by simpa [fitsP, kindA, kindsP] using hfa
    go_enter Tryz.func122, Tryz.ntmps122
    go_upto_region 1 with fail
    rw [← hW, ← HXE.out]
    clear hW
    go_wp2
    go_region
    all_goals
      go_wp2
      go_ret2
      exact ⟨by simp [behindP] <;> omega, HBd.out⟩
  · -- 6
    go_enter Tryz.func122, Tryz.ntmps122
    go_upto_region 1 with fail
    rw [← hW, ← HXE.out]
    clear hW
    go_wp2
    go_ret2
    exact ⟨by simp [behindP], HB.out⟩
  · -- 7
    have ha0 : 1 ≤ a := by simpa [fitsP, kindA, kindsP] using hfa
    go_enter Tryz.func122, Tryz.ntmps122
    go_upto_region 1 with fail
    rw [← hW, ← HXE.out]
    clear hW
    go_wp2
    go_region
    all_goals
      go_wp2
      go_ret2
      exact ⟨by simp [behindP] <;> omega, HBd.out⟩
  · -- 8
    have ha0 : 0 ≤ a := by simpa [fitsP, kindA, kindsP] using hfa
    go_enter Tryz.func122, Tryz.ntmps122
    go_upto_region 1 with fail
    rw [← hW, ← HXE.out]
    clear hW
    by_cases h8 : a ≤ 8000
    · go_wp2
      all_goals
        go_ret2
        exact ⟨by simp [behindP]; omega, HB.out⟩
    · go_wp2
      all_goals
        go_ret2
        exact ⟨by simp [behindP]; omega, HB.out⟩
  · -- 9
    have ha0 : 0 ≤ a ∧ a < (l.length : Int) := by simpa [fitsP, kindA, kindsP] using hfa
    obtain ⟨k, rfl⟩ : ∃ k : Nat, a = (k : Int) := ⟨a.toNat, by omega⟩
    have hk : k < l.length := by omega
    obtain ⟨g, o, rfl, hc, c1⟩ := z4.out k hk
    obtain ⟨g', o', e, _, c2⟩ := y4.out k hk
    simp only [Option.some.injEq, Addr.mk.injEq, and_true] at e
    obtain ⟨rfl, rfl⟩ := e
    obtain ⟨f1, f2⟩ := HFS.out k hk
    have hgd := getD_map2 l k hk
    have HGD : Hid ((l.map fun s => s.2).getD ((k : Int)).toNat 0 = l[k].2) := hgd
    have i1 : (0 : Int) ≤ (k : Int) := by omega
    have i2 : (k : Int) < (l.length : Int) := by omega
    clear hgd
    generalize l[k].2 = f at *
    go_enter Tryz.func122, Tryz.ntmps122
    go_upto_region 1 with fail
    rw [← hW, ← HXE.out]
    clear hW
    go_wp2
    go_region
    all_goals
      go_wp2
      go_ret2
      exact ⟨by rw [behind9, HGD.out]; rfl, HBd.out⟩
  · -- 10
    have ha0 : 0 ≤ a ∧ a < (l.length : Int) := by simpa [fitsP, kindA, kindsP] using hfa
    obtain ⟨k, rfl⟩ : ∃ k : Nat, a = (k : Int) := ⟨a.toNat, by omega⟩
    have hk : k < l.length := by omega
    obtain ⟨g, o, rfl, hc, c1⟩ := z4.out k hk
    obtain ⟨g', o', e, _, c2⟩ := y4.out k hk
    simp only [Option.some.injEq, Addr.mk.injEq, and_true] at e
    obtain ⟨rfl, rfl⟩ := e
    obtain ⟨f1, f2⟩ := HFS.out k hk
    have hgd := getD_map2 l k hk
    have HGD : Hid ((l.map fun s => s.2).getD ((k : Int)).toNat 0 = l[k].2) := hgd
    have i1 : (0 : Int) ≤ (k : Int) := by omega
    have i2 : (k : Int) < (l.length : Int) := by omega
    clear hgd
    generalize l[k].2 = f at *
    go_enter Tryz.func122, Tryz.ntmps122
    go_upto_region 1 with fail
    rw [← hW, ← HXE.out]
    clear hW
    go_wp2
    go_region
    all_goals
      go_wp2
      go_ret2
      exact ⟨by rw [behind10, HGD.out]; rfl, HBd.out⟩
  · -- 11
    go_enter Tryz.func122, Tryz.ntmps122
    go_upto_region 1 with fail
    rw [← hW, ← HXE.out]
    clear hW
    go_wp2
    go_ret2
    exact ⟨by simp [behindP], HB.out⟩
  · -- 12
    go_enter Tryz.func122, Tryz.ntmps122
    go_upto_region 1 with fail
    rw [← hW, ← HXE.out]
    clear hW
    go_wp2
    go_ret2
    exact ⟨by simp [behindP], HB.out⟩
  · -- 13
    go_enter Tryz.func122, Tryz.ntmps122
    go_upto_region 1 with fail
    rw [← hW, ← HXE.out]
    clear hW
    go_wp2
    go_ret2
    exact ⟨by simp [behindP], HB.out⟩
  · -- 14
    go_enter Tryz.func122, Tryz.ntmps122
    go_upto_region 1 with fail
    rw [← hW, ← HXE.out]
    clear hW
    go_wp2
    go_ret2
    exact ⟨by simp [behindP], HB.out⟩
  · -- 15
    go_enter Tryz.func122, Tryz.ntmps122
    go_upto_region 1 with fail
    rw [← hW, ← HXE.out]
    clear hW
    go_wp2
    go_ret2
    exact ⟨by simp [behindP], HB.out⟩
  · -- 16
    go_enter Tryz.func122, Tryz.ntmps122
    go_upto_region 1 with fail
    rw [← hW, ← HXE.out]
    clear hW
    go_wp2
    go_ret2
    exact ⟨by simp [behindP], HB.out⟩
  · -- 17
    go_enter Tryz.func122, Tryz.ntmps122
    go_upto_region 1 with fail
    rw [← hW, ← HXE.out]
    clear hW
    go_wp2
    go_ret2
    exact ⟨by simp [behindP]; (by_cases h : d = 1 <;> simp [h]), HB.out⟩
end Go.Proofs.YtlpnegnpejpdkaaGreatDoor

namespace Go.Proofs.YtlpnegnpejpdkaaGreatDoor
open Go.RowKit

/-- Are the numbers of an instruction as they may be, jumps aside? -/
def numbersP (ns ng : Nat) (op a b : Int) : Bool := isOpP op && fitsP ns ng (kindA op) a && fitsP ns ng (kindB op) b
set_option maxHeartbeats 16000000 in
set_option maxRecDepth 10000 in
theorem numbers_t1 {w : World} {sa ga : Option Addr} {ns sc ng gc : Nat} {op a b : Int} (hop : op = 1 ∨ op = 2 ∨ op = 3 ∨ op = 4 ∨ op = 5 ∨ op = 8) :
    Calls Tryz.prog 72 #[.agg #[.slice sa ns sc, .slice ga ng gc], .agg #[.int .i64 op, .int .i64 a, .int .i64 b]] w fun r w' => r = .returned (.bool (numbersP ns ng op a b)) ∧ Hid (Below w.heap.size w w') := by
  obtain ⟨X, hX⟩ : ∃ X, X = w.heap.size := ⟨_, rfl⟩
  obtain ⟨Y, hY⟩ : ∃ Y, Y = w.heap.size + 1 := ⟨_, rfl⟩
  obtain ⟨W, hW⟩ : ∃ W, W = (w.alloc (.cells #[.slice sa ns sc, .slice ga ng gc] 25)).alloc (.cells #[.int .i64 op, .int .i64 a, .int .i64 b] 53) := ⟨_, rfl⟩
  have b1 : Below w.heap.size w (w.alloc (.cells #[.slice sa ns sc, .slice ga ng gc] 25)) := (Below.refl _ _).alloc (Nat.le_refl _) _
  have b2 : Below (w.alloc (.cells #[.slice sa ns sc, .slice ga ng gc] 25)).heap.size (w.alloc (.cells #[.slice sa ns sc, .slice ga ng gc] 25)) W := by rw [hW]; exact (Below.refl _ _).alloc (Nat.le_refl _) _
  have hs1 : (w.alloc (.cells #[.slice sa ns sc, .slice ga ng gc] 25)).heap.size = w.heap.size + 1 := World.size_alloc _ _
  have hXW : W.heap[X]? = some (.cells #[.slice sa ns sc, .slice ga ng gc] 25 (0, 0)) := by rw [b2.block X (by rw [hs1, hX]; omega), hX]; exact new_blk _ _
  have hYW : W.heap[Y]? = some (.cells #[.int .i64 op, .int .i64 a, .int .i64 b] 53 (0, 0)) := by rw [hW, hY, ← hs1]; exact new_blk _ _
  have x0 : W.cell? ⟨X, 0, none⟩ = some (.slice sa ns sc) := heap_cl hXW rfl
  have x1 : W.cell? ⟨X, 1, none⟩ = some (.slice ga ng gc) := heap_cl hXW rfl
  have y0 : W.cell? ⟨Y, 0, none⟩ = some (.int .i64 op) := heap_cl hYW rfl
  have y1 : W.cell? ⟨Y, 1, none⟩ = some (.int .i64 a) := heap_cl hYW rfl
  have y2 : W.cell? ⟨Y, 2, none⟩ = some (.int .i64 b) := heap_cl hYW rfl
  have HB : Hid (Below w.heap.size w W) := b1.trans (b2.mono b1.size)
  have HXE : Hid (X = w.heap.size) := hX
  have HYE : Hid (Y = X + 1) := by show Y = X + 1; rw [hX, hY]
  clear b1 b2 hXW hYW hs1 hX hY
  rcases hop with rfl | rfl | rfl | rfl | rfl | rfl
  · -- 1
    go_enter Tryz.func72, Tryz.ntmps72
    go_upto_region 1 with fail
    rw [← hW, ← HXE.out, ← HYE.out]
    clear hW
    go_wp2
    all_goals
      go_ret
      exact ⟨ret_bool (by by_cases hb : b = 0 <;> simp [numbersP, isOpP, fitsP, kindA, kindB, kindsP, hb] <;> omega), HB.out⟩
  · -- 2
    go_enter Tryz.func72, Tryz.ntmps72
    go_upto_region 1 with fail
    rw [← hW, ← HXE.out, ← HYE.out]
    clear hW
    go_wp2
    all_goals
      go_ret
      exact ⟨ret_bool (by by_cases hb : b = 0 <;> simp [numbersP, isOpP, fitsP, kindA, kindB, kindsP, hb] <;> omega), HB.out⟩
  · -- 3
    go_enter Tryz.func72, Tryz.ntmps72
    go_upto_region 1 with fail
    rw [← hW, ← HXE.out, ← HYE.out]
    clear hW
    go_wp2
    all_goals
      go_ret
      exact ⟨ret_bool (by by_cases hb : b = 0 <;> simp [numbersP, isOpP, fitsP, kindA, kindB, kindsP, hb] <;> omega), HB.out⟩
  · -- 4
    go_enter Tryz.func72, Tryz.ntmps72
    go_upto_region 1 with fail
    rw [← hW, ← HXE.out, ← HYE.out]
    clear hW
    go_wp2
    all_goals
      go_ret
      exact ⟨ret_bool (by by_cases hb : b = 0 <;> simp [numbersP, isOpP, fitsP, kindA, kindB, kindsP, hb] <;> omega), HB.out⟩
  · -- 5
    go_enter Tryz.func72, Tryz.ntmps72
    go_upto_region 1 with fail
    rw [← hW, ← HXE.out, ← HYE.out]
    clear hW
    go_wp2
    all_goals
      go_ret
      exact ⟨ret_bool (by by_cases hb : b = 0 <;> simp [numbersP, isOpP, fitsP, kindA, kindB, kindsP, hb] <;> omega), HB.out⟩
  · -- 8
    go_enter Tryz.func72, Tryz.ntmps72
    go_upto_region 1 with fail
    rw [← hW, ← HXE.out, ← HYE.out]
    clear hW
    go_wp2
    all_goals
      go_ret
      exact ⟨ret_bool (by by_cases hb : b = 0 <;> simp [numbersP, isOpP, fitsP, kindA, kindB, kindsP, hb] <;> omega), HB.out⟩
set_option maxHeartbeats 16000000 in
set_option maxRecDepth 10000 in
theorem numbers_t2 {w : World} {sa ga : Option Addr} {ns sc ng gc : Nat} {op a b : Int} (hop : op = 6 ∨ op = 7 ∨ op = 9 ∨ op = 10 ∨ op = 11 ∨ op = 12) :
    Calls Tryz.prog 72 #[.agg #[.slice sa ns sc, .slice ga ng gc], .agg #[.int .i64 op, .int .i64 a, .int .i64 b]] w fun r w' => r = .returned (.bool (numbersP ns ng op a b)) ∧ Hid (Below w.heap.size w w') := by
  obtain ⟨X, hX⟩ : ∃ X, X = w.heap.size := ⟨_, rfl⟩
  obtain ⟨Y, hY⟩ : ∃ Y, Y = w.heap.size + 1 := ⟨_, rfl⟩
  obtain ⟨W, hW⟩ : ∃ W, W = (w.alloc (.cells #[.slice sa ns sc, .slice ga ng gc] 25)).alloc (.cells #[.int .i64 op, .int .i64 a, .int .i64 b] 53) := ⟨_, rfl⟩
  have b1 : Below w.heap.size w (w.alloc (.cells #[.slice sa ns sc, .slice ga ng gc] 25)) := (Below.refl _ _).alloc (Nat.le_refl _) _
  have b2 : Below (w.alloc (.cells #[.slice sa ns sc, .slice ga ng gc] 25)).heap.size (w.alloc (.cells #[.slice sa ns sc, .slice ga ng gc] 25)) W := by rw [hW]; exact (Below.refl _ _).alloc (Nat.le_refl _) _
  have hs1 : (w.alloc (.cells #[.slice sa ns sc, .slice ga ng gc] 25)).heap.size = w.heap.size + 1 := World.size_alloc _ _
  have hXW : W.heap[X]? = some (.cells #[.slice sa ns sc, .slice ga ng gc] 25 (0, 0)) := by rw [b2.block X (by rw [hs1, hX]; omega), hX]; exact new_blk _ _
  have hYW : W.heap[Y]? = some (.cells #[.int .i64 op, .int .i64 a, .int .i64 b] 53 (0, 0)) := by rw [hW, hY, ← hs1]; exact new_blk _ _
  have x0 : W.cell? ⟨X, 0, none⟩ = some (.slice sa ns sc) := heap_cl hXW rfl
  have x1 : W.cell? ⟨X, 1, none⟩ = some (.slice ga ng gc) := heap_cl hXW rfl
  have y0 : W.cell? ⟨Y, 0, none⟩ = some (.int .i64 op) := heap_cl hYW rfl
  have y1 : W.cell? ⟨Y, 1, none⟩ = some (.int .i64 a) := heap_cl hYW rfl
  have y2 : W.cell? ⟨Y, 2, none⟩ = some (.int .i64 b) := heap_cl hYW rfl
  have HB : Hid (Below w.heap.size w W) := b1.trans (b2.mono b1.size)
  have HXE : Hid (X = w.heap.size) := hX
  have HYE : Hid (Y = X + 1) := by show Y = X + 1; rw [hX, hY]
  clear b1 b2 hXW hYW hs1 hX hY
  rcases hop with rfl | rfl | rfl | rfl | rfl | rfl
  · -- 6
    go_enter Tryz.func72, Tryz.ntmps72
    go_upto_region 1 with fail
    rw [← hW, ← HXE.out, ← HYE.out]
    clear hW
    go_wp2
    all_goals
      go_ret
      exact ⟨ret_bool (by by_cases hb : b = 0 <;> simp [numbersP, isOpP, fitsP, kindA, kindB, kindsP, hb] <;> omega), HB.out⟩
  · -- 7
    go_enter Tryz.func72, Tryz.ntmps72
    go_upto_region 1 with fail
    rw [← hW, ← HXE.out, ← HYE.out]
    clear hW
    go_wp2
    all_goals
      go_ret
      exact ⟨ret_bool (by by_cases hb : b = 0 <;> simp [numbersP, isOpP, fitsP, kindA, kindB, kindsP, hb] <;> omega), HB.out⟩
  · -- 9
    go_enter Tryz.func72, Tryz.ntmps72
    go_upto_region 1 with fail
    rw [← hW, ← HXE.out, ← HYE.out]
    clear hW
    go_wp2
    all_goals
      go_ret
      exact ⟨ret_bool (by by_cases hb : b = 0 <;> simp [numbersP, isOpP, fitsP, kindA, kindB, kindsP, hb] <;> omega), HB.out⟩
  · -- 10
    go_enter Tryz.func72, Tryz.ntmps72
    go_upto_region 1 with fail
    rw [← hW, ← HXE.out, ← HYE.out]
    clear hW
    go_wp2
    all_goals
      go_ret
      exact ⟨ret_bool (by by_cases hb : b = 0 <;> simp [numbersP, isOpP, fitsP, kindA, kindB, kindsP, hb] <;> omega), HB.out⟩
  · -- 11
    go_enter Tryz.func72, Tryz.ntmps72
    go_upto_region 1 with fail
    rw [← hW, ← HXE.out, ← HYE.out]
    clear hW
    go_wp2
    all_goals
      go_ret
      exact ⟨ret_bool (by by_cases hb : b = 0 <;> simp [numbersP, isOpP, fitsP, kindA, kindB, kindsP, hb] <;> omega), HB.out⟩
  · -- 12
    go_enter Tryz.func72, Tryz.ntmps72
    go_upto_region 1 with fail
    rw [← hW, ← HXE.out, ← HYE.out]
    clear hW
    go_wp2
    all_goals
      go_ret
      exact ⟨ret_bool (by by_cases hb : b = 0 <;> simp [numbersP, isOpP, fitsP, kindA, kindB, kindsP, hb] <;> omega), HB.out⟩
end Go.Proofs.YtlpnegnpejpdkaaGreatDoor

namespace Go.Proofs.YtlpnegnpejpdkaaGreatDoor
open Go.RowKit

set_option maxHeartbeats 16000000 in
set_option maxRecDepth 10000 in
theorem numbers_t3 {w : World} {sa ga : Option Addr} {ns sc ng gc : Nat} {op a b : Int} (hop : op = 13 ∨ op = 14 ∨ op = 15 ∨ op = 16 ∨ op = 17) :
    Calls Tryz.prog 72 #[.agg #[.slice sa ns sc, .slice ga ng gc], .agg #[.int .i64 op, .int .i64 a, .int .i64 b]] w fun r w' => r = .returned (.bool (numbersP ns ng op a b)) ∧ Hid (Below w.heap.size w w') := by
  obtain ⟨X, hX⟩ : ∃ X, X = w.heap.size := ⟨_, rfl⟩
  obtain ⟨Y, hY⟩ : ∃ Y, Y = w.heap.size + 1 := ⟨_, rfl⟩
  obtain ⟨W, hW⟩ : ∃ W, W = (w.alloc (.cells #[.slice sa ns sc, .slice ga ng gc] 25)).alloc (.cells #[.int .i64 op, .int .i64 a, .int .i64 b] 53) := ⟨_, rfl⟩
  have b1 : Below w.heap.size w (w.alloc (.cells #[.slice sa ns sc, .slice ga ng gc] 25)) := (Below.refl _ _).alloc (Nat.le_refl _) _
  have b2 : Below (w.alloc (.cells #[.slice sa ns sc, .slice ga ng gc] 25)).heap.size (w.alloc (.cells #[.slice sa ns sc, .slice ga ng gc] 25)) W := by rw [hW]; exact (Below.refl _ _).alloc (Nat.le_refl _) _
  have hs1 : (w.alloc (.cells #[.slice sa ns sc, .slice ga ng gc] 25)).heap.size = w.heap.size + 1 := World.size_alloc _ _
  have hXW : W.heap[X]? = some (.cells #[.slice sa ns sc, .slice ga ng gc] 25 (0, 0)) := by rw [b2.block X (by rw [hs1, hX]; omega), hX]; exact new_blk _ _
  have hYW : W.heap[Y]? = some (.cells #[.int .i64 op, .int .i64 a, .int .i64 b] 53 (0, 0)) := by rw [hW, hY, ← hs1]; exact new_blk _ _
  have x0 : W.cell? ⟨X, 0, none⟩ = some (.slice sa ns sc) := heap_cl hXW rfl
  have x1 : W.cell? ⟨X, 1, none⟩ = some (.slice ga ng gc) := heap_cl hXW rfl
  have y0 : W.cell? ⟨Y, 0, none⟩ = some (.int .i64 op) := heap_cl hYW rfl
  have y1 : W.cell? ⟨Y, 1, none⟩ = some (.int .i64 a) := heap_cl hYW rfl
  have y2 : W.cell? ⟨Y, 2, none⟩ = some (.int .i64 b) := heap_cl hYW rfl
  have HB : Hid (Below w.heap.size w W) := b1.trans (b2.mono b1.size)
  have HXE : Hid (X = w.heap.size) := hX
  have HYE : Hid (Y = X + 1) := by show Y = X + 1; rw [hX, hY]
  clear b1 b2 hXW hYW hs1 hX hY
  rcases hop with rfl | rfl | rfl | rfl | rfl
  · -- 13
    go_enter Tryz.func72, Tryz.ntmps72
    go_upto_region 1 with fail
    rw [← hW, ← HXE.out, ← HYE.out]
    clear hW
    go_wp2
    all_goals
      go_ret
      exact ⟨ret_bool (by by_cases hb : b = 0 <;> simp [numbersP, isOpP, fitsP, kindA, kindB, kindsP, hb] <;> omega), HB.out⟩
  · -- 14
    go_enter Tryz.func72, Tryz.ntmps72
    go_upto_region 1 with fail
    rw [← hW, ← HXE.out, ← HYE.out]
    clear hW
    go_wp2
    all_goals
      go_ret
      exact ⟨ret_bool (by simp [numbersP, isOpP, fitsP, kindA, kindB, kindsP] <;> omega), HB.out⟩
  · -- 15
    go_enter Tryz.func72, Tryz.ntmps72
    go_upto_region 1 with fail
    rw [← hW, ← HXE.out, ← HYE.out]
    clear hW
    go_wp2
    all_goals
      go_ret
      exact ⟨ret_bool (by simp [numbersP, isOpP, fitsP, kindA, kindB, kindsP] <;> omega), HB.out⟩
  · -- 16
    go_enter Tryz.func72, Tryz.ntmps72
    go_upto_region 1 with fail
    rw [← hW, ← HXE.out, ← HYE.out]
    clear hW
    go_wp2
    all_goals
      go_ret
      exact ⟨ret_bool (by by_cases hb : b = 0 <;> simp [numbersP, isOpP, fitsP, kindA, kindB, kindsP, hb] <;> omega), HB.out⟩
  · -- 17
    go_enter Tryz.func72, Tryz.ntmps72
    go_upto_region 1 with fail
    rw [← hW, ← HXE.out, ← HYE.out]
    clear hW
    go_wp2
    all_goals
      go_ret
      exact ⟨ret_bool (by by_cases hb : b = 0 <;> simp [numbersP, isOpP, fitsP, kindA, kindB, kindsP, hb] <;> omega), HB.out⟩
set_option maxHeartbeats 16000000 in
set_option maxRecDepth 10000 in
theorem numbers_t4 {w : World} {sa ga : Option Addr} {ns sc ng gc : Nat} {op a b : Int} (hop : isOpP op = false) :
    Calls Tryz.prog 72 #[.agg #[.slice sa ns sc, .slice ga ng gc], .agg #[.int .i64 op, .int .i64 a, .int .i64 b]] w fun r w' => r = .returned (.bool (numbersP ns ng op a b)) ∧ Hid (Below w.heap.size w w') := by
  obtain ⟨X, hX⟩ : ∃ X, X = w.heap.size := ⟨_, rfl⟩
  obtain ⟨Y, hY⟩ : ∃ Y, Y = w.heap.size + 1 := ⟨_, rfl⟩
  obtain ⟨W, hW⟩ : ∃ W, W = (w.alloc (.cells #[.slice sa ns sc, .slice ga ng gc] 25)).alloc (.cells #[.int .i64 op, .int .i64 a, .int .i64 b] 53) := ⟨_, rfl⟩
  have b1 : Below w.heap.size w (w.alloc (.cells #[.slice sa ns sc, .slice ga ng gc] 25)) := (Below.refl _ _).alloc (Nat.le_refl _) _
  have b2 : Below (w.alloc (.cells #[.slice sa ns sc, .slice ga ng gc] 25)).heap.size (w.alloc (.cells #[.slice sa ns sc, .slice ga ng gc] 25)) W := by rw [hW]; exact (Below.refl _ _).alloc (Nat.le_refl _) _
  have hs1 : (w.alloc (.cells #[.slice sa ns sc, .slice ga ng gc] 25)).heap.size = w.heap.size + 1 := World.size_alloc _ _
  have hXW : W.heap[X]? = some (.cells #[.slice sa ns sc, .slice ga ng gc] 25 (0, 0)) := by rw [b2.block X (by rw [hs1, hX]; omega), hX]; exact new_blk _ _
  have hYW : W.heap[Y]? = some (.cells #[.int .i64 op, .int .i64 a, .int .i64 b] 53 (0, 0)) := by rw [hW, hY, ← hs1]; exact new_blk _ _
  have x0 : W.cell? ⟨X, 0, none⟩ = some (.slice sa ns sc) := heap_cl hXW rfl
  have x1 : W.cell? ⟨X, 1, none⟩ = some (.slice ga ng gc) := heap_cl hXW rfl
  have y0 : W.cell? ⟨Y, 0, none⟩ = some (.int .i64 op) := heap_cl hYW rfl
  have y1 : W.cell? ⟨Y, 1, none⟩ = some (.int .i64 a) := heap_cl hYW rfl
  have y2 : W.cell? ⟨Y, 2, none⟩ = some (.int .i64 b) := heap_cl hYW rfl
  have HB : Hid (Below w.heap.size w W) := b1.trans (b2.mono b1.size)
  have HXE : Hid (X = w.heap.size) := hX
  have HYE : Hid (Y = X + 1) := by show Y = X + 1; rw [hX, hY]
  clear b1 b2 hXW hYW hs1 hX hY
  have hR : numbersP ns ng op a b = false := by unfold numbersP; rw [hop]; rfl
  rw [hR]
  clear hR
  have hno : op < 1 ∨ 17 < op := by
    unfold isOpP at hop
    simp only [Bool.and_eq_false_iff, decide_eq_false_iff_not] at hop
    omega
  have e1 : (op == 1) = false := by simp; omega
  have e2 : (op == 2) = false := by simp; omega
  have e3 : (op == 3) = false := by simp; omega
  have e4 : (op == 4) = false := by simp; omega
  have e5 : (op == 5) = false := by simp; omega
  have e6 : (op == 6) = false := by simp; omega
  have e7 : (op == 7) = false := by simp; omega
  have e8 : (op == 8) = false := by simp; omega
  have e9 : (op == 9) = false := by simp; omega
  have e10 : (op == 10) = false := by simp; omega
  have e11 : (op == 11) = false := by simp; omega
  have e12 : (op == 12) = false := by simp; omega
  have e13 : (op == 13) = false := by simp; omega
  have e14 : (op == 14) = false := by simp; omega
  have e15 : (op == 15) = false := by simp; omega
  have e16 : (op == 16) = false := by simp; omega
  have e17 : (op == 17) = false := by simp; omega
  clear hop hno
  go_enter Tryz.func72, Tryz.ntmps72
  go_upto_region 1 with fail
  rw [← hW, ← HXE.out, ← HYE.out]
  clear hW
  go_wp2
  all_goals
    go_ret
    exact ⟨rfl, HB.out⟩
theorem numbers_gen {w : World} {sa ga : Option Addr} {ns sc ng gc : Nat} {op a b : Int} :
    Calls Tryz.prog 72 #[.agg #[.slice sa ns sc, .slice ga ng gc], .agg #[.int .i64 op, .int .i64 a, .int .i64 b]] w fun r w' => r = .returned (.bool (numbersP ns ng op a b)) ∧ Hid (Below w.heap.size w w') := by
  cases hop : isOpP op with
  | false => exact numbers_t4 hop
  | true =>
    obtain ⟨o1, o2⟩ := op_range hop
    by_cases h1 : op ≤ 5 ∨ op = 8
    · exact numbers_t1 (by omega)
    · by_cases h2 : op ≤ 12
      · exact numbers_t2 (by omega)
      · exact numbers_t3 (by omega)
/-- Where an instruction jumps to; -1: nowhere. -/
def targetR (op a b : Int) : Int := if op = 13 then a else if op = 14 then b else if op = 15 then b else -1
def jumpsR (op : Int) : Bool := if op = 13 then true else if op = 14 then true else decide (op = 15)
def endsR (op : Int) : Bool := if op = 16 then true else decide (op = 17)
set_option maxRecDepth 10000 in
theorem target_gen {w : World} {op a b : Int} : Calls Tryz.prog 74 #[.agg #[.int .i64 op, .int .i64 a, .int .i64 b]] w fun r w' => r = .returned (.int .i64 (targetR op a b)) ∧ Hid (Below w.heap.size w w') := by
  obtain ⟨Y, hY⟩ : ∃ Y, Y = w.heap.size := ⟨_, rfl⟩
  obtain ⟨W, hW⟩ : ∃ W, W = w.alloc (.cells #[.int .i64 op, .int .i64 a, .int .i64 b] 53) := ⟨_, rfl⟩
  have HB : Hid (Below w.heap.size w W) := by rw [hW]; exact (Below.refl _ _).alloc (Nat.le_refl _) _
  have hYW : W.heap[Y]? = some (.cells #[.int .i64 op, .int .i64 a, .int .i64 b] 53 (0, 0)) := by rw [hW, hY]; exact new_blk _ _
  have y0 : W.cell? ⟨Y, 0, none⟩ = some (.int .i64 op) := heap_cl hYW rfl
  have y1 : W.cell? ⟨Y, 1, none⟩ = some (.int .i64 a) := heap_cl hYW rfl
  have y2 : W.cell? ⟨Y, 2, none⟩ = some (.int .i64 b) := heap_cl hYW rfl
  have HYE : Hid (Y = w.heap.size) := hY
  clear hYW hY
  by_cases h13 : op = 13
  · subst h13
    go_enter Tryz.func74, Tryz.ntmps74
    go_upto_region 1 with fail
    rw [← hW, ← HYE.out]
    clear hW
    go_wp2
    go_ret
    exact ⟨by simp [targetR], HB.out⟩
  have e13 : (op == 13) = false := by simpa using h13
  by_cases h14 : op = 14
  · subst h14
    go_enter Tryz.func74, Tryz.ntmps74
    go_upto_region 1 with fail
    rw [← hW, ← HYE.out]
    clear hW
    go_wp2
    go_ret
    exact ⟨by simp [targetR], HB.out⟩
  have e14 : (op == 14) = false := by simpa using h14
  by_cases h15 : op = 15
  · subst h15
    go_enter Tryz.func74, Tryz.ntmps74
    go_upto_region 1 with fail
    rw [← hW, ← HYE.out]
    clear hW
    go_wp2
    go_ret
    exact ⟨by simp [targetR], HB.out⟩
  have e15 : (op == 15) = false := by simpa using h15
  go_enter Tryz.func74, Tryz.ntmps74
  go_upto_region 1 with fail
  rw [← hW, ← HYE.out]
  clear hW
  go_wp2
  go_ret
  exact ⟨by simp [targetR, h13, h14, h15], HB.out⟩
set_option maxRecDepth 10000 in
theorem jumps_gen {w : World} {op a b : Int} : Calls Tryz.prog 73 #[.agg #[.int .i64 op, .int .i64 a, .int .i64 b]] w fun r w' => r = .returned (.bool (jumpsR op)) ∧ Hid (Below w.heap.size w w') := by
  obtain ⟨Y, hY⟩ : ∃ Y, Y = w.heap.size := ⟨_, rfl⟩
  obtain ⟨W, hW⟩ : ∃ W, W = w.alloc (.cells #[.int .i64 op, .int .i64 a, .int .i64 b] 53) := ⟨_, rfl⟩
  have HB : Hid (Below w.heap.size w W) := by rw [hW]; exact (Below.refl _ _).alloc (Nat.le_refl _) _
  have hYW : W.heap[Y]? = some (.cells #[.int .i64 op, .int .i64 a, .int .i64 b] 53 (0, 0)) := by rw [hW, hY]; exact new_blk _ _
  have y0 : W.cell? ⟨Y, 0, none⟩ = some (.int .i64 op) := heap_cl hYW rfl
  have y1 : W.cell? ⟨Y, 1, none⟩ = some (.int .i64 a) := heap_cl hYW rfl
  have y2 : W.cell? ⟨Y, 2, none⟩ = some (.int .i64 b) := heap_cl hYW rfl
  have HYE : Hid (Y = w.heap.size) := hY
  clear hYW hY
  by_cases h13 : op = 13
  · subst h13
    go_enter Tryz.func73, Tryz.ntmps73
    go_upto_region 1 with fail
    rw [← hW, ← HYE.out]
    clear hW
    go_wp2
    go_ret
    exact ⟨by simp [jumpsR], HB.out⟩
  have e13 : (op == 13) = false := by simpa using h13
  by_cases h14 : op = 14
  · subst h14
    go_enter Tryz.func73, Tryz.ntmps73
    go_upto_region 1 with fail
    rw [← hW, ← HYE.out]
    clear hW
    go_wp2
    go_ret
    exact ⟨by simp [jumpsR], HB.out⟩
  have e14 : (op == 14) = false := by simpa using h14
  by_cases h15 : op = 15
  · subst h15
    go_enter Tryz.func73, Tryz.ntmps73
    go_upto_region 1 with fail
    rw [← hW, ← HYE.out]
    clear hW
    go_wp2
    go_ret
    exact ⟨by simp [jumpsR], HB.out⟩
  have e15 : (op == 15) = false := by simpa using h15
  go_enter Tryz.func73, Tryz.ntmps73
  go_upto_region 1 with fail
  rw [← hW, ← HYE.out]
  clear hW
  go_wp2
  go_ret
  exact ⟨by simp [jumpsR, h13, h14, h15], HB.out⟩
set_option maxRecDepth 10000 in
theorem ends_gen {w : World} {op a b : Int} : Calls Tryz.prog 77 #[.agg #[.int .i64 op, .int .i64 a, .int .i64 b]] w fun r w' => r = .returned (.bool (endsR op)) ∧ Hid (Below w.heap.size w w') := by
  obtain ⟨Y, hY⟩ : ∃ Y, Y = w.heap.size := ⟨_, rfl⟩
  obtain ⟨W, hW⟩ : ∃ W, W = w.alloc (.cells #[.int .i64 op, .int .i64 a, .int .i64 b] 53) := ⟨_, rfl⟩
  have HB : Hid (Below w.heap.size w W) := by rw [hW]; exact (Below.refl _ _).alloc (Nat.le_refl _) _
  have hYW : W.heap[Y]? = some (.cells #[.int .i64 op, .int .i64 a, .int .i64 b] 53 (0, 0)) := by rw [hW, hY]; exact new_blk _ _
  have y0 : W.cell? ⟨Y, 0, none⟩ = some (.int .i64 op) := heap_cl hYW rfl
  have y1 : W.cell? ⟨Y, 1, none⟩ = some (.int .i64 a) := heap_cl hYW rfl
  have y2 : W.cell? ⟨Y, 2, none⟩ = some (.int .i64 b) := heap_cl hYW rfl
  have HYE : Hid (Y = w.heap.size) := hY
  clear hYW hY
  by_cases h16 : op = 16
  · subst h16
    go_enter Tryz.func77, Tryz.ntmps77
    go_upto_region 1 with fail
    rw [← hW, ← HYE.out]
    clear hW
    go_wp2
    go_ret
    exact ⟨by simp [endsR], HB.out⟩
  have e16 : (op == 16) = false := by simpa using h16
  by_cases h17 : op = 17
  · subst h17
    go_enter Tryz.func77, Tryz.ntmps77
    go_upto_region 1 with fail
    rw [← hW, ← HYE.out]
    clear hW
    go_wp2
    go_ret
    exact ⟨by simp [endsR], HB.out⟩
  have e17 : (op == 17) = false := by simpa using h17
  go_enter Tryz.func77, Tryz.ntmps77
  go_upto_region 1 with fail
  rw [← hW, ← HYE.out]
  clear hW
  go_wp2
  go_ret
  exact ⟨by simp [endsR, h16, h17], HB.out⟩
end Go.Proofs.YtlpnegnpejpdkaaGreatDoor

namespace Go.Proofs.YtlpnegnpejpdkaaGreatDoor
open Go.RowKit

set_option maxHeartbeats 16000000 in
set_option maxRecDepth 10000 in
theorem needs_gen {w : World} {sa ga : Option Addr} {sc ng gc : Nat} {l : List Shp} {op a b d : Int} (hs : RowE EShp w (fun y => y < w.heap.size) (fun y => y < w.heap.size) (.slice sa l.length sc) l) (hfs : ∀ k (h : k < l.length), 0 ≤ l[k].2 ∧ l[k].2 ≤ 8) (hx : numbersP l.length ng op a b = true) (hd1 : 1 ≤ d) (hd8 : d ≤ 8000) (ha : a < 9223372036854775808) :
    Calls Tryz.prog 75 #[.agg #[.slice sa l.length sc, .slice ga ng gc], .agg #[.int .i64 op, .int .i64 a, .int .i64 b], .int .i64 d] w fun r w' => r = .returned (.bool (behindP (l.map fun s => s.2) (op, a, b) d).2) ∧ Hid (Below w.heap.size w w') := by
  obtain ⟨hop, hfa⟩ : (op = 1 ∨ op = 2 ∨ op = 3 ∨ op = 4 ∨ op = 5 ∨ op = 6 ∨ op = 7 ∨ op = 8 ∨ op = 9 ∨ op = 10 ∨ op = 11 ∨ op = 12 ∨ op = 13 ∨ op = 14 ∨ op = 15 ∨ op = 16 ∨ op = 17) ∧ fitsP l.length ng (kindA op) a = true := by
    unfold numbersP at hx
    simp only [Bool.and_eq_true] at hx
    obtain ⟨o1, o2⟩ := op_range hx.1.1
    exact ⟨by omega, hx.1.2⟩
  clear hx
  obtain ⟨X, hX⟩ : ∃ X, X = w.heap.size := ⟨_, rfl⟩
  obtain ⟨Y, hY⟩ : ∃ Y, Y = w.heap.size + 1 := ⟨_, rfl⟩
  obtain ⟨W, hW⟩ : ∃ W, W = (w.alloc (.cells #[.slice sa l.length sc, .slice ga ng gc] 25)).alloc (.cells #[.int .i64 op, .int .i64 a, .int .i64 b] 53) := ⟨_, rfl⟩
  have b1 : Below w.heap.size w (w.alloc (.cells #[.slice sa l.length sc, .slice ga ng gc] 25)) := (Below.refl _ _).alloc (Nat.le_refl _) _
  have b2 : Below (w.alloc (.cells #[.slice sa l.length sc, .slice ga ng gc] 25)).heap.size (w.alloc (.cells #[.slice sa l.length sc, .slice ga ng gc] 25)) W := by rw [hW]; exact (Below.refl _ _).alloc (Nat.le_refl _) _
  have hs1 : (w.alloc (.cells #[.slice sa l.length sc, .slice ga ng gc] 25)).heap.size = w.heap.size + 1 := World.size_alloc _ _
  have hXW : W.heap[X]? = some (.cells #[.slice sa l.length sc, .slice ga ng gc] 25 (0, 0)) := by rw [b2.block X (by rw [hs1, hX]; omega), hX]; exact new_blk _ _
  have hYW : W.heap[Y]? = some (.cells #[.int .i64 op, .int .i64 a, .int .i64 b] 53 (0, 0)) := by rw [hW, hY, ← hs1]; exact new_blk _ _
  have x0 : W.cell? ⟨X, 0, none⟩ = some (.slice sa l.length sc) := heap_cl hXW rfl
  have x1 : W.cell? ⟨X, 1, none⟩ = some (.slice ga ng gc) := heap_cl hXW rfl
  have y0 : W.cell? ⟨Y, 0, none⟩ = some (.int .i64 op) := heap_cl hYW rfl
  have y1 : W.cell? ⟨Y, 1, none⟩ = some (.int .i64 a) := heap_cl hYW rfl
  have y2 : W.cell? ⟨Y, 2, none⟩ = some (.int .i64 b) := heap_cl hYW rfl
  have HB : Hid (Below w.heap.size w W) := b1.trans (b2.mono b1.size)
  have HXE : Hid (X = w.heap.size) := hX
  have HYE : Hid (Y = X + 1) := by show Y = X + 1; rw [hX, hY]
  clear b1 b2 hXW hYW hs1 hX hY
  have HFS : Hid (∀ k (h : k < l.length), 0 ≤ l[k].2 ∧ l[k].2 ≤ 8) := hfs
  have HSH : Hid (∀ k (hk : k < l.length), ∃ g o, sa = some ⟨g, o, none⟩ ∧ l.length ≤ sc ∧ W.cell? ⟨g, o + k * 2 + 1, none⟩ = some (.int .i64 l[k].2)) := fun k hk => by
    obtain ⟨ad', cap', e, hh⟩ := shp_at (row_below hs HB.out)
    obtain ⟨rfl, -, rfl⟩ := Value.slice.inj e
    obtain ⟨g, o, q1, _, q2, _, q4, _⟩ := hh k hk
    exact ⟨g, o, q1, q2, q4⟩
  clear hs hfs
  rcases hop with rfl | rfl | rfl | rfl | rfl | rfl | rfl | rfl | rfl | rfl | rfl | rfl | rfl | rfl | rfl | rfl | rfl
  · -- 1
    have a1 : 0 ≤ a := by simpa [fitsP, kindA, kindsP] using hfa
    clear hfa
    go_enter Tryz.func75, Tryz.ntmps75
    go_upto_region 1 with fail
    rw [← hW, ← HXE.out, ← HYE.out]
    clear hW
    go_wp2
    all_goals
      go_ret
      exact ⟨ret_bool (by simp [behindP]), HB.out⟩
  · -- 2
    obtain ⟨a1, a2⟩ : 0 ≤ a ∧ a < (ng : Int) := by simpa [fitsP, kindA, kindsP] using hfa
    clear hfa
    go_enter Tryz.func75, Tryz.ntmps75
    go_upto_region 1 with fail
    rw [← hW, ← HXE.out, ← HYE.out]
    clear hW
    go_wp2
    all_goals
      go_ret
      exact ⟨ret_bool (by simp [behindP]), HB.out⟩
  · -- 3
    obtain ⟨a1, a2⟩ : -4611686018427387904 ≤ a ∧ a ≤ 4611686018427387903 := by simpa [fitsP, kindA, kindsP] using hfa
    clear hfa
    go_enter Tryz.func75, Tryz.ntmps75
    go_upto_region 1 with fail
    rw [← hW, ← HXE.out, ← HYE.out]
    clear hW
    go_wp2
    all_goals
      go_ret
      exact ⟨ret_bool (by simp [behindP]), HB.out⟩
  · -- 4
    have a1 : 0 ≤ a := by simpa [fitsP, kindA, kindsP] using hfa
    clear hfa
    go_enter Tryz.func75, Tryz.ntmps75
    go_upto_region 1 with fail
    rw [← hW, ← HXE.out, ← HYE.out]
    clear hW
    go_wp2
    all_goals
      go_ret
      exact ⟨ret_bool (by simp [behindP]), HB.out⟩
  · -- 5
    have a1 : 0 ≤ a := by simpa [fitsP, kindA, kindsP] using hfa
    clear hfa
    go_enter Tryz.func75, Tryz.ntmps75
    go_upto_region 1 with fail
    rw [← hW, ← HXE.out, ← HYE.out]
    clear hW
    go_wp2
    all_goals
      go_ret
      exact ⟨ret_bool (by simp [behindP]), HB.out⟩
  · -- 6
    obtain rfl : a = 0 := by simpa [fitsP, kindA, kindsP] using hfa
    clear hfa
    go_enter Tryz.func75, Tryz.ntmps75
    go_upto_region 1 with fail
    rw [← hW, ← HXE.out, ← HYE.out]
    clear hW
    go_wp2
    all_goals
      go_ret
      exact ⟨ret_bool (by simp [behindP]), HB.out⟩
  · -- 7
    have a1 : 1 ≤ a := by simpa [fitsP, kindA, kindsP] using hfa
    clear hfa
    go_enter Tryz.func75, Tryz.ntmps75
    go_upto_region 1 with fail
    rw [← hW, ← HXE.out, ← HYE.out]
    clear hW
    go_wp2
    all_goals
      go_ret
      exact ⟨ret_bool (by simp [behindP]), HB.out⟩
  · -- 8
    have a1 : 0 ≤ a := by simpa [fitsP, kindA, kindsP] using hfa
    clear hfa
    go_enter Tryz.func75, Tryz.ntmps75
    go_upto_region 1 with fail
    rw [← hW, ← HXE.out, ← HYE.out]
    clear hW
    go_wp2
    all_goals
      go_ret
      exact ⟨ret_bool (by simp [behindP]), HB.out⟩
  · -- 9
    obtain ⟨a1, a2⟩ : 0 ≤ a ∧ a < (l.length : Int) := by simpa [fitsP, kindA, kindsP] using hfa
    obtain ⟨k, rfl⟩ : ∃ k : Nat, a = (k : Int) := ⟨a.toNat, by omega⟩
    have hk : k < l.length := by omega
    obtain ⟨g, o, rfl, hc, c1⟩ := HSH.out k hk
    obtain ⟨f1, f2⟩ := HFS.out k hk
    have HGD : Hid ((l.map fun s => s.2).getD ((k : Int)).toNat 0 = l[k].2) := getD_map2 l k hk
    clear hfa
    generalize l[k].2 = f at *
    go_enter Tryz.func75, Tryz.ntmps75
    go_upto_region 1 with fail
    rw [← hW, ← HXE.out, ← HYE.out]
    clear hW
    go_wp2
    all_goals
      go_ret
      exact ⟨by rw [behind9, HGD.out]; rfl, HB.out⟩
  · -- 10
    obtain ⟨a1, a2⟩ : 0 ≤ a ∧ a < (l.length : Int) := by simpa [fitsP, kindA, kindsP] using hfa
    obtain ⟨k, rfl⟩ : ∃ k : Nat, a = (k : Int) := ⟨a.toNat, by omega⟩
    have hk : k < l.length := by omega
    obtain ⟨g, o, rfl, hc, c1⟩ := HSH.out k hk
    obtain ⟨f1, f2⟩ := HFS.out k hk
    have HGD : Hid ((l.map fun s => s.2).getD ((k : Int)).toNat 0 = l[k].2) := getD_map2 l k hk
    clear hfa
    generalize l[k].2 = f at *
    go_enter Tryz.func75, Tryz.ntmps75
    go_upto_region 1 with fail
    rw [← hW, ← HXE.out, ← HYE.out]
    clear hW
    go_wp2
    all_goals
      go_ret
      exact ⟨by rw [behind10, HGD.out]; rfl, HB.out⟩
  · -- 11
    obtain rfl : a = 0 := by simpa [fitsP, kindA, kindsP] using hfa
    clear hfa
    go_enter Tryz.func75, Tryz.ntmps75
    go_upto_region 1 with fail
    rw [← hW, ← HXE.out, ← HYE.out]
    clear hW
    go_wp2
    all_goals
      go_ret
      exact ⟨ret_bool (by simp [behindP]), HB.out⟩
  · -- 12
    obtain ⟨a1, a2⟩ : 1 ≤ a ∧ a ≤ 11 := by simpa [fitsP, kindA, kindsP] using hfa
    clear hfa
    go_enter Tryz.func75, Tryz.ntmps75
    go_upto_region 1 with fail
    rw [← hW, ← HXE.out, ← HYE.out]
    clear hW
    go_wp2
    all_goals
      go_ret
      exact ⟨ret_bool (by simp [behindP]), HB.out⟩
  · -- 13
    clear hfa
    go_enter Tryz.func75, Tryz.ntmps75
    go_upto_region 1 with fail
    rw [← hW, ← HXE.out, ← HYE.out]
    clear hW
    go_wp2
    all_goals
      go_ret
      exact ⟨ret_bool (by simp [behindP]), HB.out⟩
  · -- 14
    obtain ⟨a1, a2⟩ : 0 ≤ a ∧ a < (l.length : Int) := by simpa [fitsP, kindA, kindsP] using hfa
    clear hfa
    go_enter Tryz.func75, Tryz.ntmps75
    go_upto_region 1 with fail
    rw [← hW, ← HXE.out, ← HYE.out]
    clear hW
    go_wp2
    all_goals
      go_ret
      exact ⟨ret_bool (by simp [behindP]), HB.out⟩
  · -- 15
    obtain ⟨a1, a2⟩ : -4611686018427387904 ≤ a ∧ a ≤ 4611686018427387903 := by simpa [fitsP, kindA, kindsP] using hfa
    clear hfa
    go_enter Tryz.func75, Tryz.ntmps75
    go_upto_region 1 with fail
    rw [← hW, ← HXE.out, ← HYE.out]
    clear hW
    go_wp2
    all_goals
      go_ret
      exact ⟨ret_bool (by simp [behindP]), HB.out⟩
  · -- 16
    obtain ⟨a1, a2⟩ : 1 ≤ a ∧ a ≤ 4 := by simpa [fitsP, kindA, kindsP] using hfa
    clear hfa
    go_enter Tryz.func75, Tryz.ntmps75
    go_upto_region 1 with fail
    rw [← hW, ← HXE.out, ← HYE.out]
    clear hW
    go_wp2
    all_goals
      go_ret
      exact ⟨ret_bool (by simp [behindP]), HB.out⟩
  · -- 17
    obtain rfl : a = 0 := by simpa [fitsP, kindA, kindsP] using hfa
    clear hfa
    go_enter Tryz.func75, Tryz.ntmps75
    go_upto_region 1 with fail
    rw [← hW, ← HXE.out, ← HYE.out]
    clear hW
    go_wp2
    all_goals
      go_ret
      exact ⟨ret_bool (by simp [behindP]; (by_cases h : d = 1 <;> simp [h])), HB.out⟩
set_option maxHeartbeats 16000000 in
set_option maxRecDepth 10000 in
theorem behind_gen {w : World} {sa ga : Option Addr} {sc ng gc : Nat} {l : List Shp} {op a b d : Int} (hs : RowE EShp w (fun y => y < w.heap.size) (fun y => y < w.heap.size) (.slice sa l.length sc) l) (hfs : ∀ k (h : k < l.length), 0 ≤ l[k].2 ∧ l[k].2 ≤ 8) (hx : numbersP l.length ng op a b = true) (hd1 : 1 ≤ d) (hd8 : d ≤ 8000) (hb : (behindP (l.map fun s => s.2) (op, a, b) d).2 = true) (ha : a < 9223372036854775808) :
    Calls Tryz.prog 76 #[.agg #[.slice sa l.length sc, .slice ga ng gc], .agg #[.int .i64 op, .int .i64 a, .int .i64 b], .int .i64 d] w fun r w' => r = .returned (.int .i64 (behindP (l.map fun s => s.2) (op, a, b) d).1) ∧ Hid (Below w.heap.size w w') := by
  obtain ⟨hop, hfa⟩ : (op = 1 ∨ op = 2 ∨ op = 3 ∨ op = 4 ∨ op = 5 ∨ op = 6 ∨ op = 7 ∨ op = 8 ∨ op = 9 ∨ op = 10 ∨ op = 11 ∨ op = 12 ∨ op = 13 ∨ op = 14 ∨ op = 15 ∨ op = 16 ∨ op = 17) ∧ fitsP l.length ng (kindA op) a = true := by
    unfold numbersP at hx
    simp only [Bool.and_eq_true] at hx
    obtain ⟨o1, o2⟩ := op_range hx.1.1
    exact ⟨by omega, hx.1.2⟩
  clear hx
  obtain ⟨X, hX⟩ : ∃ X, X = w.heap.size := ⟨_, rfl⟩
  obtain ⟨Y, hY⟩ : ∃ Y, Y = w.heap.size + 1 := ⟨_, rfl⟩
  obtain ⟨W, hW⟩ : ∃ W, W = (w.alloc (.cells #[.slice sa l.length sc, .slice ga ng gc] 25)).alloc (.cells #[.int .i64 op, .int .i64 a, .int .i64 b] 53) := ⟨_, rfl⟩
  have b1 : Below w.heap.size w (w.alloc (.cells #[.slice sa l.length sc, .slice ga ng gc] 25)) := (Below.refl _ _).alloc (Nat.le_refl _) _
  have b2 : Below (w.alloc (.cells #[.slice sa l.length sc, .slice ga ng gc] 25)).heap.size (w.alloc (.cells #[.slice sa l.length sc, .slice ga ng gc] 25)) W := by rw [hW]; exact (Below.refl _ _).alloc (Nat.le_refl _) _
  have hs1 : (w.alloc (.cells #[.slice sa l.length sc, .slice ga ng gc] 25)).heap.size = w.heap.size + 1 := World.size_alloc _ _
  have hXW : W.heap[X]? = some (.cells #[.slice sa l.length sc, .slice ga ng gc] 25 (0, 0)) := by rw [b2.block X (by rw [hs1, hX]; omega), hX]; exact new_blk _ _
  have hYW : W.heap[Y]? = some (.cells #[.int .i64 op, .int .i64 a, .int .i64 b] 53 (0, 0)) := by rw [hW, hY, ← hs1]; exact new_blk _ _
  have x0 : W.cell? ⟨X, 0, none⟩ = some (.slice sa l.length sc) := heap_cl hXW rfl
  have x1 : W.cell? ⟨X, 1, none⟩ = some (.slice ga ng gc) := heap_cl hXW rfl
  have y0 : W.cell? ⟨Y, 0, none⟩ = some (.int .i64 op) := heap_cl hYW rfl
  have y1 : W.cell? ⟨Y, 1, none⟩ = some (.int .i64 a) := heap_cl hYW rfl
  have y2 : W.cell? ⟨Y, 2, none⟩ = some (.int .i64 b) := heap_cl hYW rfl
  have HB : Hid (Below w.heap.size w W) := b1.trans (b2.mono b1.size)
  have HXE : Hid (X = w.heap.size) := hX
  have HYE : Hid (Y = X + 1) := by show Y = X + 1; rw [hX, hY]
  clear b1 b2 hXW hYW hs1 hX hY
  have HFS : Hid (∀ k (h : k < l.length), 0 ≤ l[k].2 ∧ l[k].2 ≤ 8) := hfs
  have HSH : Hid (∀ k (hk : k < l.length), ∃ g o, sa = some ⟨g, o, none⟩ ∧ l.length ≤ sc ∧ W.cell? ⟨g, o + k * 2 + 1, none⟩ = some (.int .i64 l[k].2)) := fun k hk => by
    obtain ⟨ad', cap', e, hh⟩ := shp_at (row_below hs HB.out)
    obtain ⟨rfl, -, rfl⟩ := Value.slice.inj e
    obtain ⟨g, o, q1, _, q2, _, q4, _⟩ := hh k hk
    exact ⟨g, o, q1, q2, q4⟩
  clear hs hfs
  rcases hop with rfl | rfl | rfl | rfl | rfl | rfl | rfl | rfl | rfl | rfl | rfl | rfl | rfl | rfl | rfl | rfl | rfl
  · -- 1
    have a1 : 0 ≤ a := by simpa [fitsP, kindA, kindsP] using hfa
    have hd2 : a < d := by simpa [behindP] using hb
    clear hb
    clear hfa
    go_enter Tryz.func76, Tryz.ntmps76
    go_upto_region 1 with fail
    rw [← hW, ← HXE.out, ← HYE.out]
    clear hW
    go_wp2
    all_goals
      go_ret
      exact ⟨by simp [behindP], HB.out⟩
  · -- 2
    obtain ⟨a1, a2⟩ : 0 ≤ a ∧ a < (ng : Int) := by simpa [fitsP, kindA, kindsP] using hfa
    clear hb
    clear hfa
    go_enter Tryz.func76, Tryz.ntmps76
    go_upto_region 1 with fail
    rw [← hW, ← HXE.out, ← HYE.out]
    clear hW
    go_wp2
    all_goals
      go_ret
      exact ⟨by simp [behindP], HB.out⟩
  · -- 3
    obtain ⟨a1, a2⟩ : -4611686018427387904 ≤ a ∧ a ≤ 4611686018427387903 := by simpa [fitsP, kindA, kindsP] using hfa
    clear hb
    clear hfa
    go_enter Tryz.func76, Tryz.ntmps76
    go_upto_region 1 with fail
    rw [← hW, ← HXE.out, ← HYE.out]
    clear hW
    go_wp2
    all_goals
      go_ret
      exact ⟨by simp [behindP], HB.out⟩
  · -- 4
    have a1 : 0 ≤ a := by simpa [fitsP, kindA, kindsP] using hfa
    have hd2 : a < d := by simpa [behindP] using hb
    clear hb
    clear hfa
    go_enter Tryz.func76, Tryz.ntmps76
    go_upto_region 1 with fail
    rw [← hW, ← HXE.out, ← HYE.out]
    clear hW
    go_wp2
    all_goals
      go_ret
      exact ⟨by simp [behindP], HB.out⟩
  · -- 5
    have a1 : 0 ≤ a := by simpa [fitsP, kindA, kindsP] using hfa
    have hd2 : a < d - 1 := by simpa [behindP] using hb
    clear hb
    clear hfa
    go_enter Tryz.func76, Tryz.ntmps76
    go_upto_region 1 with fail
    rw [← hW, ← HXE.out, ← HYE.out]
    clear hW
    go_wp2
    all_goals
      go_ret
      exact ⟨by simp [behindP], HB.out⟩
  · -- 6
    obtain rfl : a = 0 := by simpa [fitsP, kindA, kindsP] using hfa
    have hd2 : 2 < d := by simpa [behindP] using hb
    clear hb
    clear hfa
    go_enter Tryz.func76, Tryz.ntmps76
    go_upto_region 1 with fail
    rw [← hW, ← HXE.out, ← HYE.out]
    clear hW
    go_wp2
    all_goals
      go_ret
      exact ⟨by simp [behindP], HB.out⟩
  · -- 7
    have a1 : 1 ≤ a := by simpa [fitsP, kindA, kindsP] using hfa
    have hd2 : a < d := by simpa [behindP] using hb
    clear hb
    clear hfa
    go_enter Tryz.func76, Tryz.ntmps76
    go_upto_region 1 with fail
    rw [← hW, ← HXE.out, ← HYE.out]
    clear hW
    go_wp2
    all_goals
      go_ret
      exact ⟨by simp [behindP], HB.out⟩
  · -- 8
    have a1 : 0 ≤ a := by simpa [fitsP, kindA, kindsP] using hfa
    clear hb
    clear hfa
    go_enter Tryz.func76, Tryz.ntmps76
    go_upto_region 1 with fail
    rw [← hW, ← HXE.out, ← HYE.out]
    clear hW
    by_cases h8 : a ≤ 8000
    · go_wp2
      all_goals
        go_ret
        exact ⟨by simp [behindP] <;> omega, HB.out⟩
    · go_wp2
      all_goals
        go_ret
        exact ⟨by simp [behindP] <;> omega, HB.out⟩
  · -- 9
    obtain ⟨a1, a2⟩ : 0 ≤ a ∧ a < (l.length : Int) := by simpa [fitsP, kindA, kindsP] using hfa
    obtain ⟨k, rfl⟩ : ∃ k : Nat, a = (k : Int) := ⟨a.toNat, by omega⟩
    have hk : k < l.length := by omega
    obtain ⟨g, o, rfl, hc, c1⟩ := HSH.out k hk
    obtain ⟨f1, f2⟩ := HFS.out k hk
    have HGD : Hid ((l.map fun s => s.2).getD ((k : Int)).toNat 0 = l[k].2) := getD_map2 l k hk
    have hd2 : l[k].2 < d := by rw [behind9, HGD.out] at hb; simpa using hb
    clear hb
    clear hfa
    generalize l[k].2 = f at *
    go_enter Tryz.func76, Tryz.ntmps76
    go_upto_region 1 with fail
    rw [← hW, ← HXE.out, ← HYE.out]
    clear hW
    go_wp2
    all_goals
      go_ret
      exact ⟨by rw [behind9, HGD.out]; rfl, HB.out⟩
  · -- 10
    obtain ⟨a1, a2⟩ : 0 ≤ a ∧ a < (l.length : Int) := by simpa [fitsP, kindA, kindsP] using hfa
    obtain ⟨k, rfl⟩ : ∃ k : Nat, a = (k : Int) := ⟨a.toNat, by omega⟩
    have hk : k < l.length := by omega
    obtain ⟨g, o, rfl, hc, c1⟩ := HSH.out k hk
    obtain ⟨f1, f2⟩ := HFS.out k hk
    have HGD : Hid ((l.map fun s => s.2).getD ((k : Int)).toNat 0 = l[k].2) := getD_map2 l k hk
    have hd2 : 1 < d := by simpa [behindP] using hb
    clear hb
    clear hfa
    generalize l[k].2 = f at *
    go_enter Tryz.func76, Tryz.ntmps76
    go_upto_region 1 with fail
    rw [← hW, ← HXE.out, ← HYE.out]
    clear hW
    go_wp2
    all_goals
      go_ret
      exact ⟨by rw [behind10, HGD.out]; rfl, HB.out⟩
  · -- 11
    obtain rfl : a = 0 := by simpa [fitsP, kindA, kindsP] using hfa
    have hd2 : 1 < d := by simpa [behindP] using hb
    clear hb
    clear hfa
    go_enter Tryz.func76, Tryz.ntmps76
    go_upto_region 1 with fail
    rw [← hW, ← HXE.out, ← HYE.out]
    clear hW
    go_wp2
    all_goals
      go_ret
      exact ⟨by simp [behindP], HB.out⟩
  · -- 12
    obtain ⟨a1, a2⟩ : 1 ≤ a ∧ a ≤ 11 := by simpa [fitsP, kindA, kindsP] using hfa
    have hd2 : 2 < d := by simpa [behindP] using hb
    clear hb
    clear hfa
    go_enter Tryz.func76, Tryz.ntmps76
    go_upto_region 1 with fail
    rw [← hW, ← HXE.out, ← HYE.out]
    clear hW
    go_wp2
    all_goals
      go_ret
      exact ⟨by simp [behindP], HB.out⟩
  · -- 13
    clear hb
    clear hfa
    go_enter Tryz.func76, Tryz.ntmps76
    go_upto_region 1 with fail
    rw [← hW, ← HXE.out, ← HYE.out]
    clear hW
    go_wp2
    all_goals
      go_ret
      exact ⟨by simp [behindP], HB.out⟩
  · -- 14
    obtain ⟨a1, a2⟩ : 0 ≤ a ∧ a < (l.length : Int) := by simpa [fitsP, kindA, kindsP] using hfa
    have hd2 : 1 < d := by simpa [behindP] using hb
    clear hb
    clear hfa
    go_enter Tryz.func76, Tryz.ntmps76
    go_upto_region 1 with fail
    rw [← hW, ← HXE.out, ← HYE.out]
    clear hW
    go_wp2
    all_goals
      go_ret
      exact ⟨by simp [behindP], HB.out⟩
  · -- 15
    obtain ⟨a1, a2⟩ : -4611686018427387904 ≤ a ∧ a ≤ 4611686018427387903 := by simpa [fitsP, kindA, kindsP] using hfa
    have hd2 : 1 < d := by simpa [behindP] using hb
    clear hb
    clear hfa
    go_enter Tryz.func76, Tryz.ntmps76
    go_upto_region 1 with fail
    rw [← hW, ← HXE.out, ← HYE.out]
    clear hW
    go_wp2
    all_goals
      go_ret
      exact ⟨by simp [behindP], HB.out⟩
  · -- 16
    obtain ⟨a1, a2⟩ : 1 ≤ a ∧ a ≤ 4 := by simpa [fitsP, kindA, kindsP] using hfa
    clear hb
    clear hfa
    go_enter Tryz.func76, Tryz.ntmps76
    go_upto_region 1 with fail
    rw [← hW, ← HXE.out, ← HYE.out]
    clear hW
    go_wp2
    all_goals
      go_ret
      exact ⟨by simp [behindP], HB.out⟩
  · -- 17
    obtain rfl : a = 0 := by simpa [fitsP, kindA, kindsP] using hfa
    have hd2 : d = 1 := by simpa [behindP] using hb
    clear hb
    clear hfa
    go_enter Tryz.func76, Tryz.ntmps76
    go_upto_region 1 with fail
    rw [← hW, ← HXE.out, ← HYE.out]
    clear hW
    go_wp2
    all_goals
      go_ret
      exact ⟨by simp [behindP], HB.out⟩
end Go.Proofs.YtlpnegnpejpdkaaGreatDoor

namespace Go.Proofs.YtlpnegnpejpdkaaGreatDoor
open Go.RowKit

theorem heap_frozen {w : World} {b o : Nat} {cs : Array Value} {t : TypeId} (h : w.heap[b]? = some (.cells cs t (0, 0))) : w.frozen? ⟨b, o, none⟩ = false := by
  simp [World.frozen?, h]
theorem setCell_block {W : World} {b i : Nat} {c : Array Value} {t : TypeId} {v : Value} (h : W.heap[b]? = some (.cells c t (0, 0))) : (W.setCell ⟨b, i, none⟩ v).heap[b]? = some (.cells (c.setIfInBounds i v) t (0, 0)) := by
  simp [World.setCell, Array.getElem?_modify, h]
/-- The depths, in a block of their own. -/
def DepAt (w : World) (D : Nat) (ds : List Int) : Prop := w.heap[D]? = some (.cells (ds.map (Value.int .i64)).toArray 3 (0, 0))
theorem DepAt.cell {w : World} {D : Nat} {ds : List Int} (h : DepAt w D ds) {i : Nat} (hi : i < ds.length) : w.cell? ⟨D, i, none⟩ = some (.int .i64 (ds.getD i 0)) := heap_cl h (by simp [List.getD, hi])
theorem DepAt.frozen {w : World} {D i : Nat} {ds : List Int} (h : DepAt w D ds) : w.frozen? ⟨D, i, none⟩ = false := heap_frozen h
theorem DepAt.put {w : World} {D : Nat} {ds : List Int} (h : DepAt w D ds) (i : Nat) (x : Int) : DepAt (w.setCell ⟨D, i, none⟩ (.int .i64 x)) D (ds.set i x) := by
  unfold DepAt
  rw [setCell_block h]
  congr 2
  apply Array.ext'
  rw [Array.toList_setIfInBounds]
  simp [List.map_set]
theorem DepAt.on {w w' : World} {D : Nat} {ds : List Int} (h : DepAt w D ds) (hk : w'.heap[D]? = w.heap[D]?) : DepAt w' D ds := hk.trans h
theorem DepAt.lt {w : World} {D : Nat} {ds : List Int} (h : DepAt w D ds) : D < w.heap.size := lt_heap h
set_option maxHeartbeats 8000000 in
set_option maxRecDepth 10000 in
theorem reach_any {w : World} {F D B n cap : Nat} {ds : List Int} (hF : w.cell? ⟨F, 2, none⟩ = some (.slice (some ⟨D, 0, none⟩) n cap)) (hn : n = ds.length) (_hc : n ≤ cap) (hFD : F ≠ D) (hD : DepAt w D ds) (hB : B ≤ D) {i : Nat} (hi : i < n) (_hn2 : n < 140737488355328) (d : Int) :
    Calls Tryz.prog 124 #[.pointer (some ⟨F, 0, none⟩), .int .i64 i, .int .i64 d] w fun r w' => r = .returned (.bool (reachP ds i d).2) ∧ Hid (Below B w w' ∧ DepAt w' D (reachP ds i d).1 ∧ ∀ y, y ≠ D → w'.heap[y]? = w.heap[y]?) := by
  have c1 := hD.cell (i := i) (by omega)
  have f1 : w.frozen? ⟨D, i, none⟩ = false := hD.frozen
  have i1 : (0 : Int) ≤ (i : Int) := by omega
  have i2 : (i : Int) < (n : Int) := by omega
  have HU : Hid (∀ h : ds.getD i 0 ≠ 0, (reachP ds i d) = (ds, decide (ds.getD i 0 = d))) := fun h => by unfold reachP; rw [if_neg h]
  have HV : Hid (∀ h : ds.getD i 0 = 0, (reachP ds i d) = (ds.set i d, true)) := fun h => by unfold reachP; rw [if_pos h]
  have HD : Hid (DepAt w D ds) := hD
  have HP : Hid (DepAt (w.setCell ⟨D, i, none⟩ (.int .i64 d)) D (ds.set i d)) := hD.put i d
  have HC : Hid ((w.setCell ⟨D, i, none⟩ (.int .i64 d)).cell? ⟨D, i, none⟩ = some (.int .i64 d) ∧ (w.setCell ⟨D, i, none⟩ (.int .i64 d)).cell? ⟨F, 2, none⟩ = some (.slice (some ⟨D, 0, none⟩) n cap)) := by
    refine ⟨?_, ?_⟩
    · rw [HP.out.cell (i := i) (by rw [List.length_set]; omega)]
      simp [List.getD, show i < ds.length by omega]
    · rw [← hF]
      exact cell_on (Below.heap_setCell _ _ _ _ hFD) _
  clear hD hn
  generalize ds.getD i 0 = z at *
  go_enter Tryz.func124, Tryz.ntmps124
  by_cases hz : z = 0
  · have e1 : (z == 0) = true := by simp [hz]
    have e2 : (d == d) = true := by simp
    obtain ⟨c2, c3⟩ := HC.out
    rw [HV.out hz]
    have HB2 : Hid (Below B w (w.setCell ⟨D, i, none⟩ (.int .i64 d))) := (Below.refl _ _).setCell (show B ≤ D from hB) _
    have HK : Hid (∀ y, y ≠ D → (w.setCell ⟨D, i, none⟩ (.int .i64 d)).heap[y]? = w.heap[y]?) := fun y hy => Below.heap_setCell _ _ _ _ hy
    go_wp2
    go_ret
    exact ⟨rfl, HB2.out, HP.out, HK.out⟩
  · have e1 : (z == 0) = false := by simpa using hz
    rw [HU.out hz]
    go_wp2
    go_ret
    exact ⟨ret_bool (by by_cases h : z = d <;> simp [h]), Below.refl _ _, HD.out, fun _ _ => rfl⟩
end Go.Proofs.YtlpnegnpejpdkaaGreatDoor
