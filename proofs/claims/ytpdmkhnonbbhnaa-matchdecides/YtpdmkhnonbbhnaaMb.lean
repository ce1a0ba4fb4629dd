/- mayBe: a pattern that is not wild, whatever stands within it. -/
import Derived.Test.YtpdmkhnonbbhnaaMa
import Derived.Test.YtpdmkhnonbbhnaaMbx
namespace Go.Proofs.Ytpdmkhnonbbhnaa
open Go.RowKit Go.Maps

theorem heap_cell' {w : World} {b i : Nat} {c : Array Value} {t : TypeId} {f : Nat × Nat} {u : Value} (h : w.heap[b]? = some (.cells c t f)) (hu : c[i]? = some u) : w.cell? ⟨b, i, none⟩ = some u := by
  simp only [World.cell?, h]
  exact hu
theorem new_block' (w : World) (o : Obj) : (w.alloc o).heap[w.heap.size]? = some o := by
  show (w.heap.push o)[w.heap.size]? = _
  simp
set_option maxHeartbeats 4000000 in
set_option maxRecDepth 10000 in
theorem maybe_any {w : World} {S : Nat → Prop} {g o b : Nat} {p : Pt} {k : Kn} (fa : Option Addr) (fl fc : Nat) (hS : ∀ b, S b → b < w.heap.size) (hM : MapK w b k) (hp : PtP w S g o p) :
    Calls Try.prog 59 #[.agg #[.slice fa fl fc, .map (some b)], .pointer (some ⟨g, o, none⟩)] w fun r w' => r = .returned (.bool (mayBe k p)) ∧ Below w.heap.size w w' := by
  obtain ⟨h0, c0, c1, c2, l1, l2, ad, cap, c3, _⟩ := hp.open
  have hg := hS _ h0
  by_cases e3 : p.kind = 3
  · have hR : mayBe k p = (decide (-4611686018427387904 ≤ p.num) && decide (p.num ≤ 4611686018427387903)) := by unfold mayBe; rw [if_pos e3]
    rw [hR]
    rw [e3] at c0
    generalize p.num = x at c2
    clear hR e3 c1 c3 hM hp hS
    by_cases h1 : -4611686018427387904 ≤ x
    · by_cases h2 : x ≤ 4611686018427387903
      · rw [decide_eq_true h1, decide_eq_true h2]
        go_enter Try.func59, Try.ntmps59
        go_wp2
        go_ret
        exact ⟨rfl, (Below.refl _ _).alloc (Nat.le_refl _) _⟩
      · rw [decide_eq_true h1, decide_eq_false h2]
        have h2' : 4611686018427387903 < x := by omega
        go_enter Try.func59, Try.ntmps59
        go_wp2
        go_ret
        exact ⟨rfl, (Below.refl _ _).alloc (Nat.le_refl _) _⟩
    · rw [decide_eq_false h1]
      have h2' : x < -4611686018427387904 := by omega
      go_enter Try.func59, Try.ntmps59
      go_wp2
      go_ret
      exact ⟨rfl, (Below.refl _ _).alloc (Nat.le_refl _) _⟩
  · by_cases e4 : p.kind = 4
    · have hR : mayBe k p = ((look k p.name).isSome && decide (p.kids.length = (looks k p.name).2.2)) := by
        unfold mayBe looks
        rw [if_neg e3, if_pos e4]
        cases look k p.name with
        | none => rfl
        | some c => simp [BEq.beq]
      rw [hR]
      rw [e4] at c0
      have hW : ∃ W, W = w.alloc (Obj.cells #[.slice fa fl fc, .map (some b)] 58) ∧ Below w.heap.size w W ∧ W.heap.size = w.heap.size + 1 ∧ W.cell? ⟨w.heap.size, 1, none⟩ = some (.map (some b)) := ⟨_, rfl, (Below.refl _ _).alloc (Nat.le_refl _) _, by simp, heap_cell' (new_block' w _) rfl⟩
      obtain ⟨W, hW, hbW, hsW, d1⟩ := hW
      have HbW : Hid (Below w.heap.size w W) := hbW
      have a0 := (hbW.cell (p := ⟨g, o, none⟩) hg).trans c0
      have a1 := (hbW.cell (p := ⟨g, o + 1, none⟩) hg).trans c1
      have a3 := (hbW.cell (p := ⟨g, o + 3, none⟩) hg).trans c3
      have hMW : MapK W b k := hM.on (hbW.block b (Mv.lt hM))
      have hl1 : (Instr.lookup 56 (.map (some b)) (.string ⟨p.name.toArray⟩) true).run Try.prog W.drew = .ok (.tuple #[kV (looks k p.name), .bool (look k p.name).isSome]) W.drew := MapK.look (hMW.on (w' := W.drew) rfl) _ l1
      have hl2 : ∀ x, (Instr.lookup 56 (.map (some b)) (.string ⟨p.name.toArray⟩) true).run Try.prog ((W.alloc (Obj.cells x 79)).drew) = .ok (.tuple #[kV (looks k p.name), .bool (look k p.name).isSome]) ((W.alloc (Obj.cells x 79)).drew) := fun x => MapK.look ((hMW.on (w' := W.alloc (Obj.cells x 79)) (Below.heap_alloc _ _ _ (Mv.lt hMW))).on (w' := (W.alloc (Obj.cells x 79)).drew) rfl) _ l1
      unfold kV at hl1 hl2
      have hgW : g < W.heap.size := by omega
      generalize looks k p.name = c at *
      generalize (look k p.name).isSome = y at *
      generalize (⟨p.name.toArray⟩ : ByteArray) = nm at *
      generalize p.kids.length = n at *
      have hX : w.heap.size < W.heap.size := by omega
      have HsW : Hid (W.heap.size = w.heap.size + 1) := hsW
      clear hR c0 c1 c2 c3 hM hp hS hMW hbW l1 e3 e4 hsW
      go_enter Try.func59, Try.ntmps59
      go_upto_region 1 with fail
      rw [← hW]
      clear hW
      go_upto_region 5 with fail
      go_region
      all_goals
        have HB2 : Hid (Below w.heap.size w (W.alloc (Obj.cells #[.int .i64 c.1, .int .i64 c.2.1, .int .i64 c.2.2] 79))) := HbW.out.alloc (by omega) _
        clear hl1 hl2
        cases y with
        | false =>
          go_wp2
          go_region
          all_goals
            go_wp2
            go_ret
            exact ⟨rfl, HB2.out.drew.drew⟩
        | true =>
          by_cases hn : n = c.2.2
          · have hn' : ((n : Int) == (c.2.2 : Int)) = true := by simp [hn]
            go_wp2
            go_region
            all_goals
              go_wp2
              go_ret
              exact ⟨by rw [decide_eq_true hn]; rfl, HB2.out.drew.drew⟩
          · have hn' : ((n : Int) == (c.2.2 : Int)) = false := by simp; omega
            have HN : Hid (¬ n = c.2.2) := hn
            clear hn
            go_wp2
            go_region
            all_goals
              go_wp2
              go_ret
              exact ⟨by rw [decide_eq_false HN.out]; rfl, HB2.out.drew.drew⟩
    · have hR : mayBe k p = false := by unfold mayBe; rw [if_neg e3, if_neg e4]
      rw [hR]
      generalize p.kind = x at *
      clear hR c1 c2 c3 hM hp hS
      have e3' : (x == 3) = false := by simpa using e3
      have e4' : (x == 4) = false := by simpa using e4
      go_enter Try.func59, Try.ntmps59
      go_wp2
      go_ret
      exact ⟨rfl, (Below.refl _ _).alloc (Nat.le_refl _) _⟩
end Go.Proofs.Ytpdmkhnonbbhnaa
