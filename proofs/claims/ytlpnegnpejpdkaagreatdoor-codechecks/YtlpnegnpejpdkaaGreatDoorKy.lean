/- Bytes: what it answers of any table. -/
import Derived.Test.YtlpnegnpejpdkaaGreatDoorMhx
import Derived.Test.YtlpnegnpejpdkaaGreatDoorKp
namespace Go.Proofs.YtlpnegnpejpdkaaGreatDoor
open Go.RowKit

theorem owns_below {w : World} {B B' e k : Nat} {v : Value} {n : Nat} {xs : List Value} (h : w.ownsRow B e k v n xs) (hB : B' ≤ B) : w.ownsRow B' e k v n xs := by
  obtain ⟨h2, h3⟩ := h
  refine ⟨h2, ?_⟩
  rcases h3 with h3 | ⟨g, cap, cur, rfl, h4, h5⟩
  · exact .inl h3
  · exact .inr ⟨g, cap, cur, rfl, Nat.le_trans hB h4, h5⟩
/-- What Bytes answers. -/
def BytP (t : Tab) (w : World) (r : Ending) (w' : World) : Prop := Hid (Below w.heap.size w w') ∧
  (checkP t ≠ 0 → r = .returned (.tuple #[.slice none 0 0, .int .i64 (checkP t)])) ∧
  (checkP t = 0 → 8388608 < (bytesW t).length → r = .returned (.tuple #[.slice none 0 0, .int .i64 4])) ∧
  (checkP t = 0 → ¬ 8388608 < (bytesW t).length → ∃ v, r = .returned (.tuple #[v, .int .i64 0]) ∧ Hid (OwnN EByt 5 w.heap.size (fun _ => False) w' v (bytesW t)))
set_option maxHeartbeats 16000000 in
set_option maxRecDepth 10000 in
theorem bytes_any {w : World} {sv gv : Value} {t : Tab} (h : CkIn w sv gv t) : Calls Tryz.prog 22 #[.agg #[sv, gv]] w fun r w' => BytP t w r w' := by
  obtain ⟨sa, scap, rfl⟩ := RowK.len h.tab.shp
  obtain ⟨bd, bcap, rfl⟩ := RowK.len h.tab.glb
  obtain ⟨X, hX⟩ : ∃ X, X = w.heap.size := ⟨_, rfl⟩
  obtain ⟨W, hW⟩ : ∃ W, W = w.alloc (.cells #[.slice sa t.1.length scap, .slice bd t.2.length bcap] 25) := ⟨_, rfl⟩
  have hBW : Below w.heap.size w W := by rw [hW]; exact (Below.refl _ _).alloc (Nat.le_refl _) _
  have hXW : W.heap[X]? = some (.cells #[.slice sa t.1.length scap, .slice bd t.2.length bcap] 25 (0, 0)) := by rw [hW, hX]; exact new_blk _ _
  have HALL : Hid (∀ w2 : World, Below W.heap.size W w2 → w2.cell? ⟨X, 0, none⟩ = some (.slice sa t.1.length scap) ∧ w2.cell? ⟨X, 1, none⟩ = some (.slice bd t.2.length bcap) ∧ Below w.heap.size w w2 ∧ CkIn w2 (.slice sa t.1.length scap) (.slice bd t.2.length bcap) t) := fun w2 hb => by
    have hb2 := hBW.trans (hb.mono hBW.size)
    exact ⟨heap_cl ((hb.block X (lt_heap hXW)).trans hXW) rfl, heap_cl ((hb.block X (lt_heap hXW)).trans hXW) rfl, hb2, h.below hb2⟩
  obtain ⟨z0, z1, _, z2⟩ := HALL.out W (Below.refl _ _)
  have CC := check_any z2
  have HXE : Hid (X = w.heap.size) := hX
  have HSM : Hid (Small t) := h.small
  obtain ⟨L, hL⟩ : ∃ L, L = bytesW t := ⟨_, rfl⟩
  have HLE : Hid (L = bytesW t) := hL
  have HP : Hid (∀ r w', Below w.heap.size w w' → ((checkP t ≠ 0 → r = .returned (.tuple #[.slice none 0 0, .int .i64 (checkP t)])) ∧ (checkP t = 0 → 8388608 < L.length → r = .returned (.tuple #[.slice none 0 0, .int .i64 4])) ∧ (checkP t = 0 → ¬ 8388608 < L.length → ∃ v, r = .returned (.tuple #[v, .int .i64 0]) ∧ Hid (OwnN EByt 5 w.heap.size (fun _ => False) w' v L))) → BytP t w r w') := fun r w' hb hh => by
    rw [hL] at hh
    exact ⟨hb, hh⟩
  have HWW : Hid (W.heap.size = X + 1) := by rw [hW, hX]; exact World.size_alloc _ _
  clear hX hXW hBW z2 hL h
  go_enter Tryz.func22, Tryz.ntmps22
  go_upto_region 1 with fail
  rw [← hW, ← HXE.out]
  clear hW
  go_upto_region 2 with (go_at_call 11; (with_reducible refine Calls.mono CC ?_); rintro e1 w1 ⟨rfl, HB1⟩)
  obtain ⟨y0, y1, hbw, hck⟩ := HALL.out w1 HB1.out
  have HBW1 : Hid (Below w.heap.size w w1) := hbw
  have HCK : Hid (CkIn w1 (.slice sa t.1.length scap) (.slice bd t.2.length bcap) t) := hck
  clear hck hbw CC z0 z1
  by_cases h0 : checkP t = 0
  · have HOK : Hid (TabOk t) := (fine_of h0).ok HSM.out
    rw [h0] at HP ⊢
    obtain ⟨P, hPe⟩ : ∃ P, P = w1.heap.size := ⟨_, rfl⟩
    obtain ⟨W2, hW2⟩ : ∃ W2, W2 = w1.alloc (.cells #[.slice none 0 0] 97) := ⟨_, rfl⟩
    have hb2 : Below w1.heap.size w1 W2 := by rw [hW2]; exact (Below.refl _ _).alloc (Nat.le_refl _) _
    have hPW : W2.heap[P]? = some (.cells #[.slice none 0 0] 97 (0, 0)) := by rw [hW2, hPe]; exact new_blk _ _
    have hBWr : BW W2 P [] := ⟨_, hPW, OwnN.nil _ _ _ _ _⟩
    obtain ⟨rd, rcap, hR⟩ := HCK.out.rows
    have h1P : 1 < P := by rw [hPe]; exact World.block_lt_of_cell? w1 _ hR.cell
    have hgP : ∀ g o, rd = some ⟨g, o, none⟩ → g < P := fun g o e => by
      obtain ⟨g', o', e', _, hg, _⟩ := hR.row 0 (by decide)
      rw [e] at e'
      obtain ⟨rfl, -⟩ : g = g' ∧ o = o' := by simpa using e'
      rw [hPe]; exact hg
    have hK : Keeps (fun y => y < P) w1 W2 := Keeps.of hb2 fun b hb => by rw [hPe] at hb; exact hb
    have hTV : TabV W2 (fun y => y < P) (.slice sa t.1.length scap) (.slice bd t.2.length bcap) t := by
      have := HCK.out.tab
      rw [← hPe] at this
      exact this.on hK
    have CT := wtab_any (hR.below hb2) hBWr h1P hgP hTV HOK.out
    rw [← HLE.out] at CT
    have HB2 : Hid (Below w1.heap.size w1 W2) := hb2
    obtain ⟨x0, x1, _, _⟩ := HALL.out W2 (HB1.out.trans (hb2.mono HB1.out.size))
    have HPE : Hid (P = w1.heap.size) := hPe
    clear hPe hPW hBWr hK hTV hb2 hR h1P hgP HALL
    go_upto_region 5 with fail
    rw [← hW2, ← HPE.out]
    clear hW2
    go_upto_region 6 with (go_at_call 58; (with_reducible refine Calls.mono CT ?_); rintro e3 w3 ⟨rfl, H3⟩)
    obtain ⟨v, hPv, hO⟩ := H3.out.1
    have p0 : w3.cell? ⟨P, 0, none⟩ = some v := heap_cl hPv rfl
    obtain ⟨ad, cap, rfl⟩ := hO.len
    have HWP : Hid (w.heap.size ≤ P) := by rw [HPE.out]; exact HBW1.out.size
    have HEN : Hid (Below w.heap.size w w3 ∧ OwnN EByt 5 w.heap.size (fun _ => False) w3 (.slice ad L.length cap) L) := by
      refine ⟨(HBW1.out.trans (HB2.out.mono HBW1.out.size)).trans (H3.out.2.1.mono HWP.out), ?_⟩
      exact bytes_own (owns_below (own_bytes hO) (Nat.le_trans HWP.out (Nat.le_succ P)))
    clear hO hPv H3 CT
    by_cases hb : 8388608 < L.length
    · have e6 : ((L.length : Int) > 8388608) := by omega
      go_wp2
      go_ret2
      exact HP.out _ _ HEN.out.1 ⟨fun h => absurd rfl h, fun _ _ => rfl, fun _ h => absurd hb h⟩
    · have e6 : ¬ ((L.length : Int) > 8388608) := by omega
      go_wp2
      go_ret2
      exact HP.out _ _ HEN.out.1 ⟨fun h => absurd rfl h, fun _ h => absurd h hb, fun _ _ => ⟨_, rfl, HEN.out.2⟩⟩
  · have e0 : (checkP t != 0) = true := by simpa using h0
    go_wp2
    go_ret2
    exact HP.out _ _ HBW1.out ⟨fun _ => rfl, fun h => absurd h h0, fun h => absurd h h0⟩
end Go.Proofs.YtlpnegnpejpdkaaGreatDoor
