/- Rows of bounds in memory; sameBounds of rows that are the same. -/
import Derived.Test.YthcejnpknjepfaaGreatDoorMo
namespace Go.Proofs.YthcejnpknjepfaaGreatDoor
open Go.RowKit

/-- A bound: a name and a tree. -/
abbrev Bd := List UInt8 × Sigma Tn
/-- A row of bounds: what it says, by name and nodes. -/
def bdF (b : Bd) : List UInt8 × List Nd := (b.1, flat b.2.1 b.2.2)
/-- The slice v is a row of bounds; its block and the blocks that it leads to are below B. -/
def BdAt (w : World) (B : Nat) (v : Value) (bs : List Bd) : Prop :=
  ∃ ad cap, v = .slice ad bs.length cap ∧ bs.length < 140737488355328 ∧ (bs ≠ [] → ∃ g o, ad = some ⟨g, o, none⟩ ∧ bs.length ≤ cap ∧ g < B ∧
    ∀ j (h : j < bs.length), bs[j].1.length < 140737488355328 ∧ ∃ k n ad' len' cap', (∀ w', Below B w w' → w'.cell? ⟨g, o + j * 4, none⟩ = some (.string ⟨bs[j].1.toArray⟩) ∧ w'.cell? ⟨g, o + j * 4 + 1, none⟩ = some (.int .i64 k) ∧ w'.cell? ⟨g, o + j * 4 + 2, none⟩ = some (.string n) ∧ w'.cell? ⟨g, o + j * 4 + 3, none⟩ = some (.slice ad' len' cap')) ∧ TyAt w B bs[j].2.1 (.agg #[.int .i64 k, .string n, .slice ad' len' cap']) bs[j].2.2)
theorem BdAt.below {w w' : World} {B B' : Nat} {v : Value} {bs : List Bd} (h : BdAt w B v bs) (hb : Below B w w') (hB : B ≤ B') : BdAt w' B' v bs := by
  obtain ⟨ad, cap, hv, hl, h⟩ := h
  refine ⟨ad, cap, hv, hl, fun h0 => ?_⟩
  obtain ⟨g, o, had, hc, hg, h⟩ := h h0
  refine ⟨g, o, had, hc, by omega, fun j hj => ?_⟩
  obtain ⟨hn, k, n, ad', len', cap', hcel, hT⟩ := h j hj
  refine ⟨hn, k, n, ad', len', cap', fun w2 hb2 => hcel w2 (hb.trans (hb2.mono hB)), TyAt.below hb hB _ _ _ hT⟩
set_option maxHeartbeats 8000000 in
set_option maxRecDepth 10000 in
theorem sameBounds_true (v v' : Value) (al bs : List Bd) (w : World) (B : Nat) (hB : B ≤ w.heap.size) (h : BdAt w B v al) (h' : BdAt w B v' bs) (he : al.map bdF = bs.map bdF) :
    Calls Tryz.prog 24 #[v, v'] w fun r w' => r = .returned (.bool true) ∧ Below w.heap.size w w' := by
  have hl : al.length = bs.length := by have := congrArg List.length he; simpa using this
  have hp : ∀ j (h1 : j < al.length) (h2 : j < bs.length), al[j].1 = bs[j].1 ∧ flat al[j].2.1 al[j].2.2 = flat bs[j].2.1 bs[j].2.2 := fun j h1 h2 => by
    have e : (al.map bdF)[j]'(by simpa using h1) = (bs.map bdF)[j]'(by simpa using h2) := by simp only [he]
    simp only [List.getElem_map, bdF, Prod.mk.injEq] at e
    exact e
  have HP : Hid (∀ j (h1 : j < al.length) (h2 : j < bs.length), al[j].1 = bs[j].1 ∧ flat al[j].2.1 al[j].2.2 = flat bs[j].2.1 bs[j].2.2) := hp
  obtain ⟨ad, cap, rfl, hla, h⟩ := h
  obtain ⟨ad', cap', rfl, hlb, h'⟩ := h'
  rw [← hl]
  have HA : Hid _ := h
  have HA' : Hid _ := h'
  have HL : Hid (al.length = bs.length) := hl
  have HB : Hid (B ≤ w.heap.size) := hB
  clear h h' hl hp he hB
  go_enter Tryz.func24, Tryz.ntmps24
  go_wp2
  go_loopw [5] (fun i wr => ∃ j : Nat, j ≤ al.length ∧ i = .int .i64 j ∧ Below w.heap.size w wr) (fun i _ => al.length - (intOf i).toNat)
  case atStart => exact ⟨0, by omega, by go_num, Below.refl _ _⟩
  case round =>
    obtain ⟨j, hj, rfl, hbel⟩ := hrel
    by_cases hlt : j < al.length
    · have hlu : j < bs.length := by have := HL.out; omega
      obtain ⟨g, o, rfl, _, hg, hel⟩ := HA.out (by intro e; rw [e] at hlt; simp at hlt)
      obtain ⟨g', o', rfl, _, hg', hel'⟩ := HA'.out (by intro e; rw [e] at hlu; simp at hlu)
      obtain ⟨hn1, k1, n1, ad1, l1, cp1, hcel, T1⟩ := hel j hlt
      obtain ⟨hn2, k2, n2, ad2, l2, cp2, hcel', T2⟩ := hel' j hlu
      obtain ⟨E1, E2⟩ := HP.out j hlt hlu
      have hBw := HB.out
      have hwB := hbel.mono hBw
      obtain ⟨p0, p1, p2, p3⟩ := hcel wr hwB
      obtain ⟨q0, q1, q2, q3⟩ := hcel' wr hwB
      rw [← E1] at q0
      have CJ : ∀ W', Below B w W' → B ≤ W'.heap.size → Calls Tryz.prog 13 #[.agg #[.int .i64 k1, .string n1, .slice ad1 l1 cp1], .agg #[.int .i64 k2, .string n2, .slice ad2 l2 cp2]] W' fun r w' => r = .returned (.bool true) ∧ Below W'.heap.size W' w' := fun W' hb' hs' => by
        have := same_any _ _ _ _ _ _ W' B hs' (T1.on hb') (T2.on hb')
        rw [decide_eq_true E2] at this
        exact this
      generalize al[j].1 = nm at p0 q0 hn1
      have qn : (nm != nm) = false := by simp
      have i1 : (0 : Int) ≤ (j : Int) := by omega
      have i2 : (j : Int) < (al.length : Int) := by omega
      have hjl : j + 1 ≤ al.length := hlt
      have hwr : B ≤ wr.heap.size := by have := hbel.size; omega
      have hgr : g < wr.heap.size ∧ g' < wr.heap.size := by omega
      clear T1 T2 hcel hcel' hel hel' E1 E2 hn2
      go_wp2
      go_region_held3 (fun w' => (w'.cell? ⟨g, o + j * 4, none⟩ = some (.string ⟨nm.toArray⟩) ∧ w'.cell? ⟨g, o + j * 4 + 1, none⟩ = some (.int .i64 k1) ∧ w'.cell? ⟨g, o + j * 4 + 2, none⟩ = some (.string n1) ∧ w'.cell? ⟨g, o + j * 4 + 3, none⟩ = some (.slice ad1 l1 cp1)) ∧ w'.cell? ⟨g', o' + j * 4, none⟩ = some (.string ⟨nm.toArray⟩) ∧ w'.cell? ⟨g', o' + j * 4 + 1, none⟩ = some (.int .i64 k2) ∧ w'.cell? ⟨g', o' + j * 4 + 2, none⟩ = some (.string n2) ∧ w'.cell? ⟨g', o' + j * 4 + 3, none⟩ = some (.slice ad2 l2 cp2)) (first | exact ⟨⟨p0, p1, p2, p3⟩, q0, q1, q2, q3⟩ | assumption | (have hk : ∀ p : Addr, p.block < wr.heap.size → w1.cell? p = wr.cell? p := fun p hp => hb1.cell hp; exact ⟨⟨(hk _ (by simp; omega)).trans p0, (hk _ (by simp; omega)).trans p1, (hk _ (by simp; omega)).trans p2, (hk _ (by simp; omega)).trans p3⟩, (hk _ (by simp; omega)).trans q0, (hk _ (by simp; omega)).trans q1, (hk _ (by simp; omega)).trans q2, (hk _ (by simp; omega)).trans q3⟩) | go_keep)
        (first | (go_at_call 13; (with_reducible refine Calls.mono (CJ _ ?_ ?_) ?_); exact hwB.drew; (show B ≤ wr.heap.size; omega); rintro e' w1 ⟨rfl, hb1⟩))
      all_goals
        have a0 := (hb1.cell (p := ⟨g, o + j * 4, none⟩) hgr.1).trans p0
        have c0 := (hb1.cell (p := ⟨g', o' + j * 4, none⟩) hgr.2).trans q0
        have hb2 : Below w.heap.size w w1 := hbel.drew.trans (hb1.mono (by have := hbel.size; show w.heap.size ≤ wr.heap.size; omega))
        clear hb1 CJ p0 p1 p2 p3 q0 q1 q2 q3
        go_wp2
        go_region
        go_wp2
        go_roundw
        case rel => exact ⟨j + 1, hjl, by go_num, hb2.drew⟩
        case measure => simp [intOf]; omega
    · clear hj
      go_wp2
      go_ret
      exact ⟨rfl, hbel⟩
end Go.Proofs.YthcejnpknjepfaaGreatDoor
