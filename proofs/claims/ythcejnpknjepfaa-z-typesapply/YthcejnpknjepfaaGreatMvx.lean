/- The reference's find: its contract. Small facts on rows. -/
import Derived.Test.YthcejnpknjepfaaGreatMdx
import Derived.Laws.IdiomStrings
import Derived.Test.YthcejnpknjepfaaGreatMix
namespace Go.Proofs.YthcejnpknjepfaaGreat
open Go.RowKit

/-- Where a name stands first in a row of names; the row's length if nowhere. -/
def idxN : List (List UInt8) → List UInt8 → Nat
  | [], _ => 0
  | a :: r, x => if a = x then 0 else idxN r x + 1
/-- What find answers: -1 if nowhere. -/
def findI (ns : List (List UInt8)) (x : List UInt8) : Int := if idxN ns x < ns.length then (idxN ns x : Int) else -1
theorem idxOf_at {ns : List (List UInt8)} {x : List UInt8} {j : Nat} (h : j < ns.length) (hx : ns[j] = x) (hb : ∀ i (hi : i < j), ns[i] ≠ x) : idxN ns x = j := by
  induction ns generalizing j with
  | nil => simp at h
  | cons a r ih =>
    cases j with
    | zero => simp at hx; simp [idxN, hx]
    | succ j =>
      have h0 : a ≠ x := by simpa using hb 0 (by omega)
      rw [idxN, if_neg h0, ih (by simpa using h) (by simpa using hx) fun i hi => by simpa using hb (i + 1) (by omega)]
theorem idxOf_no {ns : List (List UInt8)} {x : List UInt8} (hb : ∀ i (hi : i < ns.length), ns[i] ≠ x) : idxN ns x = ns.length := by
  induction ns with
  | nil => rfl
  | cons a r ih =>
    have h0 : a ≠ x := hb 0 (by simp)
    rw [idxN, if_neg h0, ih fun i hi => hb (i + 1) (by simpa using hi)]
    rfl
set_option maxHeartbeats 4000000 in
set_option maxRecDepth 10000 in
theorem find_some (ns : List (List UInt8)) (x : List UInt8) (g o cap : Nat) (w : World) (hcap : ns.length < 140737488355328) (hc : ∀ j (h : j < ns.length), w.cell? ⟨g, o + j * 4, none⟩ = some (.string ⟨ns[j].toArray⟩)) : Calls Tryz.prog 58 #[.slice (some ⟨g, o, none⟩) ns.length cap, strV x] w fun r w' => r = .returned (.int .i64 (findI ns x)) ∧ w' = w := by
  generalize hR : findI ns x = R
  have HR : Hid (findI ns x = R) := hR
  have HC : Hid (∀ j (h : j < ns.length), w.cell? ⟨g, o + j * 4, none⟩ = some (.string ⟨ns[j].toArray⟩)) := hc
  clear hR hc
  go_enter Tryz.func58, Tryz.ntmps58
  go_wp2
  go_loopw [5] (fun i wr => ∃ (j : Nat), j ≤ ns.length ∧ i = .int .i64 j ∧ Hid (wr = w) ∧ Hid (∀ i (h : i < j) (h' : i < ns.length), ns[i] ≠ x)) (fun i _ => ns.length - (intOf i).toNat)
  case atStart => exact ⟨0, by omega, by go_num, rfl, fun i h => by omega⟩
  case round =>
    obtain ⟨j, hj, rfl, HW, HJ⟩ := hrel
    by_cases hlt : j < ns.length
    · have i1 : (0 : Int) ≤ (j : Int) := by omega
      have i2 : (j : Int) < (ns.length : Int) := by omega
      have p0 := HC.out j hlt
      rw [← HW.out] at p0
      have hjl : j + 1 ≤ ns.length := hlt
      by_cases hx : ns[j] = x
      · have HE : Hid (R = (j : Int)) := by
          show R = _
          have := idxOf_at hlt hx fun i hi => HJ.out i hi (by omega)
          rw [← HR.out, findI, this, if_pos hlt]
        rw [hx] at p0
        clear hx
        have q : (x == x) = true := by simp
        go_wp2
        go_ret
        exact ⟨by rw [HE.out]; rfl, HW.out⟩
      · have q : (ns[j] == x) = false := by simpa using hx
        have HN : Hid (∀ i (h : i < j + 1) (h' : i < ns.length), ns[i] ≠ x) := fun i h h' => by
          rcases Nat.lt_or_ge i j with h1 | h1
          · exact HJ.out i h1 h'
          · have : i = j := by omega
            subst this
            exact hx
        generalize ns[j] = y at p0 q
        clear hx
        go_wp2
        go_roundw
        case rel => exact ⟨j + 1, hjl, by go_num, HW, HN⟩
        case measure => simp [intOf]; omega
    · have HE : Hid (R = -1) := by
        show R = _
        have := idxOf_no (ns := ns) (x := x) fun i hi => HJ.out i (by omega) hi
        rw [← HR.out, findI, this, if_neg (by omega)]
      go_wp2
      go_ret
      exact ⟨by rw [HE.out]; rfl, HW.out⟩
set_option maxHeartbeats 4000000 in
set_option maxRecDepth 10000 in
theorem find_none (x : List UInt8) (ad : Option Addr) (cap : Nat) (w : World) : Calls Tryz.prog 58 #[.slice ad 0 cap, strV x] w fun r w' => r = .returned (.int .i64 (-1)) ∧ w' = w := by
  go_enter Tryz.func58, Tryz.ntmps58
  go_wp2
  go_loopw [5] (fun i wr => i = .int .i64 0 ∧ Hid (wr = w)) (fun _ _ => 0)
  case atStart => exact ⟨rfl, rfl⟩
  case round =>
    obtain ⟨rfl, HW⟩ := hrel
    go_wp2
    go_ret
    exact ⟨rfl, HW.out⟩
end Go.Proofs.YthcejnpknjepfaaGreat

namespace Go.Proofs.YthcejnpknjepfaaGreat
open Go.RowKit

theorem add_zero_addr (g i : Nat) : (⟨g, 0, none⟩ : Addr).add i = ⟨g, i, none⟩ := by
  unfold Addr.add
  split
  · rename_i h0; rw [h0]
  · simp
theorem own_move {w w' : World} {lo e size n : Nat} {v : Value} {xs : List Value} (h : w.ownsRow lo e size v n xs) (hb : ∀ k, v.ownBlock = some k → w'.heap[k]? = w.heap[k]?) : w'.ownsRow lo e size v n xs := by
  obtain ⟨h1, h2⟩ := h
  refine ⟨h1, ?_⟩
  rcases h2 with h2 | ⟨g, cap, cur, hv, hg, hh, r⟩
  · exact .inl h2
  · refine .inr ⟨g, cap, cur, hv, hg, ?_, r⟩
    rw [hb g (by rw [hv]; rfl)]
    exact hh
theorem flats_take {d : Nat} : ∀ (ts : List (Tn d)) (j : Nat) (h : j < ts.length), (flats d (ts.take j)).length + (flat d ts[j]).length ≤ (flats d ts).length
  | [], _, h => by simp at h
  | t :: ts, 0, _ => by rw [flats_cons, List.length_append]; simp [flats_nil]
  | t :: ts, j + 1, h => by
    have hj : j < ts.length := by simpa using h
    have := flats_take ts j hj
    rw [List.take_succ_cons, flats_cons, flats_cons, List.length_append, List.length_append]
    show _ + (flat d ts[j]).length ≤ _
    omega
theorem take_next {α : Type} : ∀ (l : List α) (j : Nat) (h : j < l.length), l.take (j + 1) = l.take j ++ [l[j]]
  | [], _, h => by simp at h
  | a :: r, 0, _ => by simp
  | a :: r, j + 1, h => by
    have hj : j < r.length := by simpa using h
    rw [List.take_succ_cons, take_next r j hj]
    rfl
theorem below_grown {w w' : World} (h : Below w.heap.size w w') (row : Option Nat) : w.grownBy w' row := ⟨h.os, h.tape, h.output, h.size, fun k hk _ => h.block k hk⟩
theorem Tryz.infoB47 : (Tryz.prog.info? 47).map (fun i => (i.zero, i.size, i.bytes)) = some (some (.agg #[.string ⟨#[]⟩, .int .i64 0, .string ⟨#[]⟩, .slice none 0 0]), 4, 64) := by kernel_rfl
theorem grown_below {w w' : World} {B : Nat} {row : Option Nat} (h : w.grownBy w' row) (hB : B ≤ w.heap.size) (hr : ∀ g, row = some g → B ≤ g) : Below B w w' := ⟨h.os, h.tape, h.output, h.size, fun k hk => h.block k (by omega) fun e => by have := hr k e.symm; omega⟩
end Go.Proofs.YthcejnpknjepfaaGreat
