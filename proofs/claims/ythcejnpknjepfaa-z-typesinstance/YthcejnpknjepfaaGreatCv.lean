/- Small facts on rows. -/
import Derived.Test.YthcejnpknjepfaaGreatCb
import Derived.Test.YthcejnpknjepfaaGreatMix
namespace Go.Proofs.YthcejnpknjepfaaGreat
open Go.RowKit

theorem add_zero_addr (g i : Nat) : (⟨g, 0, none⟩ : Addr).add i = ⟨g, i, none⟩ := by
  unfold Addr.add
  split
  · rename_i h0; rw [h0]
  · simp
theorem own_move {w w' : World} {lo e size n : Nat} {v : Value} {xs : List Value} (h : w.ownsRow lo e size v n xs) (hb : ∀ k, v.ownBlock = some k → w'.heap[k]? = w.heap[k]?) : w'.ownsRow lo e size v n xs := by
  obtain ⟨h1, h2⟩ := h
  refine ⟨h1, ?_⟩
  rcases h2 with h2 | ⟨g, cap, cur, hv, hg, hh, r⟩
  · exact .inl h2
  · refine .inr ⟨g, cap, cur, hv, hg, ?_, r⟩
    rw [hb g (by rw [hv]; rfl)]
    exact hh
theorem flats_take {d : Nat} : ∀ (ts : List (Tn d)) (j : Nat) (h : j < ts.length), (flats d (ts.take j)).length + (flat d ts[j]).length ≤ (flats d ts).length
  | [], _, h => by simp at h
  | t :: ts, 0, _ => by rw [flats_cons, List.length_append]; simp [flats_nil]
  | t :: ts, j + 1, h => by
    have hj : j < ts.length := by simpa using h
    have := flats_take ts j hj
    rw [List.take_succ_cons, flats_cons, flats_cons, List.length_append, List.length_append]
    show _ + (flat d ts[j]).length ≤ _
    omega
theorem take_next {α : Type} : ∀ (l : List α) (j : Nat) (h : j < l.length), l.take (j + 1) = l.take j ++ [l[j]]
  | [], _, h => by simp at h
  | a :: r, 0, _ => by simp
  | a :: r, j + 1, h => by
    have hj : j < r.length := by simpa using h
    rw [List.take_succ_cons, take_next r j hj]
    rfl
theorem below_grown {w w' : World} (h : Below w.heap.size w w') (row : Option Nat) : w.grownBy w' row := ⟨h.os, h.tape, h.output, h.size, fun k hk _ => h.block k hk⟩
theorem Tryz.infoB47 : (Tryz.prog.info? 47).map (fun i => (i.zero, i.size, i.bytes)) = some (some (.agg #[.string ⟨#[]⟩, .int .i64 0, .string ⟨#[]⟩, .slice none 0 0]), 4, 64) := by kernel_rfl
theorem grown_below {w w' : World} {B : Nat} {row : Option Nat} (h : w.grownBy w' row) (hB : B ≤ w.heap.size) (hr : ∀ g, row = some g → B ≤ g) : Below B w w' := ⟨h.os, h.tape, h.output, h.size, fun k hk => h.block k (by omega) fun e => by have := hr k e.symm; omega⟩
end Go.Proofs.YthcejnpknjepfaaGreat
