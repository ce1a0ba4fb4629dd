/- TypesRead answers true, whatever texts it is handed, if Read and awake answer as the document says and what Read answers is its owner's. -/
import Derived.Test.YthcejnpknjepfaaGreatDoorSl
import Derived.Test.YthcejnpknjepfaaGreatDoorSq
import Derived.Deep.Onto
import Derived.Test.YthcejnpknjepfaaGreatDoorMo
namespace Go.Proofs.YthcejnpknjepfaaGreatDoor
open Go.RowKit

set_option maxHeartbeats 4000000 in
set_option maxRecDepth 10000 in
theorem owned_zero (w : World) (lo : Nat) (ad : Option Addr) (cap : Nat) : Calls Tryz.prog 15 #[.slice ad 0 cap] w fun e w' => e = .returned (.bool true) ∧ Below lo w w' := by
  go_enter Tryz.func15, Tryz.ntmps15
  go_wp2
  refine wp_loop_rounds 1 ?_
  rw [rounds_succ]
  go_wp2
  refine wp_loop_rounds 1 ?_
  rw [rounds_succ]
  go_wp2
  refine wp_loop_rounds 1 ?_
  rw [rounds_succ]
  go_wp2
  go_ret
  exact ⟨rfl, Below.refl _ _⟩
/-- owned of a list of rows. -/
theorem owned_rows (w : World) (lo B : Nat) (gv : Value) (rws : List (Value × Nat)) (hlw : lo ≤ w.heap.size) (hrow : w.ownsRow B 22 1 gv rws.length (rws.map (·.1))) (hn : rws.length ≤ 100000) (heach : ∀ p ∈ rws, ∃ xs, w.ownsRow lo 24 3 p.1 p.2 xs) (h6 : ∀ p ∈ rws, p.2 ≤ 20000) (hsep : Sep B rws) :
    Calls Tryz.prog 15 #[gv] w fun e w' => e = .returned (.bool true) ∧ Below lo w w' := by
  by_cases h0 : rws.length = 0
  · obtain ⟨ad, cap, rfl⟩ : ∃ ad cap, gv = .slice ad 0 cap := by
      rcases hrow.2 with ⟨e1, _⟩ | ⟨g, cap, _, e1, _⟩
      · exact ⟨none, 0, e1⟩
      · exact ⟨_, cap, by rw [e1, h0]⟩
    exact owned_zero w lo ad cap
  · obtain ⟨R, cap, rfl, hRB, hRl⟩ := hrow.form (by omega)
    have hcap : rws.length ≤ cap := by
      rcases hrow.2 with ⟨_, h'⟩ | ⟨g', cap', cur, h', _, _, hc, _⟩
      · omega
      · simp only [Value.slice.injEq, Option.some.injEq, Addr.mk.injEq, and_true, true_and] at h'
        omega
    have hget : ∀ i (h : i < rws.length), (rws[i]?.map (·.1)).getD undef = rws[i].1 := fun i h => by rw [List.getElem?_eq_getElem h]; rfl
    have hget2 : ∀ i (h : i < rws.length), (rws[i]?.map (·.2)).getD 0 = rws[i].2 := fun i h => by rw [List.getElem?_eq_getElem h]; rfl
    refine owned_any w R lo rws.length cap (fun i => (rws[i]?.map (·.1)).getD undef) (fun i => (rws[i]?.map (·.2)).getD 0) hlw hRl (by omega) hn hcap ?_ ?_ ?_ ?_ ?_
    · intro i hi
      show _ = some ((rws[i]?.map (·.1)).getD undef)
      rw [hget i hi, hrow.cellAt i (by omega)]
      simp [hi]
    · intro i hi
      show ∃ xs, w.ownsRow lo 24 3 ((rws[i]?.map (·.1)).getD undef) ((rws[i]?.map (·.2)).getD 0) xs
      rw [hget i hi, hget2 i hi]
      exact heach _ (List.getElem_mem hi)
    · intro i hi
      show (rws[i]?.map (·.2)).getD 0 ≤ 20000
      rw [hget2 i hi]
      exact h6 _ (List.getElem_mem hi)
    · intro i j g hi hj e1 e2
      have e1 : ((rws[i]?.map (·.1)).getD undef).ownBlock = some g := e1
      have e2 : ((rws[j]?.map (·.1)).getD undef).ownBlock = some g := e2
      rw [hget i hi] at e1
      rw [hget j hj] at e2
      have hnd := hsep.2
      have := (List.getElem_inj (i := i) (j := j) (h₀ := by simpa using hi) (h₁ := by simpa using hj) hnd).1 (by simp [e1, e2])
      exact this
    · intro i hi
      show ((rws[i]?.map (·.1)).getD undef).ownBlock ≠ some R
      rw [hget i hi]
      intro e
      obtain ⟨g, e1, hg⟩ := hsep.1 _ (List.getElem_mem hi)
      rw [e1] at e
      have := Option.some.inj e
      omega
/-- A tree that was read and lies in a box: where the box is, from which world on, and what it is. -/
structure Bx (U : World) (b : Nat) (k : Int) (n : ByteArray) (ad : Option Addr) (len cap : Nat) (d : Nat) (t : Tn d) : Prop where
  lt : b < U.heap.size
  c0 : U.cell? ⟨b, 0, none⟩ = some (.int .i64 k)
  c1 : U.cell? ⟨b, 1, none⟩ = some (.string n)
  c2 : U.cell? ⟨b, 2, none⟩ = some (.slice ad len cap)
  tree : TyAt U U.heap.size d (.agg #[.int .i64 k, .string n, .slice ad len cap]) t
theorem Bx.on {U U' : World} {b : Nat} {k : Int} {n : ByteArray} {ad : Option Addr} {len cap d : Nat} {t : Tn d} (h : Bx U b k n ad len cap d t) (hb : Below U.heap.size U U') : Bx U' b k n ad len cap d t :=
  ⟨Nat.lt_of_lt_of_le h.lt hb.size, (hb.cell (p := ⟨b, 0, none⟩) h.lt).trans h.c0, (hb.cell (p := ⟨b, 1, none⟩) h.lt).trans h.c1, (hb.cell (p := ⟨b, 2, none⟩) h.lt).trans h.c2, TyAt.below hb hb.size _ _ _ h.tree⟩
theorem Bx.new {w : World} {k : Int} {n : ByteArray} {ad : Option Addr} {len cap d : Nat} {t : Tn d} (h : TyAt w w.heap.size d (.agg #[.int .i64 k, .string n, .slice ad len cap]) t) : ∃ U, U = w.alloc (Obj.cells #[.int .i64 k, .string n, .slice ad len cap] 24) ∧ Below w.heap.size w U ∧ Bx U w.heap.size k n ad len cap d t := by
  obtain ⟨U, hU, hb, hs, u0, u1, u2⟩ := cells_box w (.int .i64 k) (.string n) (.slice ad len cap) 24
  exact ⟨U, hU, hb, by omega, u0, u1, u2, TyAt.below hb hb.size _ _ _ h⟩
end Go.Proofs.YthcejnpknjepfaaGreatDoor
