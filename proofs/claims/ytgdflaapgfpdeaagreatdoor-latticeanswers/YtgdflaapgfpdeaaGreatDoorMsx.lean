/- owned answers true of rows that are their owner's. TypesRead answers true, whatever texts it is handed, if Read and awake answer as the document says and what Read answers is its owner's. -/
import Derived.Test.YtgdflaapgfpdeaaGreatDoorMrx
import Derived.Deep.RegionHeldLaw
import Derived.Deep.Cut
import Derived.Lib.SlBuf
import Derived.Deep.QuietTactic
import Derived.BigQuiet
import Derived.Test.YtgdflaapgfpdeaaGreatDoorGb
import Derived.Deep.Onto
import Derived.Test.YtgdflaapgfpdeaaGreatDoorMjx
namespace Go.Proofs.YtgdflaapgfpdeaaGreatDoor
open Go.RowKit

theorem Tryz.info22 : (Tryz.prog.info? 22).map (fun i => (i.zero, i.size, i.bytes)) = some (some (.slice none 0 0), 1, 24) := by kernel_rfl
end Go.Proofs.YtgdflaapgfpdeaaGreatDoor

namespace Go.Proofs.YtgdflaapgfpdeaaGreatDoor
open Go.RowKit

/-- A tree that was read and lies in a box: where the box is, from which world on, and what it is. -/
structure Bx (U : World) (b : Nat) (k : Int) (n : ByteArray) (ad : Option Addr) (len cap : Nat) (d : Nat) (t : Tn d) : Prop where
  lt : b < U.heap.size
  c0 : U.cell? ⟨b, 0, none⟩ = some (.int .i64 k)
  c1 : U.cell? ⟨b, 1, none⟩ = some (.string n)
  c2 : U.cell? ⟨b, 2, none⟩ = some (.slice ad len cap)
  tree : TyAt U U.heap.size d (.agg #[.int .i64 k, .string n, .slice ad len cap]) t
theorem Bx.on {U U' : World} {b : Nat} {k : Int} {n : ByteArray} {ad : Option Addr} {len cap d : Nat} {t : Tn d} (h : Bx U b k n ad len cap d t) (hb : Below U.heap.size U U') : Bx U' b k n ad len cap d t :=
  ⟨Nat.lt_of_lt_of_le h.lt hb.size, (hb.cell (p := ⟨b, 0, none⟩) h.lt).trans h.c0, (hb.cell (p := ⟨b, 1, none⟩) h.lt).trans h.c1, (hb.cell (p := ⟨b, 2, none⟩) h.lt).trans h.c2, TyAt.below hb hb.size _ _ _ h.tree⟩
theorem Bx.new {w : World} {k : Int} {n : ByteArray} {ad : Option Addr} {len cap d : Nat} {t : Tn d} (h : TyAt w w.heap.size d (.agg #[.int .i64 k, .string n, .slice ad len cap]) t) : ∃ U, U = w.alloc (Obj.cells #[.int .i64 k, .string n, .slice ad len cap] 24) ∧ Below w.heap.size w U ∧ Bx U w.heap.size k n ad len cap d t := by
  obtain ⟨U, hU, hb, hs, u0, u1, u2⟩ := cells_box w (.int .i64 k) (.string n) (.slice ad len cap) 24
  exact ⟨U, hU, hb, by omega, u0, u1, u2, TyAt.below hb hb.size _ _ _ h⟩
end Go.Proofs.YtgdflaapgfpdeaaGreatDoor
