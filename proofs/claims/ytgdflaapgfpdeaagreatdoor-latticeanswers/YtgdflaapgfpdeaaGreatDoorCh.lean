/- TypesCanon answers true, whatever types it is handed, if Canon, Print and awake answer as the document says and what Canon answers is its owner's. -/
import Derived.Test.YtgdflaapgfpdeaaGreatDoorMox
import Derived.Test.YtgdflaapgfpdeaaGreatDoorKe
import Derived.Test.YtgdflaapgfpdeaaGreatDoorMsx
namespace Go.Proofs.YtgdflaapgfpdeaaGreatDoor
open Go.RowKit

/-- The nodes of what Canon answers. -/
def canonF (d : Nat) (t : Tn d) : List Nd := if wrongT d t ≠ 0 then [(0, [], 0)] else flat d (canonT d t)
theorem CanonPost.rel {w w' : World} {d : Nat} {t : Tn d} {r : Ending} (h : CanonPost w d t r w') : Below w.heap.size w w' ∧ ∃ (k : Int) (n : ByteArray) (ad : Option Addr) (len cap : Nat) (d' : Nat) (t' : Tn d'), r = .returned (.tuple #[.agg #[.int .i64 k, .string n, .slice ad len cap], .int .i64 (wrongT d t)]) ∧ TyAt w' w'.heap.size d' (.agg #[.int .i64 k, .string n, .slice ad len cap]) t' ∧ flat d' t' = canonF d t := by
  obtain ⟨hb, k, n, ad, len, cap, hr, h⟩ := h
  refine ⟨hb, k, n, ad, len, cap, ?_⟩
  rcases h with ⟨he, rfl, rfl, rfl, rfl, rfl⟩ | ⟨he, hT⟩
  · exact ⟨1, ((0, []), []), hr, zero_at _ _ _ _, by rw [canonF, if_pos he, flat_succ, flats_nil]; rfl⟩
  · exact ⟨d, canonT d t, hr, TyS.at (fun _ q => q.2) _ _ _ hT, by rw [canonF, if_neg (by simpa using he)]⟩
/-- What a Canon answers whose answers are their owner's. -/
def CanonPostO (w : World) (d : Nat) (t : Tn d) (r : Ending) (w' : World) : Prop :=
  Below w.heap.size w w' ∧ ∃ (k : Int) (n : ByteArray) (ad : Option Addr) (len cap : Nat) (d' : Nat) (t' : Tn d') (rws : List (Value × Nat)), r = .returned (.tuple #[.agg #[.int .i64 k, .string n, .slice ad len cap], .int .i64 (wrongT d t)]) ∧
    TyO w' w.heap.size d' (.agg #[.int .i64 k, .string n, .slice ad len cap]) t' rws ∧ Sep w'.heap.size rws ∧ rws.length ≤ 500 ∧ (∀ p ∈ rws, p.2 ≤ 6) ∧ flat d' t' = canonF d t
/-- A function that makes canonical as the document says. -/
def CanonsO (f : Nat) : Prop := ∀ (d : Nat) (x : Value) (t : Tn d) (w : World) (B : Nat), B ≤ w.heap.size → TyAt w B d x t → (flat d t).length ≤ 4194304 → Calls Tryz.prog f #[x] w (CanonPostO w d t)
/-- An owned tree in a box. -/
structure Bo (U : World) (lo hi b : Nat) (k : Int) (n : ByteArray) (ad : Option Addr) (len cap d : Nat) (t : Tn d) (rws : List (Value × Nat)) : Prop where
  box : Bx U b k n ad len cap d t
  own : TyO U lo d (.agg #[.int .i64 k, .string n, .slice ad len cap]) t rws
  sep : SepB lo hi rws
  hi : hi ≤ U.heap.size
  num : rws.length ≤ 500
  six : ∀ p ∈ rws, p.2 ≤ 6
theorem Bo.on {U U' : World} {lo hi b : Nat} {k : Int} {n : ByteArray} {ad : Option Addr} {len cap d : Nat} {t : Tn d} {rws : List (Value × Nat)} (h : Bo U lo hi b k n ad len cap d t rws) (hb : Below U.heap.size U U') : Bo U' lo hi b k n ad len cap d t rws :=
  ⟨h.box.on hb, TyO.on (w' := U') _ _ _ _ (fun p hp g hg => hb.block g (h.sep.lt h.hi p hp g hg)) h.own, h.sep, Nat.le_trans h.hi hb.size, h.num, h.six⟩
theorem Bo.new {w : World} {lo : Nat} {k : Int} {n : ByteArray} {ad : Option Addr} {len cap d : Nat} {t : Tn d} {rws : List (Value × Nat)} (O : TyO w lo d (.agg #[.int .i64 k, .string n, .slice ad len cap]) t rws) (S : Sep w.heap.size rws) (N : rws.length ≤ 500) (M : ∀ p ∈ rws, p.2 ≤ 6) : ∃ U, U = w.alloc (Obj.cells #[.int .i64 k, .string n, .slice ad len cap] 24) ∧ Below w.heap.size w U ∧ Bo U lo w.heap.size w.heap.size k n ad len cap d t rws := by
  have hlt : ∀ p ∈ rws, ∀ g, p.1.ownBlock = some g → g < w.heap.size := fun p hp g hg => by obtain ⟨g', e1, e2⟩ := S.1 p hp; rw [e1] at hg; exact Option.some.inj hg ▸ e2
  obtain ⟨U, hU, hb, X⟩ := Bx.new (TyO.at _ _ _ _ hlt O)
  exact ⟨U, hU, hb, X, TyO.on (w' := U) _ _ _ _ (fun p hp g hg => hb.block g (hlt p hp g hg)) O, SepB.of O S, hb.size, N, M⟩
/-- A lent tree in a box. -/
structure Bl (U : World) (b : Nat) (k : Int) (n : ByteArray) (ad : Option Addr) (len cap d : Nat) (t : Tn d) : Prop where
  box : Bx U b k n ad len cap d t
  tl : TyL U (fun g => g < U.heap.size) d (.agg #[.int .i64 k, .string n, .slice ad len cap]) t
theorem Bl.on {U U' : World} {b : Nat} {k : Int} {n : ByteArray} {ad : Option Addr} {len cap d : Nat} {t : Tn d} (h : Bl U b k n ad len cap d t) (hb : Below U.heap.size U U') : Bl U' b k n ad len cap d t :=
  ⟨h.box.on hb, TyL.on (fun _ q => Nat.lt_of_lt_of_le q hb.size) (fun g q => hb.block g q) _ _ _ h.tl⟩
theorem Bl.new {w : World} {lo : Nat} {k : Int} {n : ByteArray} {ad : Option Addr} {len cap d : Nat} {t : Tn d} (h : TyL w (fun g => lo ≤ g ∧ g < w.heap.size) d (.agg #[.int .i64 k, .string n, .slice ad len cap]) t) : ∃ U, U = w.alloc (Obj.cells #[.int .i64 k, .string n, .slice ad len cap] 24) ∧ Below w.heap.size w U ∧ Bl U w.heap.size k n ad len cap d t := by
  obtain ⟨U, hU, hb, X⟩ := Bx.new (TyL.at (fun _ q => q.2) _ _ _ h)
  exact ⟨U, hU, hb, X, TyL.on (fun _ q => Nat.lt_of_lt_of_le q.2 hb.size) (fun g q => hb.block g q.2) _ _ _ h⟩
end Go.Proofs.YtgdflaapgfpdeaaGreatDoor
