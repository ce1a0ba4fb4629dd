/- What is handed in: rows of bounds. -/
import Derived.Test.YtikpipenhamdbaaGreatOq
import Derived.Test.YtikpipenhamdbaaGreatMadx
import Derived.Test.YtikpipenhamdbaaGreatMamx
namespace Go.Proofs.YtikpipenhamdbaaGreat
open Go.ChangeShapes Go.WideShapes Go.RowKit

set_option maxRecDepth 100000
theorem list2 {α : Type} {l : List α} (h : l.length = 2) : ∃ a b, l = [a, b] := by
 match l, h with
 | [a, b], _ => exact ⟨a, b, rfl⟩
theorem TyAt.form3 {w : World} {B d : Nat} {a b c : Value} {t : Tn d} (h : TyAt w B d (.agg #[a, b, c]) t) : ∃ ad len cap, c = .slice ad len cap := by
 obtain ⟨k, n, ad, len, cap, e⟩ := tree_form h
 simp only [Value.agg.injEq, Array.mk.injEq, List.cons.injEq, and_true] at e
 exact ⟨ad, len, cap, e.2.2⟩
end Go.Proofs.YtikpipenhamdbaaGreat
