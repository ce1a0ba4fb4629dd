/- Sets of names. -/
import Derived.Test.YtlpnegnpejpdkaaGreatDoorKa
import Derived.Maps.Own
import Derived.Maps.OwnOps
import Derived.Maps.OwnSet
import Derived.StringKeys
namespace Go.Proofs.YtlpnegnpejpdkaaGreatDoor
open Go.RowKit Go.Maps

def zeroK : Value := .agg #[]
theorem lawN : Keyed Tryz.prog 9 := string_keyed Tryz.underlying9
theorem keyN (n : List UInt8) (hn : n.length < 140737488355328) : keyOf Tryz.prog 9 (.string ⟨n.toArray⟩) = some (.string n) := by
  have := Go.WideMaps.keyOf_string_mk (P := Tryz.prog) Tryz.underlying9 (s := ⟨n.toArray⟩) (by show n.toArray.size ≤ maxLen; unfold maxLen; simp; omega)
  simpa using this
/-- How a value of a map is read: as it is. -/
def rawE (v : Value) : Option (DataW Value × List MemPlace) := some (.held v, [])
/-- Block b is a map of m names; s says what stands at each. -/
def Mv (w : World) (b m : Nat) (s : List UInt8 → Option Value) : Prop :=
  ∃ D : DataW Value, w.ownsMap Tryz.prog 9 rawE b m D ∧ Maps.size D = m ∧ ∀ x, Maps.has D (.string x) = (s x).isSome ∧ ∀ v z, s x = some v → D.atKey (.string x) z = .held v
theorem Mv.lt {w : World} {b m : Nat} {s : List UInt8 → Option Value} (h : Mv w b m s) : b < w.heap.size := by
  obtain ⟨D, h, _⟩ := h
  exact h.lt
theorem Mv.on {w w' : World} {b m : Nat} {s : List UInt8 → Option Value} (h : Mv w b m s) (hb : w'.heap[b]? = w.heap[b]?) : Mv w' b m s := by
  obtain ⟨D, ⟨es, clock, h1, h2⟩, h3⟩ := h
  exact ⟨D, ⟨es, clock, hb.trans h1, h2⟩, h3⟩
theorem Mv.below {w w' : World} {b m : Nat} {s : List UInt8 → Option Value} (h : Mv w b m s) (hb : Below w.heap.size w w') : Mv w' b m s := h.on (hb.block b h.lt)
theorem Mv.obj {w : World} {b m : Nat} {s : List UInt8 → Option Value} (h : Mv w b m s) : ∃ es clock, w.heap[b]? = some (.map es clock) := by
  obtain ⟨D, ⟨es, clock, h1, h2⟩, h3⟩ := h
  exact ⟨es, clock, h1⟩
theorem Mv.made (w : World) : Mv (w.alloc (.map #[] 0)) w.heap.size 0 (fun _ => none) :=
  ⟨_, World.ownsMap_made w Tryz.prog 9 rawE, rfl, fun x => ⟨rfl, fun v z h => by cases h⟩⟩
/-- A look into it. -/
theorem Mv.look {w : World} {b m : Nat} {s : List UInt8 → Option Value} (h : Mv w b m s) (x : List UInt8) (hx : x.length < 140737488355328) :
    (Instr.lookup 108 (.map (some b)) (.string ⟨x.toArray⟩) true).run Tryz.prog w = .ok (.tuple #[(s x).getD zeroK, .bool (s x).isSome]) w := by
  obtain ⟨D, hown, _, hs⟩ := h
  obtain ⟨u, ps, h1, h2⟩ := hown.look_ok (zd := .held zeroK) (zp := []) lawN Tryz.underlying108 (Tryz.zeroValue147 w) rfl (keyN x hx)
  obtain ⟨h3, h4⟩ := hs x
  rw [h1, h3]
  have hu : DataW.held u = D.atKey (.string x) (.held zeroK) := congrArg Prod.fst (Option.some.inj h2)
  cases hsx : s x with
  | none =>
    rw [hsx] at h3
    rw [Maps.atKey_of_not_has h3] at hu
    rw [DataW.held.inj hu]
    simp only [Option.getD_none]
  | some v =>
    rw [h4 v _ hsx] at hu
    rw [DataW.held.inj hu]
    simp only [Option.getD_some]
theorem Mv.len {w : World} {b m : Nat} {s : List UInt8 → Option Value} (h : Mv w b m s) (ty : TypeId) : (Builtin.len_ #[108] ty #[.map (some b)]).run Tryz.prog w = .ok (.int .i64 m) w := by
  obtain ⟨D, hown, hm, _⟩ := h
  rw [hown.len Tryz.underlying108 ty, hm]
/-- A new name. -/
theorem Mv.put {w : World} {b m : Nat} {s : List UInt8 → Option Value} (h : Mv w b m s) (x : List UInt8) (hx : x.length < 140737488355328) (hm : m < 100000) (hs : s x = none) (v : Value) :
    ∃ w', (Instr.mapUpdate 108 (.map (some b)) (.string ⟨x.toArray⟩) v).run Tryz.prog w = .ok () w' ∧ Mv w' b (m + 1) (fun y => if y = x then some v else s y) ∧ w.grownBy w' (some b) := by
  obtain ⟨D, hown, hsz, hS⟩ := h
  obtain ⟨w', h1, h2, h3⟩ := hown.update (d := .held v) (ps := []) lawN Tryz.underlying108 (by unfold maxLen; omega) (keyN x hx) rfl
  refine ⟨w', h1, ⟨_, h2, ?_, fun y => ?_⟩, h3⟩
  · rw [Maps.size_put (hown.tidy lawN), (hS x).1, hs, hsz]
    rfl
  · by_cases hy : y = x
    · subst hy
      have hk : WideAt.IsKeyLit (Lit.string y) := trivial
      simp only [if_true]
      exact ⟨by rw [Maps.has_put_same hown.isMap hk]; rfl, fun u z hu => by cases hu; exact Maps.atKey_put_same hown.isMap hk _ _⟩
    · have hne : Lit.string y ≠ Lit.string x := fun e => hy (by injection e)
      simp only [if_neg hy]
      rw [Maps.has_put_other hne]
      exact ⟨(hS y).1, fun u z hu => by rw [Maps.atKey_put_other hne]; exact (hS y).2 u z hu⟩
end Go.Proofs.YtlpnegnpejpdkaaGreatDoor
