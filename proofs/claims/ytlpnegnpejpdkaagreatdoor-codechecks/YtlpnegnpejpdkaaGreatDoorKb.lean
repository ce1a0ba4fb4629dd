/- Tables in memory. -/
import Derived.Test.YtlpnegnpejpdkaaGreatDoorMax
import Derived.Test.YtlpnegnpejpdkaaGreatDoorKa
namespace Go.Proofs.YtlpnegnpejpdkaaGreatDoor
open Go.RowKit

/-- An instruction: three cells. -/
def EIns : Elt Ins where
  k := 3
  C _ _ cs x := cs = [.int .i64 x.1, .int .i64 x.2.1, .int .i64 x.2.2]
  len := by rintro _ _ _ _ rfl; rfl
  one := by
    rintro _ _ _ _ rfl u hu
    simp only [List.mem_cons, List.not_mem_nil, or_false] at hu
    rcases hu with rfl | rfl | rfl <;> rfl
  on := fun _ _ h => h
/-- A constructor: its name, its fields. -/
def EShp : Elt Shp where
  k := 2
  C _ _ cs x := cs = [.string ⟨x.1.toArray⟩, .int .i64 x.2] ∧ x.1.length < 140737488355328
  len := by rintro _ _ _ _ ⟨rfl, _⟩; rfl
  one := by
    rintro _ _ _ _ ⟨rfl, _⟩ u hu
    simp only [List.mem_cons, List.not_mem_nil, or_false] at hu
    rcases hu with rfl | rfl <;> rfl
  on := fun _ _ h => h
/-- A global: its name, its arity, its code. -/
def EGlb : Elt Glb where
  k := 3
  C w S cs x := ∃ cv, cs = [.string ⟨x.1.toArray⟩, .int .i64 x.2.1, cv] ∧ x.1.length < 140737488355328 ∧ x.2.2.length < 140737488355328 ∧ RowE EIns w S (fun _ => False) cv x.2.2
  len := by rintro _ _ _ _ ⟨_, rfl, _⟩; rfl
  one := by
    rintro _ _ _ _ ⟨cv, rfl, _, _, h⟩ u hu
    simp only [List.mem_cons, List.not_mem_nil, or_false] at hu
    obtain ⟨ad, cap, e⟩ := RowK.len h
    rcases hu with rfl | rfl | rfl
    · rfl
    · rfl
    · rw [e]; rfl
  on := fun hk hS ⟨cv, h1, h2, h3, h4⟩ => ⟨cv, h1, h2, h3, h4.on hk (fun _ h => h.elim) hS fun _ h => h⟩
/-- A table: two rows, whose blocks are of S. -/
structure TabV (w : World) (S : Nat → Prop) (sv gv : Value) (t : Tab) : Prop where
  shp : RowE EShp w S S sv t.1
  glb : RowE EGlb w S S gv t.2
  ls : t.1.length < 140737488355328
  lg : t.2.length < 140737488355328
theorem TabV.on {w w' : World} {S : Nat → Prop} {sv gv : Value} {t : Tab} (h : TabV w S sv gv t) (hk : Keeps S w w') : TabV w' S sv gv t := ⟨h.shp.on hk hk (fun _ h => h) fun _ h => h, h.glb.on hk hk (fun _ h => h) fun _ h => h, h.ls, h.lg⟩
/-- What stands at one of the globals. -/
theorem glb_at {w : World} {Z S : Nat → Prop} {v : Value} {l : List Glb} (h : RowE EGlb w Z S v l) : ∃ ad cap, v = .slice ad l.length cap ∧ ∀ i (hi : i < l.length), ∃ g o cv, ad = some ⟨g, o, none⟩ ∧ Z g ∧ l.length ≤ cap ∧ w.cell? ⟨g, o + i * 3, none⟩ = some (.string ⟨l[i].1.toArray⟩) ∧ w.cell? ⟨g, o + i * 3 + 1, none⟩ = some (.int .i64 l[i].2.1) ∧ w.cell? ⟨g, o + i * 3 + 2, none⟩ = some cv ∧ l[i].1.length < 140737488355328 ∧ l[i].2.2.length < 140737488355328 ∧ RowE EIns w S (fun _ => False) cv l[i].2.2 := by
  obtain ⟨ad, cap, rfl, h2⟩ := RowK.open h
  refine ⟨ad, cap, rfl, fun i hi => ?_⟩
  obtain ⟨g, o, rfl, hc, h3⟩ := h2 (fun e => by rw [e] at hi; simp at hi)
  obtain ⟨hZ, cs, ⟨cv, rfl, q1, q2, q3⟩, h4⟩ := h3 i hi
  exact ⟨g, o, cv, rfl, hZ, hc, h4 0 (by decide), h4 1 (by decide), h4 2 (by decide), q1, q2, q3⟩
theorem shp_at {w : World} {Z S : Nat → Prop} {v : Value} {l : List Shp} (h : RowE EShp w Z S v l) : ∃ ad cap, v = .slice ad l.length cap ∧ ∀ i (hi : i < l.length), ∃ g o, ad = some ⟨g, o, none⟩ ∧ Z g ∧ l.length ≤ cap ∧ w.cell? ⟨g, o + i * 2, none⟩ = some (.string ⟨l[i].1.toArray⟩) ∧ w.cell? ⟨g, o + i * 2 + 1, none⟩ = some (.int .i64 l[i].2) ∧ l[i].1.length < 140737488355328 := by
  obtain ⟨ad, cap, rfl, h2⟩ := RowK.open h
  refine ⟨ad, cap, rfl, fun i hi => ?_⟩
  obtain ⟨g, o, rfl, hc, h3⟩ := h2 (fun e => by rw [e] at hi; simp at hi)
  obtain ⟨hZ, cs, ⟨rfl, q1⟩, h4⟩ := h3 i hi
  exact ⟨g, o, rfl, hZ, hc, h4 0 (by decide), h4 1 (by decide), q1⟩
theorem ins_at {w : World} {Z S : Nat → Prop} {v : Value} {l : List Ins} (h : RowE EIns w Z S v l) : ∃ ad cap, v = .slice ad l.length cap ∧ ∀ i (hi : i < l.length), ∃ g o, ad = some ⟨g, o, none⟩ ∧ Z g ∧ l.length ≤ cap ∧ w.cell? ⟨g, o + i * 3, none⟩ = some (.int .i64 l[i].1) ∧ w.cell? ⟨g, o + i * 3 + 1, none⟩ = some (.int .i64 l[i].2.1) ∧ w.cell? ⟨g, o + i * 3 + 2, none⟩ = some (.int .i64 l[i].2.2) := by
  obtain ⟨ad, cap, rfl, h2⟩ := RowK.open h
  refine ⟨ad, cap, rfl, fun i hi => ?_⟩
  obtain ⟨g, o, rfl, hc, h3⟩ := h2 (fun e => by rw [e] at hi; simp at hi)
  obtain ⟨hZ, cs, rfl, h4⟩ := h3 i hi
  exact ⟨g, o, rfl, hZ, hc, h4 0 (by decide), h4 1 (by decide), h4 2 (by decide)⟩
end Go.Proofs.YtlpnegnpejpdkaaGreatDoor
