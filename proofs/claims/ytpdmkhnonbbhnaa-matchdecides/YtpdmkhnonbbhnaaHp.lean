/- Patterns in memory: the cells of a pattern, a row of them. -/
import Derived.Test.YtpdmkhnonbbhnaaPn
import Derived.Test.YtpdmkhnonbbhnaaProg
import Derived.Below
namespace Go.Proofs.Ytpdmkhnonbbhnaa
open Go.RowKit

/-- The slice v is a row of things of k cells, of each of which Q says what it is. -/
def RowP {α : Type} (k : Nat) (Q : Nat → Nat → α → Prop) (v : Value) (ps : List α) : Prop :=
  (ps = [] ∧ ∃ ad cap, v = .slice ad 0 cap) ∨ ∃ g o cap, v = .slice (some ⟨g, o, none⟩) ps.length cap ∧ ps ≠ [] ∧ ps.length ≤ cap ∧ ∀ j (h : j < ps.length), Q g (o + j * k) ps[j]
theorem RowP.mono {α : Type} {k : Nat} {Q Q' : Nat → Nat → α → Prop} {v : Value} {ps : List α} (hQ : ∀ g o, ∀ p ∈ ps, Q g o p → Q' g o p) (h : RowP k Q v ps) : RowP k Q' v ps := by
  rcases h with h | ⟨g, o, cap, h1, h2, h3, h4⟩
  · exact .inl h
  · exact .inr ⟨g, o, cap, h1, h2, h3, fun j hj => hQ _ _ _ (List.getElem_mem hj) (h4 j hj)⟩
theorem RowP.len {α : Type} {k : Nat} {Q : Nat → Nat → α → Prop} {v : Value} {ps : List α} (h : RowP k Q v ps) : ∃ ad cap, v = .slice ad ps.length cap := by
  rcases h with ⟨h0, ad, cap, rfl⟩ | ⟨g, o, cap, rfl, _⟩
  · exact ⟨ad, cap, by rw [h0]; rfl⟩
  · exact ⟨_, cap, rfl⟩
theorem RowP.map {α β : Type} {k : Nat} {Q : Nat → Nat → α → Prop} {Q' : Nat → Nat → β → Prop} {v : Value} {ps : List α} (f : α → β) (hQ : ∀ g o p, Q g o p → Q' g o (f p)) (h : RowP k Q v ps) : RowP k Q' v (ps.map f) := by
  rcases h with ⟨h0, h⟩ | ⟨g, o, cap, hv, h0, hc, h⟩
  · exact .inl ⟨by rw [h0]; rfl, h⟩
  · refine .inr ⟨g, o, cap, by rw [hv, List.length_map], by simpa using h0, by rw [List.length_map]; exact hc, fun j hj => ?_⟩
    rw [List.getElem_map]
    exact hQ _ _ _ (h j (by simpa using hj))
/-- A slice of a row, as the walk wants it. -/
theorem RowP.open {α : Type} {k : Nat} {Q : Nat → Nat → α → Prop} {v : Value} {ps : List α} (h : RowP k Q v ps) : ∃ ad cap, v = .slice ad ps.length cap ∧ (ps ≠ [] → ∃ g o, ad = some ⟨g, o, none⟩ ∧ ps.length ≤ cap ∧ ∀ j (h : j < ps.length), Q g (o + j * k) ps[j]) := by
  rcases h with ⟨h0, ad, cap, rfl⟩ | ⟨g, o, cap, rfl, h0, hc, h⟩
  · exact ⟨ad, cap, by rw [h0]; rfl, fun h => absurd h0 h⟩
  · exact ⟨_, cap, rfl, fun _ => ⟨g, o, rfl, hc, h⟩⟩
/-- The blocks of S are as they were. -/
def Keeps (S : Nat → Prop) (w w' : World) : Prop := ∀ b, S b → w'.heap[b]? = w.heap[b]?
theorem Keeps.refl (S : Nat → Prop) (w : World) : Keeps S w w := fun _ _ => rfl
theorem Keeps.trans {S : Nat → Prop} {a b c : World} (h : Keeps S a b) (k : Keeps S b c) : Keeps S a c := fun i hi => (k i hi).trans (h i hi)
theorem Keeps.cell {S : Nat → Prop} {w w' : World} (h : Keeps S w w') {p : Addr} (hp : S p.block) : w'.cell? p = w.cell? p := by
  unfold World.cell?
  rw [h _ hp]
theorem Keeps.of {S : Nat → Prop} {B : Nat} {w w' : World} (h : Below B w w') (hS : ∀ b, S b → b < B) : Keeps S w w' := fun b hb => h.block b (hS b hb)
theorem Keeps.less {S T : Nat → Prop} {w w' : World} (h : Keeps T w w') (hS : ∀ b, S b → T b) : Keeps S w w' := fun b hb => h b (hS b hb)
/-- The cells from o on of block g are the pattern t; all blocks that it leads to are of S. -/
def PnP (w : World) (S : Nat → Prop) : (d : Nat) → Nat → Nat → Pn d → Prop
  | 0, _, _, _ => False
  | d + 1, g, o, t => S g ∧ w.cell? ⟨g, o, none⟩ = some (.int .i64 t.1.1) ∧ w.cell? ⟨g, o + 1, none⟩ = some (.string ⟨t.1.2.1.toArray⟩) ∧ w.cell? ⟨g, o + 2, none⟩ = some (.int .i64 t.1.2.2) ∧
    t.1.2.1.length < 140737488355328 ∧ t.2.length < 140737488355328 ∧ ∃ v, w.cell? ⟨g, o + 3, none⟩ = some v ∧ RowP 4 (PnP w S d) v t.2
theorem PnP.below {w w' : World} {S S' : Nat → Prop} (hb : Keeps S w w') (hB : ∀ b, S b → S' b) : ∀ (d g o : Nat) (t : Pn d), PnP w S d g o t → PnP w' S' d g o t
  | 0, _, _, _, h => h
  | d + 1, g, o, _, ⟨h0, h1, h2, h3, h4, h5, v, h6, h7⟩ => ⟨hB _ h0, (hb.cell (p := ⟨g, o, none⟩) h0).trans h1, (hb.cell (p := ⟨g, o + 1, none⟩) h0).trans h2, (hb.cell (p := ⟨g, o + 2, none⟩) h0).trans h3, h4, h5, v, (hb.cell (p := ⟨g, o + 3, none⟩) h0).trans h6, h7.mono fun g o p _ => PnP.below hb hB d g o p⟩
/-- The same, of a pattern of whatever depth. -/
def PtP (w : World) (S : Nat → Prop) (g o : Nat) (p : Pt) : Prop := PnP w S p.1 g o p.2
theorem PtP.on {w w' : World} {S : Nat → Prop} {g o : Nat} {p : Pt} (h : PtP w S g o p) (hb : Keeps S w w') : PtP w' S g o p := PnP.below hb (fun _ h => h) _ _ _ _ h
theorem PtP.up {w : World} {S S' : Nat → Prop} {g o : Nat} {p : Pt} (h : PtP w S g o p) (hB : ∀ b, S b → S' b) : PtP w S' g o p := PnP.below (Keeps.refl _ _) hB _ _ _ _ h
/-- A row of patterns. -/
def Pats (w : World) (S : Nat → Prop) (v : Value) (ps : List Pt) : Prop := RowP 4 (PtP w S) v ps
theorem Pats.on {w w' : World} {S : Nat → Prop} {v : Value} {ps : List Pt} (h : Pats w S v ps) (hb : Keeps S w w') : Pats w' S v ps := h.mono fun _ _ _ _ h => h.on hb
theorem Pats.up {w : World} {S S' : Nat → Prop} {v : Value} {ps : List Pt} (h : Pats w S v ps) (hB : ∀ b, S b → S' b) : Pats w S' v ps := h.mono fun _ _ _ _ h => h.up hB
theorem PtP.open {w : World} {S : Nat → Prop} {g o : Nat} : ∀ {p : Pt}, PtP w S g o p → S g ∧ w.cell? ⟨g, o, none⟩ = some (.int .i64 p.kind) ∧ w.cell? ⟨g, o + 1, none⟩ = some (.string ⟨p.name.toArray⟩) ∧ w.cell? ⟨g, o + 2, none⟩ = some (.int .i64 p.num) ∧
    p.name.length < 140737488355328 ∧ p.kids.length < 140737488355328 ∧ ∃ ad cap, w.cell? ⟨g, o + 3, none⟩ = some (.slice ad p.kids.length cap) ∧ Pats w S (.slice ad p.kids.length cap) p.kids
  | ⟨0, _⟩, h => h.elim
  | ⟨d + 1, t⟩, ⟨h0, h1, h2, h3, h4, h5, v, h6, h7⟩ => by
    have h8 : Pats w S v (Pt.kids ⟨d + 1, t⟩) := RowP.map (fun u => (⟨d, u⟩ : Pt)) (fun _ _ _ h => h) h7
    obtain ⟨ad, cap, rfl⟩ := h8.len
    exact ⟨h0, h1, h2, h3, h4, by show (List.map _ _).length < _; rw [List.length_map]; exact h5, ad, cap, h6, h8⟩
/-- A pattern as a value. -/
def PtV (w : World) (S : Nat → Prop) (x : Value) (p : Pt) : Prop := ∃ ad cap, x = .agg #[.int .i64 p.kind, .string ⟨p.name.toArray⟩, .int .i64 p.num, .slice ad p.kids.length cap] ∧ p.name.length < 140737488355328 ∧ p.kids.length < 140737488355328 ∧ Pats w S (.slice ad p.kids.length cap) p.kids
theorem PtV.on {w w' : World} {S : Nat → Prop} {x : Value} {p : Pt} (h : PtV w S x p) (hb : Keeps S w w') : PtV w' S x p := by
  obtain ⟨ad, cap, h1, h2, h3, h4⟩ := h
  exact ⟨ad, cap, h1, h2, h3, h4.on hb⟩
/-- A row of rows. -/
def RowsAt (w : World) (S : Nat → Prop) (v : Value) (rows : List (List Pt)) : Prop := RowP 1 (fun g o r => S g ∧ ∃ ad cap, w.cell? ⟨g, o, none⟩ = some (.slice ad r.length cap) ∧ Pats w S (.slice ad r.length cap) r) v rows
theorem RowsAt.on {w w' : World} {S : Nat → Prop} {v : Value} {rows : List (List Pt)} (h : RowsAt w S v rows) (hb : Keeps S w w') : RowsAt w' S v rows := h.mono fun g o _ _ ⟨h0, ad, cap, h1, h2⟩ => ⟨h0, ad, cap, (hb.cell (p := ⟨g, o, none⟩) h0).trans h1, h2.on hb⟩
theorem RowsAt.up {w : World} {S S' : Nat → Prop} {v : Value} {rows : List (List Pt)} (h : RowsAt w S v rows) (hB : ∀ b, S b → S' b) : RowsAt w S' v rows := h.mono fun _ _ _ _ ⟨h0, ad, cap, h1, h2⟩ => ⟨hB _ h0, ad, cap, h1, h2.up hB⟩
/-- A row of numbers. -/
def Ints (w : World) (S : Nat → Prop) (v : Value) (l : List Int) : Prop := RowP 1 (fun g o x => S g ∧ w.cell? ⟨g, o, none⟩ = some (.int .i64 x)) v l
theorem Ints.on {w w' : World} {S : Nat → Prop} {v : Value} {l : List Int} (h : Ints w S v l) (hb : Keeps S w w') : Ints w' S v l := h.mono fun g o _ _ ⟨h0, h1⟩ => ⟨h0, (hb.cell (p := ⟨g, o, none⟩) h0).trans h1⟩
theorem Ints.up {w : World} {S S' : Nat → Prop} {v : Value} {l : List Int} (h : Ints w S v l) (hB : ∀ b, S b → S' b) : Ints w S' v l := h.mono fun _ _ _ _ ⟨h0, h1⟩ => ⟨hB _ h0, h1⟩
/-- A row of names. -/
def Strs (w : World) (S : Nat → Prop) (v : Value) (l : List Str) : Prop := RowP 1 (fun g o x => S g ∧ w.cell? ⟨g, o, none⟩ = some (.string ⟨x.toArray⟩) ∧ x.length < 140737488355328) v l
theorem Strs.on {w w' : World} {S : Nat → Prop} {v : Value} {l : List Str} (h : Strs w S v l) (hb : Keeps S w w') : Strs w' S v l := h.mono fun g o _ _ ⟨h0, h1, h2⟩ => ⟨h0, (hb.cell (p := ⟨g, o, none⟩) h0).trans h1, h2⟩
theorem Strs.up {w : World} {S S' : Nat → Prop} {v : Value} {l : List Str} (h : Strs w S v l) (hB : ∀ b, S b → S' b) : Strs w S' v l := h.mono fun _ _ _ _ ⟨h0, h1, h2⟩ => ⟨hB _ h0, h1, h2⟩
/-- A row of families. -/
def Fams (w : World) (S : Nat → Prop) (v : Value) (l : List Fam) : Prop := RowP 2 (fun g o f => S g ∧ (∃ ad cap, w.cell? ⟨g, o, none⟩ = some (.slice ad f.1.length cap) ∧ Strs w S (.slice ad f.1.length cap) f.1) ∧ ∃ ad cap, w.cell? ⟨g, o + 1, none⟩ = some (.slice ad f.2.length cap) ∧ Ints w S (.slice ad f.2.length cap) f.2) v l
theorem Fams.on {w w' : World} {S : Nat → Prop} {v : Value} {l : List Fam} (h : Fams w S v l) (hb : Keeps S w w') : Fams w' S v l := h.mono fun g o _ _ ⟨h0, ⟨ad, cap, h1, h2⟩, ad', cap', h3, h4⟩ => ⟨h0, ⟨ad, cap, (hb.cell (p := ⟨g, o, none⟩) h0).trans h1, h2.on hb⟩, ad', cap', (hb.cell (p := ⟨g, o + 1, none⟩) h0).trans h3, h4.on hb⟩
theorem Fams.up {w : World} {S S' : Nat → Prop} {v : Value} {l : List Fam} (h : Fams w S v l) (hB : ∀ b, S b → S' b) : Fams w S' v l := h.mono fun _ _ _ _ ⟨h0, ⟨ad, cap, h1, h2⟩, ad', cap', h3, h4⟩ => ⟨hB _ h0, ⟨ad, cap, h1, h2.up hB⟩, ad', cap', h3, h4.up hB⟩
theorem bytes_eq {n m : List UInt8} : ((⟨n.toArray⟩ : ByteArray) = ⟨m.toArray⟩) ↔ n = m := by
  constructor
  · intro h
    have := congrArg (fun b => b.data.toList) h
    simpa using this
  · rintro rfl; rfl
end Go.Proofs.Ytpdmkhnonbbhnaa
