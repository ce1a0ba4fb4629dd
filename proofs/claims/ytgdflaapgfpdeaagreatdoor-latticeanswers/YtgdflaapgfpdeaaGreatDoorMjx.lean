/- Types whose lists are their owner's. Reads whose answers are their owner's read as the document says. -/
import Derived.Test.YtgdflaapgfpdeaaGreatDoorOw
import Derived.Test.YtgdflaapgfpdeaaGreatDoorBk
import Derived.Deep.Onto
namespace Go.Proofs.YtgdflaapgfpdeaaGreatDoor
open Go.RowKit

theorem own_keep {W W' : World} {b e size c : Nat} {v : Value} {xs : List Value} (h : W.ownsRow b e size v c xs) (hb : ∀ k, v.ownBlock = some k → W'.heap[k]? = W.heap[k]?) : W'.ownsRow b e size v c xs := by
  refine ⟨h.1, ?_⟩
  rcases h.2 with h0 | ⟨g, cap, cur, rfl, hg, hgg, rest⟩
  · exact .inl h0
  · exact .inr ⟨g, cap, cur, rfl, hg, by rw [hb g rfl]; exact hgg, rest⟩

/-- The value x is the tree t; each list in it is a row of its own from block lo on; rws: these rows, from the outside, from the left. -/
def TyO (w : World) (lo : Nat) : (d : Nat) → Value → Tn d → List (Value × Nat) → Prop
  | 0, _, _, _ => False
  | d + 1, x, t, rws => ∃ v, x = .agg #[.int .i64 t.1.1, .string ⟨t.1.2.toArray⟩, v] ∧ t.1.2.length < 140737488355328 ∧ t.2.length < 140737488355328 ∧
      ((t.2 = [] ∧ (∃ ad cap, v = .slice ad 0 cap) ∧ rws = []) ∨ (t.2 ≠ [] ∧ ∃ (es : List El) (rss : List (List (Value × Nat))), es.length = t.2.length ∧ rss.length = t.2.length ∧ w.ownsRow lo 24 3 v t.2.length (es.flatMap elCells) ∧ rws = (v, t.2.length) :: rss.flatten ∧
        ∀ j (h : j < t.2.length) (h1 : j < es.length) (h2 : j < rss.length), TyO w lo d (elV es[j]) t.2[j] rss[j]))
/-- Each of the rows is one. -/
theorem TyO.each {w : World} {lo : Nat} : ∀ (d : Nat) (x : Value) (t : Tn d) (rws : List (Value × Nat)), TyO w lo d x t rws → ∀ p ∈ rws, ∃ xs, w.ownsRow lo 24 3 p.1 p.2 xs
  | 0, _, _, _, h, _, _ => h.elim
  | d + 1, x, t, rws, ⟨v, _, _, _, h⟩, p, hp => by
    rcases h with ⟨_, _, rfl⟩ | ⟨_, es, rss, h1, h2, hown, rfl, hj⟩
    · cases hp
    · rcases List.mem_cons.1 hp with rfl | hp
      · exact ⟨_, hown⟩
      · obtain ⟨l, hl, hpl⟩ := List.mem_flatten.1 hp
        obtain ⟨j, hj', rfl⟩ := List.getElem_of_mem hl
        exact TyO.each d _ _ _ (hj j (by omega) (by omega) hj') p hpl
theorem TyO.on {w w' : World} {lo : Nat} : ∀ (d : Nat) (x : Value) (t : Tn d) (rws : List (Value × Nat)), (∀ p ∈ rws, ∀ g, p.1.ownBlock = some g → w'.heap[g]? = w.heap[g]?) → TyO w lo d x t rws → TyO w' lo d x t rws
  | 0, _, _, _, _, h => h
  | d + 1, x, t, rws, hb, ⟨v, hx, h1, h2, h⟩ => by
    refine ⟨v, hx, h1, h2, ?_⟩
    rcases h with h | ⟨h0, es, rss, q1, q2, hown, rfl, hj⟩
    · exact .inl h
    · refine .inr ⟨h0, es, rss, q1, q2, own_keep hown fun k hk => hb (v, t.2.length) (by simp) k hk, rfl, fun j j0 j1 j2 => TyO.on d _ _ _ (fun p hp => hb p ?_) (hj j j0 j1 j2)⟩
      exact List.mem_cons_of_mem _ (List.mem_flatten.2 ⟨_, List.getElem_mem j2, hp⟩)
/-- It is a tree in memory. -/
theorem TyO.at {w : World} {lo B : Nat} : ∀ (d : Nat) (x : Value) (t : Tn d) (rws : List (Value × Nat)), (∀ p ∈ rws, ∀ g, p.1.ownBlock = some g → g < B) → TyO w lo d x t rws → TyAt w B d x t
  | 0, _, _, _, _, h => h
  | d + 1, x, t, rws, hb, ⟨v, hx, h1, h2, h⟩ => by
    refine ⟨v, hx, h1, h2, ?_⟩
    rcases h with ⟨h0, h, _⟩ | ⟨h0, es, rss, q1, q2, hown, rfl, hj⟩
    · exact .inl ⟨h0, h⟩
    · have hpos : 0 < t.2.length := List.length_pos_iff.2 h0
      obtain ⟨g, cap, hv, _, _⟩ := hown.form hpos
      have hcap : t.2.length ≤ cap := by
        rcases hown.2 with ⟨_, h'⟩ | ⟨g', cap', cur, h', _, _, hc, _⟩
        · omega
        · rw [hv] at h'
          simp only [Value.slice.injEq, Option.some.injEq, Addr.mk.injEq, and_true, true_and] at h'
          omega
      refine .inr ⟨g, 0, cap, hv, h0, hcap, hb (v, t.2.length) (by simp) g (by rw [hv]; rfl), fun j j0 => ?_⟩
      have j1 : j < es.length := by omega
      have j2 : j < rss.length := by omega
      have hc : ∀ i, i < 3 → ∀ u, (elCells es[j])[i]? = some u → w.cell? ⟨g, 0 + j * 3 + i, none⟩ = some u := by
        intro i hi u hu
        have := hown.cells (g := g) (by rw [hv]; rfl) (j * 3 + i) u (by rw [elCells_get es j i j1 hi]; exact hu)
        rw [Nat.zero_add]
        have e : (⟨g, 0, none⟩ : Addr).add (j * 3 + i) = ⟨g, j * 3 + i, none⟩ := by
          unfold Addr.add
          split
          · rename_i h0; rw [h0]
          · simp
        rw [e] at this
        exact this
      exact ⟨es[j].1, es[j].2.1, es[j].2.2, hc 0 (by omega) _ rfl, hc 1 (by omega) _ rfl, hc 2 (by omega) _ rfl, TyO.at d _ _ _ (fun p hp => hb p (List.mem_cons_of_mem _ (List.mem_flatten.2 ⟨_, List.getElem_mem j2, hp⟩))) (hj j j0 j1 j2)⟩
theorem TyO.slice {w : World} {lo d : Nat} {e : El} {t : Tn d} {rws : List (Value × Nat)} (h : TyO w lo d (elV e) t rws) : ∃ ad len cap, e.2.2 = .slice ad len cap := by
  cases d with
  | zero => exact h.elim
  | succ d =>
    obtain ⟨v, ex, _, _, h⟩ := h
    have ex : e.2.2 = v := by
      simp only [Value.agg.injEq, Array.mk.injEq, List.cons.injEq, and_true] at ex
      exact ex.2.2
    rcases h with ⟨_, ⟨ad, cap, hv⟩, _⟩ | ⟨h0, es, rss, _, _, hown, _⟩
    · exact ⟨ad, 0, cap, ex.trans hv⟩
    · rcases hown.2 with ⟨hv, _⟩ | ⟨g, cap, _, hv, _⟩
      · exact ⟨_, _, _, ex.trans hv⟩
      · exact ⟨_, _, _, ex.trans hv⟩

/-- What Read says of a text: the number, and the nodes of the type. -/
def RelR (l : List UInt8) (e : Int) (F : List Nd) : Prop :=
  (e = 0 ∧ l.length ≤ 65536 ∧ ∃ d t, formB d t = true ∧ textT d t = l ∧ (flat d t).length ≤ 500 ∧ F = flat d t) ∨
  (e ≠ 0 ∧ F = [(0, [], 0)] ∧ ((65536 < l.length ∧ e = 2) ∨ (l.length ≤ 65536 ∧ (∃ d t, formB d t = true ∧ textT d t = l ∧ 500 < (flat d t).length) ∧ e = 4) ∨ (l.length ≤ 65536 ∧ (∀ d t, formB d t = true → textT d t ≠ l) ∧ e = 52)))
theorem RelR.one {l : List UInt8} {e e' : Int} {F F' : List Nd} (h : RelR l e F) (h' : RelR l e' F') : e = e' ∧ F = F' := by
  have inj : ∀ {d d' : Nat} {t : Tn d} {t' : Tn d'}, formB d t = true → formB d' t' = true → textT d t = l → textT d' t' = l → flat d t = flat d' t' := fun f f' q q' => (text_inj _ _ _ _ [] [] f f' ends_nil ends_nil (by rw [q, q'])).1
  rcases h with ⟨rfl, hl, d, t, f1, f2, f3, rfl⟩ | ⟨he, rfl, h⟩
  · rcases h' with ⟨rfl, _, d', t', g1, g2, g3, rfl⟩ | ⟨he', rfl, h'⟩
    · exact ⟨rfl, inj f1 g1 f2 g2⟩
    · rcases h' with ⟨h1, _⟩ | ⟨_, ⟨d', t', g1, g2, g3⟩, _⟩ | ⟨_, hno, _⟩
      · omega
      · rw [inj f1 g1 f2 g2] at f3
        omega
      · exact absurd f2 (hno d t f1)
  · rcases h' with ⟨rfl, hl', d', t', g1, g2, g3, rfl⟩ | ⟨he', rfl, h'⟩
    · rcases h with ⟨h1, _⟩ | ⟨_, ⟨d, t, f1, f2, f3⟩, _⟩ | ⟨_, hno, _⟩
      · omega
      · rw [inj f1 g1 f2 g2] at f3
        omega
      · exact absurd g2 (hno d' t' g1)
    · refine ⟨?_, rfl⟩
      rcases h with ⟨h1, rfl⟩ | ⟨h1, ⟨d, t, f1, f2, f3⟩, rfl⟩ | ⟨h1, hno, rfl⟩
      · rcases h' with ⟨_, rfl⟩ | ⟨h2, _⟩ | ⟨h2, _⟩
        · rfl
        · omega
        · omega
      · rcases h' with ⟨h2, _⟩ | ⟨_, _, rfl⟩ | ⟨_, hno, _⟩
        · omega
        · rfl
        · exact absurd f2 (hno d t f1)
      · rcases h' with ⟨h2, _⟩ | ⟨_, ⟨d, t, f1, f2, f3⟩, _⟩ | ⟨_, _, rfl⟩
        · omega
        · exact absurd f2 (hno d t f1)
        · rfl
/-- What Read answered is such a tree. -/
theorem ReadPost.rel {w w' : World} {l : List UInt8} {r : Ending} (h : ReadPost w l r w') : Below w.heap.size w w' ∧ ∃ (k : Int) (n : ByteArray) (ad : Option Addr) (len cap : Nat) (e : Int) (d : Nat) (t : Tn d), r = .returned (.tuple #[.agg #[.int .i64 k, .string n, .slice ad len cap], .int .i64 e]) ∧ TyAt w' w'.heap.size d (.agg #[.int .i64 k, .string n, .slice ad len cap]) t ∧ RelR l e (flat d t) := by
  obtain ⟨hb, x, e, hr, h⟩ := h
  refine ⟨hb, ?_⟩
  rcases h with ⟨he, hl, d, t, h1, h2, h3, h4⟩ | ⟨he, hx, h⟩
  · obtain ⟨d, rfl⟩ : ∃ e, d = e + 1 := by
      cases d with
      | zero => exact h4.elim
      | succ e => exact ⟨e, rfl⟩
    obtain ⟨v, hx, q1, q2, q3⟩ := id h4
    subst hx
    obtain ⟨ad, cap, rfl⟩ := q3.len
    exact ⟨_, _, ad, _, cap, e, d + 1, t, hr, h4, .inl ⟨he, hl, d + 1, t, h1, h2, h3, rfl⟩⟩
  · obtain ⟨ad, cap, rfl⟩ := hx
    exact ⟨0, ⟨#[]⟩, ad, 0, cap, e, 1, ((0, []), []), hr, zero_at _ _ _ _, .inr ⟨he, by rw [flat_succ, flats_nil]; rfl, h⟩⟩
/-- Rows that are apart: each in a block of its own, below hi. -/
def Sep (hi : Nat) (rws : List (Value × Nat)) : Prop := (∀ p ∈ rws, ∃ g, p.1.ownBlock = some g ∧ g < hi) ∧ (rws.map fun p => p.1.ownBlock).Nodup
/-- What a Read answers whose answers are their owner's. -/
def ReadPostO (w : World) (l : List UInt8) (r : Ending) (w' : World) : Prop :=
  Below w.heap.size w w' ∧ ∃ (k : Int) (n : ByteArray) (ad : Option Addr) (len cap : Nat) (e : Int) (d : Nat) (t : Tn d) (rws : List (Value × Nat)), r = .returned (.tuple #[.agg #[.int .i64 k, .string n, .slice ad len cap], .int .i64 e]) ∧
    TyO w' w.heap.size d (.agg #[.int .i64 k, .string n, .slice ad len cap]) t rws ∧ Sep w'.heap.size rws ∧ rws.length ≤ 500 ∧ (∀ p ∈ rws, p.2 ≤ 6) ∧ RelR l e (flat d t)
def ReadsO (f : Nat) : Prop := ∀ (l : List UInt8) (w : World), l.length < 140737488355328 → Calls Tryz.prog f #[strV l] w (ReadPostO w l)
/-- Rows that are apart, from lo on and below hi. -/
def SepB (lo hi : Nat) (rws : List (Value × Nat)) : Prop := (∀ p ∈ rws, ∃ g, p.1.ownBlock = some g ∧ lo ≤ g ∧ g < hi) ∧ (rws.map fun p => p.1.ownBlock).Nodup
theorem SepB.of {w : World} {lo hi d : Nat} {x : Value} {t : Tn d} {rws : List (Value × Nat)} (h : TyO w lo d x t rws) (hs : Sep hi rws) : SepB lo hi rws :=
  ⟨fun p hp => by
    obtain ⟨g, e1, e2⟩ := hs.1 p hp
    obtain ⟨xs, hx⟩ := TyO.each _ _ _ _ h p hp
    exact ⟨g, e1, (hx.lt g e1).1, e2⟩, hs.2⟩
theorem SepB.append {a b c d : Nat} {A B : List (Value × Nat)} (hA : SepB a b A) (hB : SepB c d B) (hac : a ≤ c) (hbc : b ≤ c) (hbd : b ≤ d) : SepB a d (A ++ B) := by
  refine ⟨fun p hp => ?_, ?_⟩
  · rcases List.mem_append.1 hp with hp | hp
    · obtain ⟨g, e, h1, h2⟩ := hA.1 p hp
      exact ⟨g, e, h1, by omega⟩
    · obtain ⟨g, e, h1, h2⟩ := hB.1 p hp
      exact ⟨g, e, by omega, h2⟩
  · rw [List.map_append, List.nodup_append]
    refine ⟨hA.2, hB.2, fun x hx y hy e => ?_⟩
    obtain ⟨p, hp, rfl⟩ := List.mem_map.1 hx
    obtain ⟨q, hq, rfl⟩ := List.mem_map.1 hy
    obtain ⟨g, e1, h1, h2⟩ := hA.1 p hp
    obtain ⟨g', e2, h3, h4⟩ := hB.1 q hq
    rw [e1, e2] at e
    have := Option.some.inj e
    omega
theorem SepB.sep {a b : Nat} {A : List (Value × Nat)} (h : SepB a b A) : Sep b A := ⟨fun p hp => by obtain ⟨g, e, _, h2⟩ := h.1 p hp; exact ⟨g, e, h2⟩, h.2⟩
theorem SepB.lt {a b : Nat} {A : List (Value × Nat)} (h : SepB a b A) {B : Nat} (hB : b ≤ B) : ∀ p ∈ A, ∀ g, p.1.ownBlock = some g → g < B := fun p hp g hg => by
  obtain ⟨g', e, _, h2⟩ := h.1 p hp
  rw [e] at hg
  have := Option.some.inj hg
  omega
end Go.Proofs.YtgdflaapgfpdeaaGreatDoor

namespace Go.Proofs.YtgdflaapgfpdeaaGreatDoor
open Go.RowKit

theorem flat_same : ∀ (d : Nat) (t : Tn d) (e : Nat) (u : Tn e), flat d t = flat e u → formB d t = formB e u ∧ textT d t = textT e u
  | 0, t, _, _, _ => Empty.elim t
  | d + 1, ((k, n), ts), 0, u, _ => Empty.elim u
  | d + 1, ((k, n), ts), e + 1, ((k', n'), us), h => by
    obtain ⟨rfl, rfl, hl, hj⟩ := (flat_eq_iff d e k k' n n' ts us).1 h
    have ih : ∀ j (h : j < ts.length) (h' : j < us.length), formB d ts[j] = formB e us[j] ∧ textT d ts[j] = textT e us[j] := fun j h h' => flat_same d _ e _ (hj j h h')
    have e1 : ts.map (formB d) = us.map (formB e) := List.ext_getElem (by simpa using hl) fun j h h' => by simpa using (ih j (by simpa using h) (by simpa using h')).1
    have e2 : ts.map (textT d) = us.map (textT e) := List.ext_getElem (by simpa using hl) fun j h h' => by simpa using (ih j (by simpa using h) (by simpa using h')).2
    have e3 : ts.all (formB d) = us.all (formB e) := by
      have a1 : ts.all (formB d) = (ts.map (formB d)).all id := by simp [List.all_map, Function.comp_def]
      have a2 : us.all (formB e) = (us.map (formB e)).all id := by simp [List.all_map, Function.comp_def]
      rw [a1, a2, e1]
    have e4 : ts.isEmpty = us.isEmpty := by cases ts <;> cases us <;> simp_all
    constructor
    · simp only [formB, e3, e4, hl]
    · have e5 : (ts.map fun a => 32 :: textT d a) = us.map fun a => 32 :: textT e a := by
        have a1 : (ts.map fun a => 32 :: textT d a) = (ts.map (textT d)).map (fun x => 32 :: x) := by simp
        have a2 : (us.map fun a => 32 :: textT e a) = (us.map (textT e)).map (fun x => 32 :: x) := by simp
        rw [a1, a2, e2]
      have e6 : (ts = []) = (us = []) := by cases ts <;> cases us <;> simp_all
      simp only [textT, e5, e6]
      split
      · rfl
      · split
        · match ts, us, hl, e2 with
          | [], [], _, _ => rfl
          | [_], [_], _, _ => rfl
          | [a, b], [a', b'], _, e2 =>
            simp at e2
            simp [e2]
          | _ :: _ :: _ :: _, _ :: _ :: _ :: _, _, _ => rfl
        · rfl
theorem reads_of (hR : ReadsO 44) : Reads 44 := by
  intro l w hl
  refine Calls.mono (hR l w hl) ?_
  rintro r w' ⟨hb, k, n, ad, len, cap, e, d, t, rws, rfl, hT, hS, _, _, hrel⟩
  refine ⟨hb, _, e, rfl, ?_⟩
  have hA : TyAt w' w'.heap.size d (.agg #[.int .i64 k, .string n, .slice ad len cap]) t := TyO.at d _ t rws (fun p hp g hg => by
    obtain ⟨g', e1, e2⟩ := hS.1 p hp
    rw [hg] at e1
    cases e1
    exact e2) hT
  rcases hrel with ⟨he, hl', d', t', f1, f2, f3, f4⟩ | ⟨he, hF, hrest⟩
  · obtain ⟨g1, g2⟩ := flat_same d t d' t' f4
    exact .inl ⟨he, hl', d, t, by rw [g1]; exact f1, by rw [g2]; exact f2, by rw [f4]; exact f3, hA⟩
  · refine .inr ⟨he, ?_, hrest⟩
    cases d with
    | zero => exact hA.elim
    | succ d =>
      obtain ⟨⟨k', n'⟩, ts⟩ := t
      rw [flat_succ] at hF
      injection hF with h1 h2
      have hk : k' = 0 := congrArg (fun x => x.1) h1
      have hn : n' = [] := congrArg (fun x => x.2.1) h1
      have ht : ts.length = 0 := congrArg (fun x => x.2.2) h1
      subst hk hn
      have ht := List.eq_nil_of_length_eq_zero ht
      subst ht
      obtain ⟨v, hx, _, _, hv⟩ := hA
      obtain ⟨ad', cap', rfl⟩ := hv.len
      exact ⟨ad', cap', hx⟩
end Go.Proofs.YtgdflaapgfpdeaaGreatDoor
