/- Types as trees of plain data: a tree of depth at most d; its nodes in a row, from the outside, from the left. -/
namespace Go.Proofs.YthcejnpknjepfaaGreat

/-- A node's kind and name. -/
abbrev Lb := Int × List UInt8
/-- A node in a row: kind, name, number of arguments. -/
abbrev Nd := Int × List UInt8 × Nat
/-- Trees of at most so many levels. -/
def Tn : Nat → Type
  | 0 => Empty
  | d + 1 => Lb × List (Tn d)
/-- The nodes of a tree in a row. -/
def flat : (d : Nat) → Tn d → List Nd
  | 0, t => t.elim
  | d + 1, t => (t.1.1, t.1.2, t.2.length) :: (t.2.map (flat d)).flatten
/-- The nodes of some trees in a row. -/
def flats (d : Nat) (ts : List (Tn d)) : List Nd := (ts.map (flat d)).flatten
theorem flats_nil (d : Nat) : flats d [] = [] := rfl
theorem flats_cons (d : Nat) (t : Tn d) (ts : List (Tn d)) : flats d (t :: ts) = flat d t ++ flats d ts := rfl
theorem flat_succ (d : Nat) (k : Int) (n : List UInt8) (ts : List (Tn d)) : flat (d + 1) ((k, n), ts) = (k, n, ts.length) :: flats d ts := rfl
theorem flat_pos : ∀ (d : Nat) (t : Tn d), 0 < (flat d t).length
  | 0, t => t.elim
  | _ + 1, _ => by simp [flat]
/-- Rows of one number of trees, equal up to what is behind them. -/
theorem flats_inj (d e : Nat) (ih : ∀ (t : Tn d) (u : Tn e) (r s : List Nd), flat d t ++ r = flat e u ++ s → flat d t = flat e u ∧ r = s) :
    ∀ (ts : List (Tn d)) (us : List (Tn e)) (r s : List Nd), ts.length = us.length → flats d ts ++ r = flats e us ++ s → (∀ i (h : i < ts.length) (h' : i < us.length), flat d ts[i] = flat e us[i]) ∧ flats d ts = flats e us ∧ r = s
  | [], [], r, s, _, h => ⟨fun i h => by simp at h, rfl, by simpa [flats] using h⟩
  | [], _ :: _, _, _, h, _ => by simp at h
  | _ :: _, [], _, _, h, _ => by simp at h
  | t :: ts, u :: us, r, s, hl, h => by
    rw [flats_cons, flats_cons, List.append_assoc, List.append_assoc] at h
    obtain ⟨h1, h2⟩ := ih t u _ _ h
    obtain ⟨h3, h4, h5⟩ := flats_inj d e ih ts us r s (by simpa using hl) h2
    refine ⟨fun i hi hi' => ?_, by rw [flats_cons, flats_cons, h1, h4], h5⟩
    cases i with
    | zero => exact h1
    | succ i => simpa using h3 i (by simpa using hi) (by simpa using hi')
/-- A tree's row says where it ends. -/
theorem flat_inj : ∀ (d : Nat) (t : Tn d) (e : Nat) (u : Tn e) (r s : List Nd), flat d t ++ r = flat e u ++ s → flat d t = flat e u ∧ r = s
  | 0, t, _, _, _, _, _ => t.elim
  | _ + 1, _, 0, u, _, _, _ => u.elim
  | d + 1, ((k, n), ts), e + 1, ((k', n'), us), r, s, h => by
    rw [flat_succ, flat_succ, List.cons_append, List.cons_append] at h
    injection h with h1 h2
    obtain ⟨_, h3, h4⟩ := flats_inj d e (fun t u => flat_inj d t e u) ts us r s (by simpa using congrArg (fun x => x.2.2) h1) h2
    exact ⟨by rw [flat_succ, flat_succ, h1, h3], h4⟩
theorem flat_eq_iff (d e : Nat) (k k' : Int) (n n' : List UInt8) (ts : List (Tn d)) (us : List (Tn e)) :
    flat (d + 1) ((k, n), ts) = flat (e + 1) ((k', n'), us) ↔ k = k' ∧ n = n' ∧ ts.length = us.length ∧ ∀ i (h : i < ts.length) (h' : i < us.length), flat d ts[i] = flat e us[i] := by
  constructor
  · intro h
    rw [flat_succ, flat_succ] at h
    injection h with h1 h2
    have hl : ts.length = us.length := by simpa using congrArg (fun x => x.2.2) h1
    obtain ⟨h3, _, _⟩ := flats_inj d e (fun t u => flat_inj d t e u) ts us [] [] hl (by rw [h2])
    exact ⟨by simpa using congrArg (fun x => x.1) h1, by simpa using congrArg (fun x => x.2.1) h1, hl, h3⟩
  · rintro ⟨rfl, rfl, hl, h⟩
    rw [flat_succ, flat_succ, hl]
    congr 1
    unfold flats
    congr 1
    apply List.ext_getElem
    · simpa using hl
    · intro i h1 h2
      simpa using h i (by simpa using h1) (by simpa using h2)
end Go.Proofs.YthcejnpknjepfaaGreat
