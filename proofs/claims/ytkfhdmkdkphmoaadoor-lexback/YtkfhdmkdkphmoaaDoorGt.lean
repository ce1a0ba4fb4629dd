/- A row of tokens that a text gave, written with blanks between, is read as that row, places aside; how long it is. -/
import Derived.Test.YtkfhdmkdkphmoaaDoorGr
import Derived.Test.YtkfhdmkdkphmoaaDoorCut
namespace Go.Proofs.YtkfhdmkdkphmoaaDoor

theorem stepG_len {l : List UInt8} (hl : l ≠ []) {o : Option (Nat × List UInt8 × Nat)} {n : Nat} (h : stepL l = .ok (o, n)) : 1 ≤ n ∧ n ≤ l.length := by
  have h1 : 1 ≤ l.length := by
    cases l with
    | nil => exact absurd rfl hl
    | cons c r => simp
  unfold stepL at h
  split at h
  · simp at h; omega
  split at h
  · split at h
    · cases h
    · rename_i hb; simp at h; have := blockL_pos hb; omega
  split at h
  · rename_i hd; simp at h; have := dash_head hd; omega
  split at h
  · cases h
  · rename_i ht; simp at h; have := tokL_pos ht; omega


theorem lexG_skip {k c n : Nat} {p z : List UInt8} (hp : 1 ≤ p.length) (hs : stepL (p ++ z) = .ok (none, n)) (hn : n = p.length) : lexL k (p ++ z) c = lexL (k + p.length) z c := by
  cases p with
  | nil => simp at hp
  | cons x r =>
    rw [List.cons_append] at hs ⊢
    rw [lexL_cons, hs]
    simp only []
    rw [hn, show (x :: r).length - 1 = r.length by simp, List.drop_left]


/-- What is written of a row behind what stands there (f: nothing as yet). -/
def tailA : Bool → List Tk → List UInt8
  | _, [] => []
  | f, t :: r => (if f then [] else [32]) ++ writeA t.1 t.2.2.1 t.2.1 ++ tailA false r
/-- The text of a row behind what has been written so far; none: it is too long. -/
def joinA : Bool → List UInt8 → List Tk → Option (List UInt8)
  | _, acc, [] => if 65536 < acc.length then none else some acc
  | f, acc, t :: r => if 65536 < acc.length ∨ 65536 < t.2.1.length then none else joinA false (acc ++ (if f then [] else [32]) ++ writeA t.1 t.2.2.1 t.2.1) r
/-- A row's tokens at the places at which they are written. -/
def placeA : Nat → Bool → List Tk → List Tk
  | _, _, [] => []
  | k, f, t :: r => (t.1, t.2.1, t.2.2.1, k + (if f then 0 else 1)) :: placeA (k + (if f then 0 else 1) + (writeA t.1 t.2.2.1 t.2.1).length) false r
/-- A token without its place. -/
def bareT (t : Tk) : Nat × List UInt8 × Nat := (t.1, t.2.1, t.2.2.1)
def GoodTs (ts : List Tk) : Prop := ∀ t ∈ ts, GoodT t.1 t.2.1 t.2.2.1

theorem joinA_some : ∀ (ts : List Tk) (f : Bool) (acc x : List UInt8), joinA f acc ts = some x → x = acc ++ tailA f ts ∧ x.length ≤ 65536 := by
  intro ts
  induction ts with
  | nil =>
    intro f acc x h
    simp [joinA] at h
    simp [tailA]
    obtain ⟨h1, rfl⟩ := h
    exact ⟨rfl, h1⟩
  | cons t r ih =>
    intro f acc x h
    rw [joinA] at h
    split at h
    · cases h
    · have := ih _ _ _ h
      simp [tailA] at this ⊢
      exact this
theorem joinA_none : ∀ (ts : List Tk) (f : Bool) (acc : List UInt8), joinA f acc ts = none → 65536 < (acc ++ tailA f ts).length ∨ ∃ t ∈ ts, 65536 < t.2.1.length := by
  intro ts
  induction ts with
  | nil =>
    intro f acc h
    simp [joinA] at h
    simp [tailA]
    exact h
  | cons t r ih =>
    intro f acc h
    rw [joinA] at h
    split at h
    · rename_i hq
      rcases hq with hq | hq
      · left; simp; omega
      · right; exact ⟨t, by simp, hq⟩
    · rcases ih _ _ h with h | ⟨u, h1, h2⟩
      · left; simp [tailA] at h ⊢; omega
      · right; exact ⟨u, by simp [h1], h2⟩
theorem joinA_congr : ∀ (ts us : List Tk) (f : Bool) (acc : List UInt8), ts.map bareT = us.map bareT → joinA f acc ts = joinA f acc us := by
  intro ts
  induction ts with
  | nil =>
    intro us f acc h
    cases us with
    | nil => rfl
    | cons u r => cases h
  | cons t r ih =>
    intro us f acc h
    cases us with
    | nil => cases h
    | cons u r' =>
      simp [bareT] at h
      obtain ⟨⟨h1, h2, h3⟩, h4⟩ := h
      rw [joinA, joinA, h1, h2, h3, ih r' _ _ (by simpa [bareT] using h4)]
theorem placeA_bare : ∀ (ts : List Tk) (k : Nat) (f : Bool), (placeA k f ts).map bareT = ts.map bareT := by
  intro ts
  induction ts with
  | nil => intro k f; rfl
  | cons t r ih => intro k f; simp [placeA, bareT]; exact ih _ _
theorem bare_len {ts us : List Tk} (h : ts.map bareT = us.map bareT) : ts.length = us.length := by
  have := congrArg List.length h
  simpa using this

theorem lexL_put_l {k c n kd nm : Nat} {tx p z : List UInt8} (hp : p ≠ []) (hs : stepL (p ++ z) = .ok (some (kd, tx, nm), n)) (hn : n = p.length) (hc : c ≠ 20000) : lexL k (p ++ z) c = (lexL (k + p.length) z (c + 1)).map ((kd, tx, nm, k) :: ·) := by
  cases p with
  | nil => exact absurd rfl hp
  | cons x r =>
    rw [List.cons_append] at hs ⊢
    rw [lexL_cons, hs]
    simp only []
    rw [if_neg hc, hn, show (x :: r).length - 1 = r.length by simp, List.drop_left]
theorem lexL_tail : ∀ (ts : List Tk) (k c : Nat) (f : Bool), GoodTs ts → c + ts.length ≤ 20000 → lexL k (tailA f ts) c = .ok (placeA k f ts) := by
  intro ts
  induction ts with
  | nil => intro k c f _ _; rw [tailA, lexL]; rfl
  | cons t r ih =>
    intro k c f hg hc
    simp at hc
    have hgt := hg t (by simp)
    have hgr : GoodTs r := fun u hu => hg u (by simp [hu])
    have key : ∀ k', lexL k' (writeA t.1 t.2.2.1 t.2.1 ++ tailA false r) c = .ok ((t.1, t.2.1, t.2.2.1, k') :: placeA (k' + (writeA t.1 t.2.2.1 t.2.1).length) false r) := by
      intro k'
      have hstep : stepL (writeA t.1 t.2.2.1 t.2.1 ++ tailA false r) = .ok (some (t.1, t.2.1, t.2.2.1), (writeA t.1 t.2.2.1 t.2.1).length) := by
        cases r with
        | nil => rw [tailA, List.append_nil]; exact (step_write hgt).1
        | cons u r' =>
          have e : tailA false (u :: r') = 32 :: (writeA u.1 u.2.2.1 u.2.1 ++ tailA false r') := rfl
          rw [e]
          exact step_write_bl hgt _
      rw [lexL_put_l (step_write hgt).2 hstep rfl (by omega), ih _ _ _ hgr (by omega)]
      rfl
    cases f with
    | true =>
      rw [tailA, placeA]
      exact key k
    | false =>
      have e : tailA false (t :: r) = [32] ++ (writeA t.1 t.2.2.1 t.2.1 ++ tailA false r) := rfl
      rw [e, lexG_skip (by simp) (n := 1) (by rw [stepL, if_pos (show clsHd ([32] ++ (writeA t.1 t.2.2.1 t.2.1 ++ tailA false r)) = 6 from rfl)]) rfl]
      exact key (k + 1)

theorem dec_len : ∀ (k u : Nat), 1 ≤ k → u < 10 ^ k → (Lib.decDigits u).length ≤ k := by
  intro k
  induction k with
  | zero => intro u h; omega
  | succ k ih =>
    intro u _ h
    by_cases hu : u < 10
    · rw [dec_small hu]; simp
    · have hk : 1 ≤ k := by
        cases k with
        | zero => simp at h; omega
        | succ k => omega
      rw [dec_big hu]
      have := ih (u / 10) hk (by rw [Nat.pow_succ] at h; omega)
      simp
      omega
theorem strL_len {l : List UInt8} {t : List UInt8} {n : Nat} (h : strL l = some (t, n)) : t.length + 1 ≤ n := by
  induction l using strInd generalizing t n with
  | case1 l h7 =>
    rw [strL_end h7] at h
    simp at h
    obtain ⟨rfl, rfl⟩ := h
    simp
  | case2 l h7 hq => rw [strL_none h7 hq] at h; cases h
  | case3 l h7 b m hq ih =>
    rw [strL_some h7 hq] at h
    have hp := quotedL_pos hq
    simp only [Option.map_eq_some_iff, Prod.exists] at h
    obtain ⟨t', n', h1, h2⟩ := h
    have := ih h1
    simp at h2
    obtain ⟨rfl, rfl⟩ := h2
    simp
    omega
theorem step_len {l : List UInt8} {kd nm n : Nat} {tx : List UInt8} (h : stepL l = .ok (some (kd, tx, nm), n)) : tx.length ≤ n ∧ (writeA kd nm tx).length + 1 ≤ 20 * n := by
  have hg := good_of_step h
  have htok : tokL l = .ok (kd, tx, nm, n) := by
    unfold stepL at h
    split at h
    · cases h
    split at h
    · split at h <;> cases h
    split at h
    · cases h
    split at h
    · cases h
    · rename_i ht; simp at h; rw [ht]; simp [h]
  have hn := tokL_pos htok
  have hx : tx.length ≤ n ∧ (kd = 8 → tx.length + 2 ≤ n) := by
    unfold tokL at htok
    split at htok
    · simp at htok
      obtain ⟨e1, rfl, _, rfl⟩ := htok
      refine ⟨List.length_take_le _ _, fun h8 => ?_⟩
      rw [← e1] at h8; unfold wordKindP at h8; split at h8 <;> omega
    split at htok
    · simp at htok
      obtain ⟨e1, rfl, _, rfl⟩ := htok
      refine ⟨List.length_take_le _ _, fun h8 => ?_⟩
      rw [← e1] at h8; unfold upperL at h8; split at h8
      · split at h8
        · simp at h8
        · split at h8 <;> simp at h8
      · simp at h8
    split at htok
    · split at htok
      · cases htok
      · simp at htok
        obtain ⟨rfl, rfl, _, _⟩ := htok
        simp
    split at htok
    · split at htok
      · cases htok
      · simp at htok
        obtain ⟨rfl, rfl, _, _⟩ := htok
        simp
    split at htok
    · split at htok
      · cases htok
      · rename_i hq
        simp at htok
        obtain ⟨rfl, rfl, _, rfl⟩ := htok
        have := strL_len hq
        omega
    split at htok
    · split at htok
      · cases htok
      · simp at htok
        obtain ⟨e1, rfl, _, rfl⟩ := htok
        refine ⟨List.length_take_le _ _, fun h8 => ?_⟩
        rw [← e1] at h8; unfold runKindP at h8; split at h8
        · omega
        · split at h8
          · omega
          · split at h8 <;> omega
    split at htok
    · simp at htok
      obtain ⟨rfl, rfl, _, rfl⟩ := htok
      exact ⟨List.length_take_le _ _, by omega⟩
    split at htok
    · split at htok
      · cases htok
      · simp at htok
        obtain ⟨rfl, rfl, _, rfl⟩ := htok
        exact ⟨List.length_take_le _ _, by omega⟩
    · cases htok
  refine ⟨hx.1, ?_⟩
  rcases hg with ⟨rfl, rfl, h⟩ | ⟨rfl, rfl, h⟩ | ⟨rfl, rfl⟩ | ⟨h6, h7, h8, rfl, hne, _⟩
  · have : (writeA 6 nm []).length ≤ 19 := dec_len 19 nm (by omega) (by omega)
    omega
  · have : (writeA 7 nm []).length = (escB 39 nm).length + 2 := by simp [writeA, writeL]
    have := escB_len 39 nm
    omega
  · have e : (writeA 8 0 tx).length = (quoteL 34 tx).length + 2 := by simp [writeA, writeL]
    have h1 := quote_len 34 tx
    have h2 := hx.2 rfl
    omega
  · have e : writeA kd 0 tx = tx := by simp [writeA, writeL, h6, h7, h8]
    rw [e]
    omega

theorem lexL_all : ∀ (m : Nat) (l : List UInt8) (k c : Nat) (ts : List Tk), l.length ≤ m → lexL k l c = .ok ts → GoodTs ts ∧ (∀ t ∈ ts, t.2.1.length ≤ l.length) ∧ (tailA false ts).length ≤ 20 * l.length := by
  intro m
  induction m with
  | zero =>
    intro l k c ts hm h
    cases l with
    | nil => rw [lexL_nil] at h; cases h; exact ⟨fun _ h => (by cases h), by simp, by simp [tailA]⟩
    | cons x r => simp at hm
  | succ m ih =>
    intro l k c ts hm h
    cases l with
    | nil => rw [lexL_nil] at h; cases h; exact ⟨fun _ h => (by cases h), by simp, by simp [tailA]⟩
    | cons x r =>
      have hr : ∀ n, (r.drop n).length ≤ m := by intro n; simp at hm ⊢; omega
      rw [lexL_cons] at h
      cases hs : stepL (x :: r) with
      | error e => rw [hs] at h; cases h
      | ok y =>
        obtain ⟨o, n⟩ := y
        have hn := stepG_len (by simp) hs
        rw [hs] at h
        cases o with
        | none =>
          simp only [] at h
          obtain ⟨h1, h2, h3⟩ := ih _ (k + n) c ts (hr _) h
          have hd : (r.drop (n - 1)).length ≤ (x :: r).length := by simp; omega
          exact ⟨h1, fun t ht => Nat.le_trans (h2 t ht) hd, by omega⟩
        | some t0 =>
          obtain ⟨kd, tx, nm⟩ := t0
          have hg := good_of_step hs
          have hw := step_len hs
          simp only [] at h
          split at h
          · cases h
          · cases hl : lexL (k + n) (r.drop (n - 1)) (c + 1) with
            | error e => rw [hl] at h; cases h
            | ok ts' =>
              rw [hl] at h
              simp [Except.map] at h
              subst h
              obtain ⟨h1, h2, h3⟩ := ih _ (k + n) (c + 1) ts' (hr _) hl
              have hd : (r.drop (n - 1)).length + n = (x :: r).length := by simp at hn ⊢; omega
              refine ⟨?_, ?_, ?_⟩
              · intro t ht
                rcases List.mem_cons.1 ht with rfl | ht
                · exact hg
                · exact h1 t ht
              · intro t ht
                rcases List.mem_cons.1 ht with rfl | ht
                · show tx.length ≤ _
                  omega
                · have := h2 t ht
                  omega
              · rw [tailA]
                simp only [List.length_append, Bool.false_eq_true, if_false, List.length_cons, List.length_nil]
                have hl1 : (x :: r).length = r.length + 1 := rfl
                omega
end Go.Proofs.YtkfhdmkdkphmoaaDoor
