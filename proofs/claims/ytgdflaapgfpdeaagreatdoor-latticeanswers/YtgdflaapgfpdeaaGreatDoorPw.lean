/- The program's put and anew: every tree, every map. -/
import Derived.Test.YtgdflaapgfpdeaaGreatDoorMqx
import Derived.Test.YtgdflaapgfpdeaaGreatDoorOp
namespace Go.Proofs.YtgdflaapgfpdeaaGreatDoor
open Go.RowKit

/-- A tree counted as one of more levels. -/
def upN (e : Nat) (u : Tn e) : (d : Nat) → Tn (e + d)
  | 0 => u
  | d + 1 => up (e + d) (upN e u d)
/-- A node with what f says in its place, its arguments by r. -/
def subN {e d : Nat} (f : List UInt8 → Option (Tn e)) (r : Tn d → Tn (e + d)) (k : Int) (n : List UInt8) (ts : List (Tn d)) : Tn (e + (d + 1)) :=
  match (if k = 2 then f n else none) with
  | some u => upN e u (d + 1)
  | none => ((k, n), ts.map r)
/-- A tree with what f says in its variables' places. -/
def subT (e : Nat) (f : List UInt8 → Option (Tn e)) : (d : Nat) → Tn d → Tn (e + d)
  | 0, t => t.elim
  | d + 1, t => subN f (subT e f d) t.1.1 t.1.2 t.2
theorem subT_var {e : Nat} {f : List UInt8 → Option (Tn e)} {d : Nat} {n : List UInt8} {ts : List (Tn d)} {u : Tn e} (h : f n = some u) : subT e f (d + 1) ((2, n), ts) = upN e u (d + 1) := by
  show subN f (subT e f d) 2 n ts = _
  unfold subN
  rw [if_pos rfl, h]
theorem subT_free {e : Nat} {f : List UInt8 → Option (Tn e)} {d : Nat} {n : List UInt8} {ts : List (Tn d)} (h : f n = none) : subT e f (d + 1) ((2, n), ts) = ((2, n), ts.map (subT e f d)) := by
  show subN f (subT e f d) 2 n ts = _
  unfold subN
  rw [if_pos rfl, h]
theorem subT_node {e : Nat} {f : List UInt8 → Option (Tn e)} {d : Nat} {k : Int} {n : List UInt8} {ts : List (Tn d)} (h : k ≠ 2) : subT e f (d + 1) ((k, n), ts) = ((k, n), ts.map (subT e f d)) := by
  show subN f (subT e f d) k n ts = _
  unfold subN
  rw [if_neg h]
theorem TyO.up {w : World} {lo : Nat} : ∀ (d : Nat) (x : Value) (t : Tn d) (rws : List (Value × Nat)), TyO w lo d x t rws → TyO w lo (d + 1) x (up d t) rws
  | 0, _, _, _, h => h.elim
  | d + 1, x, ((k, n), ts), rws, ⟨v, hx, h1, h2, h⟩ => by
    have hl : (ts.map (Go.Proofs.YtgdflaapgfpdeaaGreatDoor.up d)).length = ts.length := List.length_map _
    refine ⟨v, hx, h1, by show (ts.map (Go.Proofs.YtgdflaapgfpdeaaGreatDoor.up d)).length < _; rw [hl]; exact h2, ?_⟩
    rcases h with ⟨h0, h⟩ | ⟨h0, es, rss, k1, k2, hown, hr, hj⟩
    · have h0 : ts = [] := h0
      subst h0
      exact .inl ⟨rfl, h⟩
    · refine .inr ⟨fun e => h0 (List.map_eq_nil_iff.1 e), es, rss, k1.trans hl.symm, k2.trans hl.symm, ?_, ?_, ?_⟩
      · show w.ownsRow lo 24 3 v (ts.map (Go.Proofs.YtgdflaapgfpdeaaGreatDoor.up d)).length _
        rw [hl]; exact hown
      · show rws = (v, (ts.map (Go.Proofs.YtgdflaapgfpdeaaGreatDoor.up d)).length) :: _
        rw [hl]; exact hr
      · intro j a b c
        have a : j < (ts.map (Go.Proofs.YtgdflaapgfpdeaaGreatDoor.up d)).length := a
        have a' : j < ts.length := by rwa [hl] at a
        have := TyO.up d _ _ _ (hj j a' b c)
        have e1 : (ts.map (Go.Proofs.YtgdflaapgfpdeaaGreatDoor.up d))[j] = Go.Proofs.YtgdflaapgfpdeaaGreatDoor.up d ts[j] := List.getElem_map _
        show TyO w lo (d + 1) _ ((ts.map (Go.Proofs.YtgdflaapgfpdeaaGreatDoor.up d))[j]) _
        rw [e1]
        exact this
theorem PutPost.up {w w' : World} {D : Nat} {t : Tn D} {r : Ending} (h : PutPost w D t r w') : PutPost w (D + 1) (up D t) r w' := by
  obtain ⟨h1, k, n, ad, len, cap, rws, h2, h3, h4⟩ := h
  exact ⟨h1, k, n, ad, len, cap, rws, h2, TyO.up _ _ _ _ h3, h4⟩
theorem PutPost.upN {w w' : World} {e : Nat} {u : Tn e} {r : Ending} (h : PutPost w e u r w') : ∀ d, PutPost w (e + d) (upN e u d) r w'
  | 0 => h
  | d + 1 => (PutPost.upN h d).up
theorem flats_mem {d : Nat} {t : Tn d} {ts : List (Tn d)} (h : t ∈ ts) : (flat d t).length ≤ (flats d ts).length := by
  induction ts with
  | nil => cases h
  | cons a r ih =>
    rw [flats_cons, List.length_append]
    rcases List.mem_cons.1 h with rfl | h
    · omega
    · have := ih h; omega
/-- put of an empty map copies. -/
theorem put_copy : ∀ (d : Nat) (x : Value) (t : Tn d) (w : World) (B b : Nat), B ≤ w.heap.size → TyAt w B d x t → Mv w b 0 (fun _ => none) → (flat d t).length ≤ 100000 → Calls Tryz.prog 66 #[.map (some b), x] w (PutPost w d t)
  | 0, _, _, _, _, _, _, h, _, _ => h.elim
  | d + 1, x, ((k, n), ts), w, B, b, hB, ⟨v, hx, h1, h2, hr⟩, hM, hl => by
    subst hx
    rw [flat_succ, List.length_cons] at hl
    have hlen : ts.length ≤ (flats d ts).length := flats_pos d ts
    have := put_node d d id b 0 (fun _ => none) (fun _ _ h => by cases h) k n ts w (fun x t ht W B' hB' hT hb => put_copy d x t W B' b hB' hT (hM.below hb) (by have := flats_mem ht; omega)) v B hB h1 hr hM (fun h => by simp at h) (by omega)
    rw [List.map_id] at this
    exact this
theorem anew_any (d : Nat) (x : Value) (t : Tn d) (w : World) (B : Nat) (hB : B ≤ w.heap.size) (h : TyAt w B d x t) (hl : (flat d t).length ≤ 100000) : Calls Tryz.prog 76 #[x] w (PutPost w d t) :=
  anew_of d d x t t w B h fun b U hb hM => put_copy d x t U B b (Nat.le_trans hB hb.size) (h.on (hb.mono hB)) hM hl
/-- What the map holds and what it says agree: values are trees that lie below Bv. -/
def Agr (w : World) (Bv e : Nat) (s : List UInt8 → Option Value) (f : List UInt8 → Option (Tn e)) : Prop :=
  ∀ n, (s n = none ∧ f n = none) ∨ ∃ v u, s n = some v ∧ f n = some u ∧ TyAt w Bv e v u ∧ (flat e u).length ≤ 100000
theorem Agr.on {w w' : World} {Bv e : Nat} {s : List UInt8 → Option Value} {f : List UInt8 → Option (Tn e)} (h : Agr w Bv e s f) (hb : Below Bv w w') : Agr w' Bv e s f := fun n => by
  rcases h n with h | ⟨v, u, h1, h2, h3, h4⟩
  · exact .inl h
  · exact .inr ⟨v, u, h1, h2, h3.on hb, h4⟩
theorem tree_form {w : World} {B d : Nat} {x : Value} {t : Tn d} (h : TyAt w B d x t) : ∃ (k : Int) (n : ByteArray) (ad : Option Addr) (len cap : Nat), x = .agg #[.int .i64 k, .string n, .slice ad len cap] := by
  cases d with
  | zero => exact h.elim
  | succ d =>
    obtain ⟨v, hx, _, _, hr⟩ := h
    obtain ⟨ad, cap, rfl⟩ := hr.len
    exact ⟨_, _, _, _, _, hx⟩
theorem put_any (e : Nat) (f : List UInt8 → Option (Tn e)) (s : List UInt8 → Option Value) (b m Bv : Nat) : ∀ (d : Nat) (x : Value) (t : Tn d) (w : World) (B : Nat), B ≤ w.heap.size → Bv ≤ w.heap.size → TyAt w B d x t → Mv w b m s → Agr w Bv e s f → (flat d t).length ≤ 100000 →
    Calls Tryz.prog 66 #[.map (some b), x] w (PutPost w (e + d) (subT e f d t))
  | 0, _, _, _, _, _, _, h, _, _, _ => h.elim
  | d + 1, x, ((k, n), ts), w, B, hB, hBv, ⟨v, hx, h1, h2, hr⟩, hM, hA, hl => by
    subst hx
    rw [flat_succ, List.length_cons] at hl
    have hlen : ts.length ≤ (flats d ts).length := flats_pos d ts
    have hS : ∀ x v, s x = some v → ∃ (k : Int) (n : ByteArray) (ad : Option Addr) (len cap : Nat), v = .agg #[.int .i64 k, .string n, .slice ad len cap] := fun x v hx => by
      rcases hA x with ⟨h, _⟩ | ⟨v', u, e1, _, hT, _⟩
      · rw [h] at hx; cases hx
      · rw [e1] at hx; cases hx; exact tree_form hT
    have node : ¬ (k = 2 ∧ (s n).isSome = true) → Calls Tryz.prog 66 #[.map (some b), .agg #[.int .i64 k, .string ⟨n.toArray⟩, v]] w (PutPost w (e + d + 1) ((k, n), ts.map (subT e f d))) := fun hno =>
      put_node d (e + d) (subT e f d) b m s hS k n ts w (fun x t ht W B' hB' hT hb => put_any e f s b m Bv d x t W B' hB' (Nat.le_trans hBv hb.size) hT (hM.below hb) (hA.on (hb.mono hBv)) (by have := flats_mem ht; omega)) v B hB h1 hr hM hno (by omega)
    show Calls Tryz.prog 66 #[.map (some b), .agg #[.int .i64 k, .string ⟨n.toArray⟩, v]] w (PutPost w (e + (d + 1)) (subT e f (d + 1) ((k, n), ts)))
    by_cases hk : k = 2
    · subst hk
      rcases hA n with ⟨e1, e2⟩ | ⟨u', u, e1, e2, hT, hlu⟩
      · rw [subT_free e2]
        exact node (by rw [e1]; simp)
      · rw [subT_var e2]
        obtain ⟨lk, ln, la, ll, lc, rfl⟩ := tree_form hT
        refine put_var b m s n v w h1 hM lk ln la ll lc e1 (by obtain ⟨ad, cap, hv⟩ := hr.len; exact ⟨ad, _, cap, hv⟩) (e + (d + 1)) (upN e u (d + 1)) fun U hU => ?_
        exact Calls.mono (anew_any e _ u U Bv (Nat.le_trans hBv hU.size) (hT.on (hU.mono hBv)) hlu) fun r w' hp => PutPost.upN hp (d + 1)
    · rw [subT_node hk]
      exact node fun h => hk h.1
end Go.Proofs.YtgdflaapgfpdeaaGreatDoor
