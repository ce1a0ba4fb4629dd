/- The program's put and anew: every tree, every map. Rows of nodes with rows put in the variables' places. Rows of nodes: how many trees they are, and what makes two rows one. Nothing of the program stands here. What makes two rows one: the steps, from the left, that find it or tell why there is nothing. Nothing of the program stands here. What makes two rows one: it does, and everything that does comes of it; where there is nothing, nothing does. Nothing of the program stands here. -/
import Derived.Test.YtikpipenhamdbaaMmx
import Derived.Test.YtikpipenhamdbaaOp
import Derived.Test.YtikpipenhamdbaaMax
import Derived.Test.YtikpipenhamdbaaMbx
namespace Go.Proofs.Ytikpipenhamdbaa
open Go.RowKit

/-- A tree counted as one of more levels. -/
def upN (e : Nat) (u : Tn e) : (d : Nat) → Tn (e + d)
  | 0 => u
  | d + 1 => up (e + d) (upN e u d)
/-- A node with what f says in its place, its arguments by r. -/
def subN {e d : Nat} (f : List UInt8 → Option (Tn e)) (r : Tn d → Tn (e + d)) (k : Int) (n : List UInt8) (ts : List (Tn d)) : Tn (e + (d + 1)) :=
  match (if k = 2 then f n else none) with
  | some u => upN e u (d + 1)
  | none => ((k, n), ts.map r)
/-- A tree with what f says in its variables' places. -/
def subT (e : Nat) (f : List UInt8 → Option (Tn e)) : (d : Nat) → Tn d → Tn (e + d)
  | 0, t => t.elim
  | d + 1, t => subN f (subT e f d) t.1.1 t.1.2 t.2
theorem subT_var {e : Nat} {f : List UInt8 → Option (Tn e)} {d : Nat} {n : List UInt8} {ts : List (Tn d)} {u : Tn e} (h : f n = some u) : subT e f (d + 1) ((2, n), ts) = upN e u (d + 1) := by
  show subN f (subT e f d) 2 n ts = _
  unfold subN
  rw [if_pos rfl, h]
theorem subT_free {e : Nat} {f : List UInt8 → Option (Tn e)} {d : Nat} {n : List UInt8} {ts : List (Tn d)} (h : f n = none) : subT e f (d + 1) ((2, n), ts) = ((2, n), ts.map (subT e f d)) := by
  show subN f (subT e f d) 2 n ts = _
  unfold subN
  rw [if_pos rfl, h]
theorem subT_node {e : Nat} {f : List UInt8 → Option (Tn e)} {d : Nat} {k : Int} {n : List UInt8} {ts : List (Tn d)} (h : k ≠ 2) : subT e f (d + 1) ((k, n), ts) = ((k, n), ts.map (subT e f d)) := by
  show subN f (subT e f d) k n ts = _
  unfold subN
  rw [if_neg h]
theorem TyO.up {w : World} {lo : Nat} : ∀ (d : Nat) (x : Value) (t : Tn d) (rws : List (Value × Nat)), TyO w lo d x t rws → TyO w lo (d + 1) x (up d t) rws
  | 0, _, _, _, h => h.elim
  | d + 1, x, ((k, n), ts), rws, ⟨v, hx, h1, h2, h⟩ => by
    have hl : (ts.map (Go.Proofs.Ytikpipenhamdbaa.up d)).length = ts.length := List.length_map _
    refine ⟨v, hx, h1, by show (ts.map (Go.Proofs.Ytikpipenhamdbaa.up d)).length < _; rw [hl]; exact h2, ?_⟩
    rcases h with ⟨h0, h⟩ | ⟨h0, es, rss, k1, k2, hown, hr, hj⟩
    · have h0 : ts = [] := h0
      subst h0
      exact .inl ⟨rfl, h⟩
    · refine .inr ⟨fun e => h0 (List.map_eq_nil_iff.1 e), es, rss, k1.trans hl.symm, k2.trans hl.symm, ?_, ?_, ?_⟩
      · show w.ownsRow lo 31 3 v (ts.map (Go.Proofs.Ytikpipenhamdbaa.up d)).length _
        rw [hl]; exact hown
      · show rws = (v, (ts.map (Go.Proofs.Ytikpipenhamdbaa.up d)).length) :: _
        rw [hl]; exact hr
      · intro j a b c
        have a : j < (ts.map (Go.Proofs.Ytikpipenhamdbaa.up d)).length := a
        have a' : j < ts.length := by rwa [hl] at a
        have := TyO.up d _ _ _ (hj j a' b c)
        have e1 : (ts.map (Go.Proofs.Ytikpipenhamdbaa.up d))[j] = Go.Proofs.Ytikpipenhamdbaa.up d ts[j] := List.getElem_map _
        show TyO w lo (d + 1) _ ((ts.map (Go.Proofs.Ytikpipenhamdbaa.up d))[j]) _
        rw [e1]
        exact this
theorem PutPost.up {w w' : World} {D : Nat} {t : Tn D} {r : Ending} (h : PutPost w D t r w') : PutPost w (D + 1) (up D t) r w' := by
  obtain ⟨h1, k, n, ad, len, cap, rws, h2, h3, h4⟩ := h
  exact ⟨h1, k, n, ad, len, cap, rws, h2, TyO.up _ _ _ _ h3, h4⟩
theorem PutPost.upN {w w' : World} {e : Nat} {u : Tn e} {r : Ending} (h : PutPost w e u r w') : ∀ d, PutPost w (e + d) (upN e u d) r w'
  | 0 => h
  | d + 1 => (PutPost.upN h d).up
theorem flats_mem {d : Nat} {t : Tn d} {ts : List (Tn d)} (h : t ∈ ts) : (flat d t).length ≤ (flats d ts).length := by
  induction ts with
  | nil => cases h
  | cons a r ih =>
    rw [flats_cons, List.length_append]
    rcases List.mem_cons.1 h with rfl | h
    · omega
    · have := ih h; omega
/-- put of an empty map copies. -/
theorem put_copy : ∀ (d : Nat) (x : Value) (t : Tn d) (w : World) (B b : Nat), B ≤ w.heap.size → TyAt w B d x t → Mv w b 0 (fun _ => none) → (flat d t).length ≤ 100000 → Calls Try.prog 23 #[.map (some b), x] w (PutPost w d t)
  | 0, _, _, _, _, _, _, h, _, _ => h.elim
  | d + 1, x, ((k, n), ts), w, B, b, hB, ⟨v, hx, h1, h2, hr⟩, hM, hl => by
    subst hx
    rw [flat_succ, List.length_cons] at hl
    have hlen : ts.length ≤ (flats d ts).length := flats_pos d ts
    have := put_node d d id b 0 (fun _ => none) (fun _ _ h => by cases h) k n ts w (fun x t ht W B' hB' hT hb => put_copy d x t W B' b hB' hT (hM.below hb) (by have := flats_mem ht; omega)) v B hB h1 hr hM (fun h => by simp at h) (by omega)
    rw [List.map_id] at this
    exact this
theorem anew_any (d : Nat) (x : Value) (t : Tn d) (w : World) (B : Nat) (hB : B ≤ w.heap.size) (h : TyAt w B d x t) (hl : (flat d t).length ≤ 100000) : Calls Try.prog 40 #[x] w (PutPost w d t) :=
  anew_of d d x t t w B h fun b U hb hM => put_copy d x t U B b (Nat.le_trans hB hb.size) (h.on (hb.mono hB)) hM hl
/-- What the map holds and what it says agree: values are trees that lie below Bv. -/
def Agr (w : World) (Bv e : Nat) (s : List UInt8 → Option Value) (f : List UInt8 → Option (Tn e)) : Prop :=
  ∀ n, (s n = none ∧ f n = none) ∨ ∃ v u, s n = some v ∧ f n = some u ∧ TyAt w Bv e v u ∧ (flat e u).length ≤ 100000
theorem Agr.on {w w' : World} {Bv e : Nat} {s : List UInt8 → Option Value} {f : List UInt8 → Option (Tn e)} (h : Agr w Bv e s f) (hb : Below Bv w w') : Agr w' Bv e s f := fun n => by
  rcases h n with h | ⟨v, u, h1, h2, h3, h4⟩
  · exact .inl h
  · exact .inr ⟨v, u, h1, h2, h3.on hb, h4⟩
theorem tree_form {w : World} {B d : Nat} {x : Value} {t : Tn d} (h : TyAt w B d x t) : ∃ (k : Int) (n : ByteArray) (ad : Option Addr) (len cap : Nat), x = .agg #[.int .i64 k, .string n, .slice ad len cap] := by
  cases d with
  | zero => exact h.elim
  | succ d =>
    obtain ⟨v, hx, _, _, hr⟩ := h
    obtain ⟨ad, cap, rfl⟩ := hr.len
    exact ⟨_, _, _, _, _, hx⟩
theorem put_any (e : Nat) (f : List UInt8 → Option (Tn e)) (s : List UInt8 → Option Value) (b m Bv : Nat) : ∀ (d : Nat) (x : Value) (t : Tn d) (w : World) (B : Nat), B ≤ w.heap.size → Bv ≤ w.heap.size → TyAt w B d x t → Mv w b m s → Agr w Bv e s f → (flat d t).length ≤ 100000 →
    Calls Try.prog 23 #[.map (some b), x] w (PutPost w (e + d) (subT e f d t))
  | 0, _, _, _, _, _, _, h, _, _, _ => h.elim
  | d + 1, x, ((k, n), ts), w, B, hB, hBv, ⟨v, hx, h1, h2, hr⟩, hM, hA, hl => by
    subst hx
    rw [flat_succ, List.length_cons] at hl
    have hlen : ts.length ≤ (flats d ts).length := flats_pos d ts
    have hS : ∀ x v, s x = some v → ∃ (k : Int) (n : ByteArray) (ad : Option Addr) (len cap : Nat), v = .agg #[.int .i64 k, .string n, .slice ad len cap] := fun x v hx => by
      rcases hA x with ⟨h, _⟩ | ⟨v', u, e1, _, hT, _⟩
      · rw [h] at hx; cases hx
      · rw [e1] at hx; cases hx; exact tree_form hT
    have node : ¬ (k = 2 ∧ (s n).isSome = true) → Calls Try.prog 23 #[.map (some b), .agg #[.int .i64 k, .string ⟨n.toArray⟩, v]] w (PutPost w (e + d + 1) ((k, n), ts.map (subT e f d))) := fun hno =>
      put_node d (e + d) (subT e f d) b m s hS k n ts w (fun x t ht W B' hB' hT hb => put_any e f s b m Bv d x t W B' hB' (Nat.le_trans hBv hb.size) hT (hM.below hb) (hA.on (hb.mono hBv)) (by have := flats_mem ht; omega)) v B hB h1 hr hM hno (by omega)
    show Calls Try.prog 23 #[.map (some b), .agg #[.int .i64 k, .string ⟨n.toArray⟩, v]] w (PutPost w (e + (d + 1)) (subT e f (d + 1) ((k, n), ts)))
    by_cases hk : k = 2
    · subst hk
      rcases hA n with ⟨e1, e2⟩ | ⟨u', u, e1, e2, hT, hlu⟩
      · rw [subT_free e2]
        exact node (by rw [e1]; simp)
      · rw [subT_var e2]
        obtain ⟨lk, ln, la, ll, lc, rfl⟩ := tree_form hT
        refine put_var b m s n v w h1 hM lk ln la ll lc e1 (by obtain ⟨ad, cap, hv⟩ := hr.len; exact ⟨ad, _, cap, hv⟩) (e + (d + 1)) (upN e u (d + 1)) fun U hU => ?_
        exact Calls.mono (anew_any e _ u U Bv (Nat.le_trans hBv hU.size) (hT.on (hU.mono hBv)) hlu) fun r w' hp => PutPost.upN hp (d + 1)
    · rw [subT_node hk]
      exact node fun h => hk h.1
end Go.Proofs.Ytikpipenhamdbaa

namespace Go.Proofs.Ytikpipenhamdbaa

theorem flat_upN (e : Nat) (u : Tn e) : ∀ d, flat (e + d) (upN e u d) = flat e u
  | 0 => rfl
  | d + 1 => (flat_up _ _).trans (flat_upN e u d)
/-- A row with what θ says in its variables' places. -/
def subF (θ : Sb) (L : List Nd) : List Nd := L.flatMap fun nd => if nd.1 = 2 then (θ nd.2.1).getD [nd] else [nd]
theorem subF_nil (θ : Sb) : subF θ [] = [] := rfl
theorem subF_cons (θ : Sb) (nd : Nd) (L : List Nd) : subF θ (nd :: L) = (if nd.1 = 2 then (θ nd.2.1).getD [nd] else [nd]) ++ subF θ L := rfl
theorem subF_app (θ : Sb) (A L : List Nd) : subF θ (A ++ L) = subF θ A ++ subF θ L := by unfold subF; rw [List.flatMap_append]
theorem subF_var (θ : Sb) (n : List UInt8) (l : Nat) : subF θ [(2, n, l)] = (θ n).getD [(2, n, l)] := by
  rw [subF_cons, subF_nil, List.append_nil]
  exact if_pos rfl
theorem sf_var {d : Nat} {n : List UInt8} {ts : List (Tn d)} (h : formB (d + 1) ((2, n), ts) = true) : ts = [] := by
  rw [form_succ, Bool.and_eq_true] at h
  have h := h.1
  simp [okB] at h
  exact h.2
theorem sf_args {d : Nat} {k : Int} {n : List UInt8} {ts : List (Tn d)} (h : formB (d + 1) ((k, n), ts) = true) : ∀ a ∈ ts, formB d a = true := by
  rw [form_succ, Bool.and_eq_true, List.all_eq_true] at h
  exact h.2
/-- The nodes of a tree with trees put in. -/
theorem sub_flat (e : Nat) (f : List UInt8 → Option (Tn e)) : ∀ (d : Nat) (t : Tn d), formB d t = true → flat (e + d) (subT e f d t) = subF (fun n => (f n).map (flat e)) (flat d t)
  | 0, t, _ => t.elim
  | d + 1, ((k, n), ts), h => by
    by_cases hk : k = 2
    · subst hk
      have h0 := sf_var h
      subst h0
      rw [flat_succ, flats_nil]
      show _ = subF _ [(2, n, 0)]
      rw [subF_var]
      cases hf : f n with
      | none =>
        rw [subT_free hf]
        show flat (e + d + 1) ((2, n), []) = _
        rw [flat_succ, flats_nil]
        rfl
      | some u =>
        rw [subT_var hf]
        exact flat_upN e u (d + 1)
    · rw [subT_node hk]
      show flat (e + d + 1) ((k, n), ts.map (subT e f d)) = _
      rw [flat_succ, flat_succ, List.length_map, subF_cons, if_neg hk]
      have : ∀ ts : List (Tn d), (∀ a ∈ ts, formB d a = true) → flats (e + d) (ts.map (subT e f d)) = subF (fun n => (f n).map (flat e)) (flats d ts) := fun ts => by
        induction ts with
        | nil => intro _; rfl
        | cons a r ih =>
          intro ha
          rw [List.map_cons, flats_cons, flats_cons, subF_app, sub_flat e f d a (ha a (by simp)), ih fun b hb => ha b (by simp [hb])]
      rw [this ts (sf_args h)]
      rfl
/-- How many nodes more a name brings. -/
def lessN (θ : Sb) (n : List UInt8) : Nat := match θ n with | some r => r.length - 1 | none => 0
/-- How many nodes come. -/
theorem sub_len (θ : Sb) (hθ : ∀ n r, θ n = some r → 0 < r.length) : ∀ (d : Nat) (t : Tn d), formB d t = true → (subF θ (flat d t)).length = (flat d t).length + ((namesT d t).map (lessN θ)).sum
  | 0, t, _ => t.elim
  | d + 1, ((k, n), ts), hf => by
    by_cases hk : k = 2
    · subst hk
      have h0 := sf_var hf
      subst h0
      rw [names_var]
      show (subF θ [(2, n, 0)]).length = [((2 : Int), n, 0)].length + _
      rw [subF_var]
      cases e : θ n with
      | none => simp [lessN, e]
      | some r =>
        have := hθ n r e
        rw [List.map_cons, List.map_nil, List.sum_cons, List.sum_nil, lessN, e]
        show r.length = 1 + (r.length - 1 + 0)
        omega
    · rw [names_node _ _ _ _ hk, flat_succ, subF_cons, if_neg hk]
      have key : ∀ ts : List (Tn d), (∀ a ∈ ts, formB d a = true) → (subF θ (flats d ts)).length = (flats d ts).length + ((ts.flatMap (namesT d)).map (lessN θ)).sum := fun ts => by
        induction ts with
        | nil => intro _; rfl
        | cons a r ih =>
          intro ha
          rw [flats_cons, subF_app, List.length_append, List.length_append, List.flatMap_cons, List.map_append, List.sum_append, sub_len θ hθ d a (ha a (by simp)), ih fun b hb => ha b (by simp [hb])]
          omega
      have := key ts (sf_args hf)
      simp only [List.length_append, List.length_cons, List.length_nil]
      omega
end Go.Proofs.Ytikpipenhamdbaa

namespace Go.Proofs.Ytikpipenhamdbaa

/-- Is a row just so many trees? -/
def eats : Nat → List Nd → Bool
  | 0, [] => true
  | 0, _ :: _ => false
  | _ + 1, [] => false
  | k + 1, nd :: r => eats (k + nd.2.2) r
theorem eats_app : ∀ (a : List Nd) (k l : Nat) (b : List Nd), eats k a = true → eats l b = true → eats (k + l) (a ++ b) = true
  | [], 0, l, b, _, h => by simpa using h
  | [], _ + 1, _, _, h, _ => by simp [eats] at h
  | _ :: _, 0, _, _, h, _ => by simp [eats] at h
  | nd :: a, k + 1, l, b, h, h' => by
    have := eats_app a (k + nd.2.2) l b h h'
    rw [Nat.add_right_comm k 1 l]
    show eats (k + l + nd.2.2) (a ++ b) = true
    rw [Nat.add_right_comm k l nd.2.2]
    exact this
theorem eats_cut : ∀ (r : List Nd) (k l : Nat), eats (k + l) r = true → ∃ a b, r = a ++ b ∧ eats k a = true ∧ eats l b = true
  | r, 0, l, h => ⟨[], r, rfl, rfl, by simpa using h⟩
  | [], k + 1, l, h => by
    rw [Nat.add_right_comm k 1 l] at h
    simp [eats] at h
  | nd :: r, k + 1, l, h => by
    rw [Nat.add_right_comm k 1 l] at h
    have h : eats (k + l + nd.2.2) r = true := h
    rw [Nat.add_right_comm k l nd.2.2] at h
    obtain ⟨a, b, e, h1, h2⟩ := eats_cut r _ _ h
    exact ⟨nd :: a, b, by rw [e]; rfl, h1, h2⟩
theorem eats_inj : ∀ (a a' : List Nd) (k : Nat) (b b' : List Nd), eats k a = true → eats k a' = true → a ++ b = a' ++ b' → a = a' ∧ b = b'
  | [], [], _, _, _, _, _, h => ⟨rfl, h⟩
  | [], nd :: a', k, _, _, h1, h2, _ => by cases k <;> simp [eats] at h1 h2
  | nd :: a, [], k, _, _, h1, h2, _ => by cases k <;> simp [eats] at h1 h2
  | nd :: a, nd' :: a', 0, _, _, h1, _, _ => by simp [eats] at h1
  | nd :: a, nd' :: a', k + 1, b, b', h1, h2, h => by
    injection h with e1 e2
    subst e1
    obtain ⟨e3, e4⟩ := eats_inj a a' _ b b' h1 h2 e2
    exact ⟨by rw [e3], e4⟩
theorem eats_pos {a : List Nd} {k : Nat} (h : eats (k + 1) a = true) : 0 < a.length := by
  cases a with
  | nil => simp [eats] at h
  | cons => simp
theorem eats_flats (d : Nat) (ih : ∀ t : Tn d, eats 1 (flat d t) = true) : ∀ ts : List (Tn d), eats ts.length (flats d ts) = true
  | [] => rfl
  | t :: ts => by
    rw [flats_cons, List.length_cons, Nat.add_comm]
    exact eats_app _ _ _ _ (ih t) (eats_flats d ih ts)
theorem eats_flat : ∀ (d : Nat) (t : Tn d), eats 1 (flat d t) = true
  | 0, t => t.elim
  | d + 1, ((k, n), ts) => by
    rw [flat_succ]
    show eats (0 + ts.length) (flats d ts) = true
    rw [Nat.zero_add]
    exact eats_flats d (eats_flat d) ts
/-- Variables have no arguments. -/
def vok (r : List Nd) : Prop := ∀ nd ∈ r, nd.1 = 2 → nd.2.2 = 0
theorem vok_nil : vok [] := fun _ h => by simp at h
theorem vok_cons {nd : Nd} {r : List Nd} : vok (nd :: r) ↔ (nd.1 = 2 → nd.2.2 = 0) ∧ vok r := by
  unfold vok
  simp
theorem vok_app {a b : List Nd} : vok (a ++ b) ↔ vok a ∧ vok b := by
  unfold vok
  simp only [List.mem_append]
  exact ⟨fun h => ⟨fun nd hn => h nd (.inl hn), fun nd hn => h nd (.inr hn)⟩, fun h nd hn => hn.elim (h.1 nd) (h.2 nd)⟩
theorem var_form {nd : Nd} (h2 : nd.1 = 2) (h0 : nd.2.2 = 0) : nd = (2, nd.2.1, 0) := by
  obtain ⟨a, b, c⟩ := nd
  simp only at h2 h0
  rw [h2, h0]
/-- What stands for variables is a tree each. -/
def sok (θ : Sb) : Prop := ∀ n r, θ n = some r → eats 1 r = true ∧ vok r
/-- What θ makes of a variable. -/
def vF (θ : Sb) (n : List UInt8) : List Nd := (θ n).getD [(2, n, 0)]
theorem subF_v (θ : Sb) (n : List UInt8) : subF θ [(2, n, 0)] = vF θ n := subF_var θ n 0
theorem vF_ok {θ : Sb} (h : sok θ) (n : List UInt8) : eats 1 (vF θ n) = true ∧ vok (vF θ n) := by
  unfold vF
  cases e : θ n with
  | none => exact ⟨rfl, by unfold vok; simp⟩
  | some r => exact h n r e
theorem subF_node (θ : Sb) {nd : Nd} (h : nd.1 ≠ 2) (r : List Nd) : subF θ (nd :: r) = nd :: subF θ r := by
  rw [subF_cons, if_neg h]
  rfl
theorem subF_vc (θ : Sb) (n : List UInt8) (r : List Nd) : subF θ ((2, n, 0) :: r) = vF θ n ++ subF θ r := by
  rw [subF_cons, if_pos rfl]
  rfl
theorem sub_eats {θ : Sb} (hθ : sok θ) : ∀ (r : List Nd) (k : Nat), vok r → eats k r = true → eats k (subF θ r) = true
  | [], _, _, h => h
  | nd :: r, 0, _, h => by simp [eats] at h
  | nd :: r, k + 1, hv, h => by
    obtain ⟨hv1, hv2⟩ := vok_cons.1 hv
    by_cases h2 : nd.1 = 2
    · have e := var_form h2 (hv1 h2)
      have h : eats (k + nd.2.2) r = true := h
      rw [hv1 h2, Nat.add_zero] at h
      rw [e, subF_vc, Nat.add_comm]
      exact eats_app _ _ _ _ (vF_ok hθ _).1 (sub_eats hθ r k hv2 h)
    · rw [subF_node θ h2]
      exact sub_eats hθ r _ hv2 h
theorem sub_vok {θ : Sb} (hθ : sok θ) : ∀ (r : List Nd), vok r → vok (subF θ r)
  | [], _ => vok_nil
  | nd :: r, hv => by
    obtain ⟨hv1, hv2⟩ := vok_cons.1 hv
    by_cases h2 : nd.1 = 2
    · rw [var_form h2 (hv1 h2), subF_vc]
      exact vok_app.2 ⟨(vF_ok hθ _).2, sub_vok hθ r hv2⟩
    · rw [subF_node θ h2]
      exact vok_cons.2 ⟨hv1, sub_vok hθ r hv2⟩
/-- One variable alone. -/
def one (x : List UInt8) (u : List Nd) : Sb := fun n => if n = x then some u else none
theorem one_ok {x : List UInt8} {u : List Nd} (h : eats 1 u = true) (hv : vok u) : sok (one x u) := fun n r e => by
  unfold one at e
  split at e
  · injection e with e
    subst e
    exact ⟨h, hv⟩
  · cases e
theorem vF_one_self (x : List UInt8) (u : List Nd) : vF (one x u) x = u := by simp [vF, one]
theorem vF_one_other {x n : List UInt8} (u : List Nd) (h : n ≠ x) : vF (one x u) n = [(2, n, 0)] := by simp [vF, one, h]
theorem sub_one_free {x : List UInt8} {u : List Nd} : ∀ r : List Nd, vok r → (2, x, 0) ∉ r → subF (one x u) r = r
  | [], _, _ => rfl
  | nd :: r, hv, h => by
    obtain ⟨hv1, hv2⟩ := vok_cons.1 hv
    have ih := sub_one_free (u := u) r hv2 (fun q => h (List.mem_cons_of_mem _ q))
    by_cases h2 : nd.1 = 2
    · have e := var_form h2 (hv1 h2)
      rw [e, subF_vc, vF_one_other u (fun q => h (by rw [e, q]; exact List.mem_cons_self)), ih]
      rfl
    · rw [subF_node _ h2, ih]
/-- θ says of x what it says of u: then x may give place to u. -/
theorem sub_one {θ : Sb} {x : List UInt8} {u : List Nd} (h : vF θ x = subF θ u) : ∀ r : List Nd, vok r → subF θ (subF (one x u) r) = subF θ r
  | [], _ => rfl
  | nd :: r, hv => by
    obtain ⟨hv1, hv2⟩ := vok_cons.1 hv
    have ih := sub_one h r hv2
    by_cases h2 : nd.1 = 2
    · have e := var_form h2 (hv1 h2)
      rw [e, subF_vc, subF_app, ih, subF_vc]
      congr 1
      by_cases q : nd.2.1 = x
      · rw [q, vF_one_self, h]
      · rw [vF_one_other u q, subF_v]
    · rw [subF_node _ h2, subF_node _ h2, subF_node _ h2, ih]
theorem one_gone {x : List UInt8} {u : List Nd} (hu : (2, x, 0) ∉ u) : ∀ r : List Nd, vok r → (2, x, 0) ∉ subF (one x u) r
  | [], _ => by simp [subF_nil]
  | nd :: r, hv => by
    obtain ⟨hv1, hv2⟩ := vok_cons.1 hv
    have ih := one_gone hu r hv2
    by_cases h2 : nd.1 = 2
    · have e := var_form h2 (hv1 h2)
      rw [e, subF_vc, List.mem_append]
      rintro (q | q)
      · by_cases hx : nd.2.1 = x
        · rw [hx, vF_one_self] at q
          exact hu q
        · rw [vF_one_other u hx] at q
          simp at q
          exact hx q.symm
      · exact ih q
    · rw [subF_node _ h2, List.mem_cons]
      rintro (q | q)
      · rw [← q] at h2
        exact h2 rfl
      · exact ih q
theorem one_vars {x n : List UInt8} {u : List Nd} : ∀ r : List Nd, vok r → (2, n, 0) ∈ subF (one x u) r → (2, n, 0) ∈ r ∨ (2, n, 0) ∈ u
  | [], _, h => by simp [subF_nil] at h
  | nd :: r, hv, h => by
    obtain ⟨hv1, hv2⟩ := vok_cons.1 hv
    by_cases h2 : nd.1 = 2
    · have e := var_form h2 (hv1 h2)
      rw [e, subF_vc, List.mem_append] at h
      rcases h with h | h
      · by_cases hx : nd.2.1 = x
        · rw [hx, vF_one_self] at h
          exact .inr h
        · rw [vF_one_other u hx] at h
          simp at h
          exact .inl (by rw [e, h]; exact List.mem_cons_self)
      · exact (one_vars r hv2 h).imp (fun q => List.mem_cons_of_mem _ q) id
    · rw [subF_node _ h2, List.mem_cons] at h
      rcases h with h | h
      · exact .inl (by rw [h]; exact List.mem_cons_self)
      · exact (one_vars r hv2 h).imp (fun q => List.mem_cons_of_mem _ q) id
/-! What makes two rows one. -/
theorem un_var {θ : Sb} (hθ : sok θ) {x : List UInt8} {u r s : List Nd} (hu : eats 1 u = true) (hv : vok u) : subF θ ((2, x, 0) :: r) = subF θ (u ++ s) ↔ vF θ x = subF θ u ∧ subF θ r = subF θ s := by
  rw [subF_vc, subF_app]
  constructor
  · intro h
    exact eats_inj _ _ 1 _ _ (vF_ok hθ x).1 (sub_eats hθ u 1 hv hu) h
  · rintro ⟨h1, h2⟩
    rw [h1, h2]
theorem sub_long {θ : Sb} (hθ : sok θ) : ∀ r : List Nd, vok r → r.length ≤ (subF θ r).length
  | [], _ => Nat.le_refl _
  | nd :: r, hv => by
    obtain ⟨hv1, hv2⟩ := vok_cons.1 hv
    have ih := sub_long hθ r hv2
    by_cases h2 : nd.1 = 2
    · rw [var_form h2 (hv1 h2), subF_vc, List.length_append, List.length_cons]
      have := eats_pos (vF_ok hθ nd.2.1).1
      omega
    · rw [subF_node _ h2]
      simpa using ih
theorem un_occurs {θ : Sb} (hθ : sok θ) {x : List UInt8} : ∀ {u : List Nd}, vok u → (2, x, 0) ∈ u → (vF θ x).length + u.length ≤ (subF θ u).length + 1
  | [], _, h => by simp at h
  | nd :: u, hv, h => by
    obtain ⟨hv1, hv2⟩ := vok_cons.1 hv
    have hl := sub_long hθ u hv2
    by_cases h2 : nd.1 = 2
    · rw [var_form h2 (hv1 h2), subF_vc, List.length_append, List.length_cons]
      have hp := eats_pos (vF_ok hθ nd.2.1).1
      by_cases q : nd.2.1 = x
      · rw [q]
        omega
      · have hm : (2, x, 0) ∈ u := by
          rcases List.mem_cons.1 h with e | e
          · rw [← e] at q
            exact absurd rfl q
          · exact e
        have := un_occurs hθ hv2 hm
        omega
    · rw [subF_node _ h2, List.length_cons, List.length_cons]
      have hm : (2, x, 0) ∈ u := by
        rcases List.mem_cons.1 h with e | e
        · rw [← e] at h2
          exact absurd rfl h2
        · exact e
      have := un_occurs hθ hv2 hm
      omega
theorem un_never {θ : Sb} (hθ : sok θ) {x : List UInt8} {u : List Nd} (hv : vok u) (hm : (2, x, 0) ∈ u) (h1 : 1 < u.length) : vF θ x ≠ subF θ u := fun h => by
  have := un_occurs hθ hv hm
  rw [h] at this
  omega
theorem un_clash {θ : Sb} {a b : Nd} {r s : List Nd} (ha : a.1 ≠ 2) (hb : b.1 ≠ 2) (hab : a ≠ b) : subF θ (a :: r) ≠ subF θ (b :: s) := by
  rw [subF_node _ ha, subF_node _ hb]
  intro h
  injection h with h _
  exact hab h
theorem un_same {θ : Sb} {p r s : List Nd} : subF θ (p ++ r) = subF θ (p ++ s) ↔ subF θ r = subF θ s := by
  rw [subF_app, subF_app]
  exact ⟨fun h => List.append_cancel_left h, fun h => by rw [h]⟩
end Go.Proofs.Ytikpipenhamdbaa

namespace Go.Proofs.Ytikpipenhamdbaa

/-- The first of a row's trees, and the rest: so many trees. -/
def cutF : Nat → List Nd → List Nd × List Nd
  | 0, r => ([], r)
  | _ + 1, [] => ([], [])
  | k + 1, nd :: r => (nd :: (cutF (k + nd.2.2) r).1, (cutF (k + nd.2.2) r).2)
theorem cut_app : ∀ (a : List Nd) (k : Nat) (b : List Nd), eats k a = true → cutF k (a ++ b) = (a, b)
  | [], 0, b, _ => by cases b <;> rfl
  | [], _ + 1, _, h => by simp [eats] at h
  | _ :: _, 0, _, h => by simp [eats] at h
  | nd :: a, k + 1, b, h => by
    have := cut_app a (k + nd.2.2) b h
    show (nd :: (cutF (k + nd.2.2) (a ++ b)).1, (cutF (k + nd.2.2) (a ++ b)).2) = _
    rw [this]
/-- What was bound, one by one, in a row. -/
def subL : List (List UInt8 × List Nd) → List Nd → List Nd
  | [], r => r
  | b :: l, r => subL l (subF (one b.1 b.2) r)
theorem subL_app : ∀ (l : List (List UInt8 × List Nd)) (a b : List Nd), subL l (a ++ b) = subL l a ++ subL l b
  | [], _, _ => rfl
  | c :: l, a, b => by
    show subL l (subF _ (a ++ b)) = _
    rw [subF_app, subL_app l]
    rfl
theorem subL_nil (l : List (List UInt8 × List Nd)) : subL l [] = [] := by
  induction l with
  | nil => rfl
  | cons b l ih => exact ih
theorem subL_node {nd : Nd} (h : nd.1 ≠ 2) : ∀ (l : List (List UInt8 × List Nd)) (r : List Nd), subL l (nd :: r) = nd :: subL l r
  | [], _ => rfl
  | c :: l, r => by
    show subL l (subF _ (nd :: r)) = _
    rw [subF_node _ h, subL_node h l]
    rfl
/-- The answer of a step. -/
abbrev Uans := Sum Int (List (List UInt8 × List Nd))
def putU (b : List UInt8 × List Nd) : Uans → Uans
  | .inl c => .inl c
  | .inr l => .inr (b :: l)
/-- What makes two rows one (50: nothing does; 51: something would stand within itself). -/
def uniF : Nat → List Nd → List Nd → Option Uans
  | 0, _, _ => none
  | _ + 1, [], _ => some (.inr [])
  | _ + 1, _ :: _, [] => some (.inr [])
  | f + 1, a :: r, b :: s =>
    if a = b then uniF f r s
    else if a.1 = 2 then
      if b.1 = 2 then
        if b.2.1 < a.2.1 then (uniF f (subF (one a.2.1 [b]) r) (subF (one a.2.1 [b]) s)).map (putU (a.2.1, [b]))
        else (uniF f (subF (one b.2.1 [a]) r) (subF (one b.2.1 [a]) s)).map (putU (b.2.1, [a]))
      else if a ∈ (cutF 1 (b :: s)).1 then some (.inl 51)
      else (uniF f (subF (one a.2.1 (cutF 1 (b :: s)).1) r) (subF (one a.2.1 (cutF 1 (b :: s)).1) (cutF 1 (b :: s)).2)).map (putU (a.2.1, (cutF 1 (b :: s)).1))
    else if b.1 = 2 then
      if b ∈ (cutF 1 (a :: r)).1 then some (.inl 51)
      else (uniF f (subF (one b.2.1 (cutF 1 (a :: r)).1) (cutF 1 (a :: r)).2) (subF (one b.2.1 (cutF 1 (a :: r)).1) s)).map (putU (b.2.1, (cutF 1 (a :: r)).1))
    else some (.inl 50)
theorem uniF_more : ∀ (f : Nat) (r s : List Nd) (x : Uans), uniF f r s = some x → uniF (f + 1) r s = some x
  | 0, _, _, _, h => by cases h
  | _ + 1, [], s, x, h => by cases s <;> exact h
  | _ + 1, _ :: _, [], x, h => h
  | f + 1, a :: r, b :: s, x, h => by
    have key : ∀ (r s : List Nd) (c : List UInt8 × List Nd) (x : Uans), (uniF f r s).map (putU c) = some x → (uniF (f + 1) r s).map (putU c) = some x := fun r s c x h => by
      obtain ⟨y, h1, h2⟩ := Option.map_eq_some_iff.1 h
      rw [uniF_more f r s y h1]
      exact congrArg some h2
    rw [uniF] at h ⊢
    split
    · rename_i h1; rw [if_pos h1] at h; exact uniF_more f _ _ _ h
    · rename_i h1
      rw [if_neg h1] at h
      split
      · rename_i h2
        rw [if_pos h2] at h
        split
        · rename_i h3
          rw [if_pos h3] at h
          split
          · rename_i h4; rw [if_pos h4] at h; exact key _ _ _ _ h
          · rename_i h4; rw [if_neg h4] at h; exact key _ _ _ _ h
        · rename_i h3
          rw [if_neg h3] at h
          split
          · rename_i h4; rw [if_pos h4] at h; exact h
          · rename_i h4; rw [if_neg h4] at h; exact key _ _ _ _ h
      · rename_i h2
        rw [if_neg h2] at h
        split
        · rename_i h3
          rw [if_pos h3] at h
          split
          · rename_i h4; rw [if_pos h4] at h; exact h
          · rename_i h4; rw [if_neg h4] at h; exact key _ _ _ _ h
        · rename_i h3
          rw [if_neg h3] at h
          exact h
/-- The answer, however many steps it takes. -/
def Uni (r s : List Nd) (x : Uans) : Prop := ∃ f, uniF f r s = some x
theorem uniF_mono {f : Nat} {r s : List Nd} {x : Uans} (h : uniF f r s = some x) : ∀ k, uniF (f + k) r s = some x
  | 0 => h
  | k + 1 => uniF_more _ _ _ _ (uniF_mono h k)
theorem Uni.one {r s : List Nd} {x y : Uans} (h : Uni r s x) (h' : Uni r s y) : x = y := by
  obtain ⟨f, h⟩ := h
  obtain ⟨g, h'⟩ := h'
  have h1 := uniF_mono h g
  have h2 := uniF_mono h' f
  rw [Nat.add_comm] at h2
  rw [h1] at h2
  exact Option.some.inj h2
/-! The steps. -/
theorem Uni.nil (s : List Nd) : Uni [] s (.inr []) := ⟨1, by cases s <;> rfl⟩
theorem Uni.head {a : Nd} {r s : List Nd} {x : Uans} (h : Uni r s x) : Uni (a :: r) (a :: s) x := by
  obtain ⟨f, h⟩ := h
  exact ⟨f + 1, by rw [uniF, if_pos rfl]; exact h⟩
theorem Uni.same {r s : List Nd} {x : Uans} (h : Uni r s x) : ∀ p : List Nd, Uni (p ++ r) (p ++ s) x
  | [] => h
  | _ :: p => Uni.head (Uni.same h p)
theorem Uni.vars {m n : List UInt8} {r s : List Nd} {x : Uans} (hmn : n < m) (h : Uni (subF (Go.Proofs.Ytikpipenhamdbaa.one m [(2, n, 0)]) r) (subF (Go.Proofs.Ytikpipenhamdbaa.one m [(2, n, 0)]) s) x) : Uni ((2, m, 0) :: r) ((2, n, 0) :: s) (putU (m, [(2, n, 0)]) x) := by
  obtain ⟨f, h⟩ := h
  refine ⟨f + 1, ?_⟩
  have hne : ((2, m, 0) : Nd) ≠ (2, n, 0) := fun e => by
    injection e with _ e
    injection e with e _
    subst e
    exact List.lt_irrefl _ hmn
  rw [uniF, if_neg hne, if_pos rfl, if_pos rfl, if_pos hmn, h]
  rfl
theorem Uni.vars' {m n : List UInt8} {r s : List Nd} {x : Uans} (hne : m ≠ n) (hmn : ¬ n < m) (h : Uni (subF (Go.Proofs.Ytikpipenhamdbaa.one n [(2, m, 0)]) r) (subF (Go.Proofs.Ytikpipenhamdbaa.one n [(2, m, 0)]) s) x) : Uni ((2, m, 0) :: r) ((2, n, 0) :: s) (putU (n, [(2, m, 0)]) x) := by
  obtain ⟨f, h⟩ := h
  refine ⟨f + 1, ?_⟩
  have hne : ((2, m, 0) : Nd) ≠ (2, n, 0) := fun e => by
    injection e with _ e
    injection e with e _
    exact hne e
  rw [uniF, if_neg hne, if_pos rfl, if_pos rfl, if_neg hmn, h]
  rfl
/-- A tree that is no variable. -/
def noVar (u : List Nd) : Prop := ∃ b v, u = b :: v ∧ b.1 ≠ 2
theorem Uni.bind {n : List UInt8} {u r s : List Nd} {x : Uans} (hu : eats 1 u = true) (hn : noVar u) (ho : (2, n, 0) ∉ u) (h : Uni (subF (Go.Proofs.Ytikpipenhamdbaa.one n u) r) (subF (Go.Proofs.Ytikpipenhamdbaa.one n u) s) x) : Uni ((2, n, 0) :: r) (u ++ s) (putU (n, u) x) := by
  obtain ⟨f, h⟩ := h
  obtain ⟨b, v, rfl, hb⟩ := hn
  have hc := cut_app (b :: v) 1 s hu
  refine ⟨f + 1, ?_⟩
  rw [List.cons_append] at hc ⊢
  rw [uniF, if_neg (fun e => hb (by rw [← e])), if_pos rfl, if_neg hb, hc, if_neg ho, h]
  rfl
theorem Uni.bind' {n : List UInt8} {u r s : List Nd} {x : Uans} (hu : eats 1 u = true) (hn : noVar u) (ho : (2, n, 0) ∉ u) (h : Uni (subF (Go.Proofs.Ytikpipenhamdbaa.one n u) r) (subF (Go.Proofs.Ytikpipenhamdbaa.one n u) s) x) : Uni (u ++ r) ((2, n, 0) :: s) (putU (n, u) x) := by
  obtain ⟨f, h⟩ := h
  obtain ⟨b, v, rfl, hb⟩ := hn
  have hc := cut_app (b :: v) 1 r hu
  refine ⟨f + 1, ?_⟩
  rw [List.cons_append] at hc ⊢
  rw [uniF, if_neg (fun e => hb (by rw [e])), if_neg hb, if_pos rfl, hc, if_neg ho, h]
  rfl
theorem Uni.occurs {n : List UInt8} {u r s : List Nd} (hu : eats 1 u = true) (hn : noVar u) (ho : (2, n, 0) ∈ u) : Uni ((2, n, 0) :: r) (u ++ s) (.inl 51) := by
  obtain ⟨b, v, rfl, hb⟩ := hn
  have hc := cut_app (b :: v) 1 s hu
  refine ⟨1, ?_⟩
  rw [List.cons_append] at hc ⊢
  rw [uniF, if_neg (fun e => hb (by rw [← e])), if_pos rfl, if_neg hb, hc, if_pos ho]
theorem Uni.occurs' {n : List UInt8} {u r s : List Nd} (hu : eats 1 u = true) (hn : noVar u) (ho : (2, n, 0) ∈ u) : Uni (u ++ r) ((2, n, 0) :: s) (.inl 51) := by
  obtain ⟨b, v, rfl, hb⟩ := hn
  have hc := cut_app (b :: v) 1 r hu
  refine ⟨1, ?_⟩
  rw [List.cons_append] at hc ⊢
  rw [uniF, if_neg (fun e => hb (by rw [e])), if_neg hb, if_pos rfl, hc, if_pos ho]
theorem Uni.clash {a b : Nd} {r s : List Nd} (ha : a.1 ≠ 2) (hb : b.1 ≠ 2) (hab : a ≠ b) : Uni (a :: r) (b :: s) (.inl 50) :=
  ⟨1, by rw [uniF, if_neg hab, if_neg ha, if_neg hb]⟩
/-- Every case of two rows of equally many trees, more than none. -/
theorem un_cases {k : Nat} {r s : List Nd} (hr : eats (k + 1) r = true) (hs : eats (k + 1) s = true) (vr : vok r) (vs : vok s) :
    ∃ (a b : Nd) (u v r' s' : List Nd), r = (a :: u) ++ r' ∧ s = (b :: v) ++ s' ∧ eats 1 (a :: u) = true ∧ eats 1 (b :: v) = true ∧ eats k r' = true ∧ eats k s' = true ∧ (a.1 = 2 → u = [] ∧ a = (2, a.2.1, 0)) ∧ (b.1 = 2 → v = [] ∧ b = (2, b.2.1, 0)) := by
  rw [Nat.add_comm] at hr hs
  obtain ⟨p, r', rfl, hp, hr'⟩ := eats_cut r 1 k hr
  obtain ⟨q, s', rfl, hq, hs'⟩ := eats_cut s 1 k hs
  have vp := (vok_app.1 vr).1
  have vq := (vok_app.1 vs).1
  have key : ∀ p : List Nd, eats 1 p = true → vok p → ∃ a u, p = a :: u ∧ (a.1 = 2 → u = [] ∧ a = (2, a.2.1, 0)) := fun p hp vp => by
    cases p with
    | nil => simp [eats] at hp
    | cons a u =>
      refine ⟨a, u, rfl, fun h2 => ?_⟩
      have h0 := (vok_cons.1 vp).1 h2
      refine ⟨?_, var_form h2 h0⟩
      have hp : eats (0 + a.2.2) u = true := hp
      rw [h0] at hp
      cases u with
      | nil => rfl
      | cons => simp [eats] at hp
  obtain ⟨a, u, rfl, ha⟩ := key p hp vp
  obtain ⟨b, v, rfl, hb⟩ := key q hq vq
  exact ⟨a, b, u, v, r', s', rfl, rfl, hp, hq, hr', hs', ha, hb⟩
/-- There is always an answer. -/
theorem uni_total : ∀ (m : Nat) (V : List (List UInt8)), V.length = m → ∀ (L k : Nat) (r s : List Nd), r.length = L → eats k r = true → eats k s = true → vok r → vok s → (∀ n, (2, n, 0) ∈ r ++ s → n ∈ V) → ∃ x, Uni r s x
  | m, V, hV, L, 0, r, s, _, hr, _, _, _, _ => by
    cases r with
    | nil => exact ⟨_, Uni.nil s⟩
    | cons => simp [eats] at hr
  | m, V, hV, 0, k + 1, r, s, hL, hr, _, _, _, _ => by
    have := eats_pos hr
    omega
  | m, V, hV, L + 1, k + 1, r, s, hL, hr, hs, vr, vs, hm => by
    obtain ⟨a, b, u, v, r', s', rfl, rfl, hp, hq, hr', hs', ha, hb⟩ := un_cases hr hs vr vs
    obtain ⟨va, vr'⟩ := vok_app.1 vr
    obtain ⟨vb, vs'⟩ := vok_app.1 vs
    -- a variable gives place to a tree in which it does not stand
    have bind : ∀ (n : List UInt8) (t : List Nd), n ∈ V → eats 1 t = true → vok t → (2, n, 0) ∉ t → (∀ q, (2, q, 0) ∈ t → q ∈ V) → ∃ x, Uni (subF (one n t) r') (subF (one n t) s') x := fun n t hn ht vt ho hq => by
      cases m with
      | zero =>
        rw [List.length_eq_zero_iff.1 hV] at hn
        simp at hn
      | succ m =>
        have ok := one_ok (x := n) ht vt
        refine uni_total m (V.erase n) (by rw [List.length_erase_of_mem hn, hV]; rfl) _ k _ _ rfl (sub_eats ok r' k vr' hr') (sub_eats ok s' k vs' hs') (sub_vok ok r' vr') (sub_vok ok s' vs') fun q hq' => ?_
        have hne : q ≠ n := fun e => by
          subst e
          rcases List.mem_append.1 hq' with h | h
          · exact one_gone ho r' vr' h
          · exact one_gone ho s' vs' h
        refine (List.mem_erase_of_ne hne).2 ?_
        rcases List.mem_append.1 hq' with h | h
        · rcases one_vars r' vr' h with h | h
          · exact hm q (by simp [h])
          · exact hq q h
        · rcases one_vars s' vs' h with h | h
          · exact hm q (by simp [h])
          · exact hq q h
    by_cases a2 : a.1 = 2
    · obtain ⟨rfl, ea⟩ := ha a2
      by_cases b2 : b.1 = 2
      · obtain ⟨rfl, eb⟩ := hb b2
        rw [ea, eb] at *
        generalize a.2.1 = x at *
        generalize b.2.1 = y at *
        have hx : x ∈ V := hm x (by simp)
        have hy : y ∈ V := hm y (by simp)
        by_cases e : x = y
        · subst e
          obtain ⟨z, h⟩ := uni_total m V hV L k r' s' (by simpa using hL) hr' hs' vr' vs' fun q hq' => hm q (by
            rcases List.mem_append.1 hq' with h | h <;> simp [h])
          exact ⟨z, h.head⟩
        · by_cases hlt : y < x
          · obtain ⟨z, h⟩ := bind x [(2, y, 0)] hx rfl (by unfold vok; simp) (by simpa using e) (fun q h => by simp at h; rw [h]; exact hy)
            exact ⟨_, h.vars hlt⟩
          · obtain ⟨z, h⟩ := bind y [(2, x, 0)] hy rfl (by unfold vok; simp) (by simpa using fun q => e q.symm) (fun q h => by simp at h; rw [h]; exact hx)
            exact ⟨_, h.vars' e hlt⟩
      · rw [ea] at *
        generalize a.2.1 = x at *
        have hx : x ∈ V := hm x (by simp)
        have nv : noVar (b :: v) := ⟨b, v, rfl, b2⟩
        by_cases ho : (2, x, 0) ∈ b :: v
        · exact ⟨_, Uni.occurs hq nv ho⟩
        · obtain ⟨z, h⟩ := bind x (b :: v) hx hq vb ho (fun q h => hm q (by simp only [List.mem_append]; exact .inr (.inl h)))
          exact ⟨_, h.bind hq nv ho⟩
    · by_cases b2 : b.1 = 2
      · obtain ⟨rfl, eb⟩ := hb b2
        rw [eb] at *
        generalize b.2.1 = y at *
        have hy : y ∈ V := hm y (by simp)
        have nv : noVar (a :: u) := ⟨a, u, rfl, a2⟩
        by_cases ho : (2, y, 0) ∈ a :: u
        · exact ⟨_, Uni.occurs' hp nv ho⟩
        · obtain ⟨z, h⟩ := bind y (a :: u) hy hp va ho (fun q h => hm q (by simp only [List.mem_append]; exact .inl (.inl h)))
          exact ⟨_, h.bind' hp nv ho⟩
      · by_cases e : a = b
        · subst e
          have hr2 : eats (k + a.2.2) (u ++ r') = true := by
            rw [Nat.add_comm]
            exact eats_app _ _ _ _ (by have : eats (0 + a.2.2) u = true := hp; rw [Nat.zero_add] at this; exact this) hr'
          have hs2 : eats (k + a.2.2) (v ++ s') = true := by
            rw [Nat.add_comm]
            exact eats_app _ _ _ _ (by have : eats (0 + a.2.2) v = true := hq; rw [Nat.zero_add] at this; exact this) hs'
          obtain ⟨z, h⟩ := uni_total m V hV L _ (u ++ r') (v ++ s') (by simpa using hL) hr2 hs2 (vok_app.2 ⟨(vok_cons.1 va).2, vr'⟩) (vok_app.2 ⟨(vok_cons.1 vb).2, vs'⟩) fun q hq' => hm q (by
            simp only [List.mem_append, List.mem_cons] at hq' ⊢
            rcases hq' with (h | h) | (h | h)
            · exact .inl (.inl (.inr h))
            · exact .inl (.inr h)
            · exact .inr (.inl (.inr h))
            · exact .inr (.inr h))
          exact ⟨z, h.head⟩
        · exact ⟨_, Uni.clash a2 b2 e⟩
end Go.Proofs.Ytikpipenhamdbaa

namespace Go.Proofs.Ytikpipenhamdbaa

/-- What was bound is right: trees, and no bound name is left. -/
structure Lok (l : List (List UInt8 × List Nd)) : Prop where
  tree : ∀ b ∈ l, eats 1 b.2 = true ∧ vok b.2
  gone : ∀ q, vok q → ∀ b ∈ l, (2, b.1, 0) ∉ subL l q
theorem subL_vok : ∀ {l : List (List UInt8 × List Nd)}, (∀ b ∈ l, eats 1 b.2 = true ∧ vok b.2) → ∀ r : List Nd, vok r → vok (subL l r)
  | [], _, _, h => h
  | b :: _, hl, r, h => subL_vok (fun c hc => hl c (List.mem_cons_of_mem _ hc)) _ (sub_vok (one_ok (hl b List.mem_cons_self).1 (hl b List.mem_cons_self).2) r h)
theorem subL_eats : ∀ {l : List (List UInt8 × List Nd)}, (∀ b ∈ l, eats 1 b.2 = true ∧ vok b.2) → ∀ (r : List Nd) (k : Nat), vok r → eats k r = true → eats k (subL l r) = true
  | [], _, _, _, _, h => h
  | b :: _, hl, r, k, hv, h =>
    have ok := one_ok (x := b.1) (hl b List.mem_cons_self).1 (hl b List.mem_cons_self).2
    subL_eats (fun c hc => hl c (List.mem_cons_of_mem _ hc)) _ k (sub_vok ok r hv) (sub_eats ok r k hv h)
theorem subL_free : ∀ {l : List (List UInt8 × List Nd)} {r : List Nd}, vok r → (∀ b ∈ l, (2, b.1, 0) ∉ r) → subL l r = r
  | [], _, _, _ => rfl
  | b :: l, r, hv, h => by
    show subL l (subF (one b.1 b.2) r) = r
    rw [sub_one_free r hv (h b List.mem_cons_self)]
    exact subL_free hv fun c hc => h c (List.mem_cons_of_mem _ hc)
/-- Once is enough. -/
theorem Lok.twice {l : List (List UInt8 × List Nd)} (h : Lok l) {q : List Nd} (hv : vok q) : subL l (subL l q) = subL l q :=
  subL_free (subL_vok h.tree q hv) (h.gone q hv)
theorem subL_vars {n : List UInt8} : ∀ {l : List (List UInt8 × List Nd)} (_ : ∀ b ∈ l, eats 1 b.2 = true ∧ vok b.2) (r : List Nd), vok r → (2, n, 0) ∈ subL l r → (2, n, 0) ∈ r ∨ ∃ b ∈ l, (2, n, 0) ∈ b.2
  | [], _, _, _, h => .inl h
  | b :: l, hl, r, hv, h => by
    have ok := one_ok (x := b.1) (hl b List.mem_cons_self).1 (hl b List.mem_cons_self).2
    rcases subL_vars (fun c hc => hl c (List.mem_cons_of_mem _ hc)) _ (sub_vok ok r hv) h with h | ⟨c, hc, h⟩
    · rcases one_vars r hv h with h | h
      · exact .inl h
      · exact .inr ⟨b, List.mem_cons_self, h⟩
    · exact .inr ⟨c, List.mem_cons_of_mem _ hc, h⟩
/-- What an answer says of two rows. -/
def Good (r s : List Nd) : Uans → Prop
  | .inl c => (c = 50 ∨ c = 51) ∧ ∀ θ, sok θ → subF θ r ≠ subF θ s
  | .inr l => subL l r = subL l s ∧ (∀ θ, sok θ → subF θ r = subF θ s → ∀ q, vok q → subF θ (subL l q) = subF θ q) ∧ Lok l ∧ ∀ b ∈ l, ((2, b.1, 0) ∈ r ∨ (2, b.1, 0) ∈ s) ∧ ∀ n, (2, n, 0) ∈ b.2 → (2, n, 0) ∈ r ∨ (2, n, 0) ∈ s
theorem Good.turn {r s : List Nd} {x : Uans} (h : Good r s x) : Good s r x := by
  cases x with
  | inl c => exact ⟨h.1, fun θ hθ e => h.2 θ hθ e.symm⟩
  | inr l => exact ⟨h.1.symm, fun θ hθ e => h.2.1 θ hθ e.symm, h.2.2.1, fun b hb => ⟨(h.2.2.2 b hb).1.symm, fun n hn => ((h.2.2.2 b hb).2 n hn).symm⟩⟩
theorem Good.nil : Good [] [] (.inr []) := ⟨rfl, fun _ _ _ _ _ => rfl, ⟨fun _ h => by simp at h, fun _ _ _ h => by simp at h⟩, fun _ h => by simp at h⟩
theorem Good.same {p r s : List Nd} {x : Uans} (h : Good r s x) : Good (p ++ r) (p ++ s) x := by
  cases x with
  | inl c => exact ⟨h.1, fun θ hθ e => h.2 θ hθ (un_same.1 e)⟩
  | inr l =>
    refine ⟨by rw [subL_app, subL_app, h.1], fun θ hθ e => h.2.1 θ hθ (un_same.1 e), h.2.2.1, fun b hb => ⟨?_, fun n hn => ?_⟩⟩
    · exact (h.2.2.2 b hb).1.imp (fun q => List.mem_append_right _ q) (fun q => List.mem_append_right _ q)
    · exact ((h.2.2.2 b hb).2 n hn).imp (fun q => List.mem_append_right _ q) (fun q => List.mem_append_right _ q)
theorem Good.bind {n : List UInt8} {u r s : List Nd} {x : Uans} (hu : eats 1 u = true) (vu : vok u) (ho : (2, n, 0) ∉ u) (vr : vok r) (vs : vok s) (h : Good (subF (one n u) r) (subF (one n u) s) x) : Good ((2, n, 0) :: r) (u ++ s) (putU (n, u) x) := by
  have ok := one_ok (x := n) hu vu
  have key : ∀ θ, sok θ → subF θ ((2, n, 0) :: r) = subF θ (u ++ s) → vF θ n = subF θ u ∧ subF θ (subF (one n u) r) = subF θ (subF (one n u) s) := fun θ hθ e => by
    obtain ⟨h1, h2⟩ := (un_var hθ hu vu).1 e
    exact ⟨h1, by rw [sub_one h1 r vr, sub_one h1 s vs, h2]⟩
  have mem : ∀ m, (2, m, 0) ∈ subF (one n u) r ∨ (2, m, 0) ∈ subF (one n u) s → (2, m, 0) ∈ ((2, n, 0) :: r : List Nd) ∨ (2, m, 0) ∈ u ++ s := fun m hm => by
    rcases hm with hm | hm
    · rcases one_vars r vr hm with h | h
      · exact .inl (List.mem_cons_of_mem _ h)
      · exact .inr (List.mem_append_left _ h)
    · rcases one_vars s vs hm with h | h
      · exact .inr (List.mem_append_right _ h)
      · exact .inr (List.mem_append_left _ h)
  cases x with
  | inl c => exact ⟨h.1, fun θ hθ e => h.2 θ hθ (key θ hθ e).2⟩
  | inr l =>
    have tr : ∀ b ∈ (n, u) :: l, eats 1 b.2 = true ∧ vok b.2 := fun b hb => by
      rcases List.mem_cons.1 hb with e | e
      · rw [e]
        exact ⟨hu, vu⟩
      · exact h.2.2.1.tree b e
    refine ⟨?_, fun θ hθ e q vq => ?_, ⟨tr, fun q vq b hb => ?_⟩, fun b hb => ?_⟩
    · show subL l (subF (one n u) ((2, n, 0) :: r)) = subL l (subF (one n u) (u ++ s))
      rw [subF_vc, vF_one_self, subF_app, sub_one_free u vu ho, subL_app, subL_app, h.1]
    · obtain ⟨h1, h2⟩ := key θ hθ e
      show subF θ (subL l (subF (one n u) q)) = subF θ q
      rw [h.2.1 θ hθ h2 _ (sub_vok ok q vq), sub_one h1 q vq]
    · rcases List.mem_cons.1 hb with e | e
      · rw [e]
        intro hm
        rcases subL_vars h.2.2.1.tree _ (sub_vok ok q vq) hm with hm | ⟨c, hc, hm⟩
        · exact one_gone ho q vq hm
        · rcases (h.2.2.2 c hc).2 n hm with hm | hm
          · exact one_gone ho r vr hm
          · exact one_gone ho s vs hm
      · exact h.2.2.1.gone _ (sub_vok ok q vq) b e
    · rcases List.mem_cons.1 hb with e | e
      · rw [e]
        exact ⟨.inl List.mem_cons_self, fun m hm => .inr (List.mem_append_left _ hm)⟩
      · exact ⟨mem _ (h.2.2.2 b e).1, fun m hm => mem m ((h.2.2.2 b e).2 m hm)⟩
theorem Good.occurs {n : List UInt8} {u r s : List Nd} (hu : eats 1 u = true) (vu : vok u) (hn : noVar u) (ho : (2, n, 0) ∈ u) : Good ((2, n, 0) :: r) (u ++ s) (.inl 51) := by
  refine ⟨.inr rfl, fun θ hθ e => un_never hθ vu ho ?_ ((un_var hθ hu vu).1 e).1⟩
  obtain ⟨b, v, rfl, hb⟩ := hn
  cases v with
  | nil =>
    simp at ho
    rw [← ho] at hb
    exact absurd rfl hb
  | cons => simp
theorem Good.clash {a b : Nd} {r s : List Nd} (ha : a.1 ≠ 2) (hb : b.1 ≠ 2) (hab : a ≠ b) : Good (a :: r) (b :: s) (.inl 50) := ⟨.inl rfl, fun _ _ e => un_clash ha hb hab e⟩
/-- There is always an answer, and it says so. -/
theorem uni_good : ∀ (m : Nat) (V : List (List UInt8)), V.length = m → ∀ (L k : Nat) (r s : List Nd), r.length = L → eats k r = true → eats k s = true → vok r → vok s → (∀ n, (2, n, 0) ∈ r ++ s → n ∈ V) → ∃ x, Uni r s x ∧ Good r s x
  | m, V, hV, L, 0, r, s, _, hr, hs, _, _, _ => by
    cases r with
    | nil =>
      cases s with
      | nil => exact ⟨_, Uni.nil _, Good.nil⟩
      | cons => simp [eats] at hs
    | cons => simp [eats] at hr
  | m, V, hV, 0, k + 1, r, s, hL, hr, _, _, _, _ => by
    have := eats_pos hr
    omega
  | m, V, hV, L + 1, k + 1, r, s, hL, hr, hs, vr, vs, hm => by
    obtain ⟨a, b, u, v, r', s', rfl, rfl, hp, hq, hr', hs', ha, hb⟩ := un_cases hr hs vr vs
    obtain ⟨va, vr'⟩ := vok_app.1 vr
    obtain ⟨vb, vs'⟩ := vok_app.1 vs
    have bind : ∀ (n : List UInt8) (t : List Nd), n ∈ V → eats 1 t = true → vok t → (2, n, 0) ∉ t → (∀ q, (2, q, 0) ∈ t → q ∈ V) → ∃ x, Uni (subF (one n t) r') (subF (one n t) s') x ∧ Good (subF (one n t) r') (subF (one n t) s') x := fun n t hn ht vt ho hq => by
      cases m with
      | zero =>
        rw [List.length_eq_zero_iff.1 hV] at hn
        simp at hn
      | succ m =>
        have ok := one_ok (x := n) ht vt
        refine uni_good m (V.erase n) (by rw [List.length_erase_of_mem hn, hV]; rfl) _ k _ _ rfl (sub_eats ok r' k vr' hr') (sub_eats ok s' k vs' hs') (sub_vok ok r' vr') (sub_vok ok s' vs') fun q hq' => ?_
        have hne : q ≠ n := fun e => by
          subst e
          rcases List.mem_append.1 hq' with h | h
          · exact one_gone ho r' vr' h
          · exact one_gone ho s' vs' h
        refine (List.mem_erase_of_ne hne).2 ?_
        rcases List.mem_append.1 hq' with h | h
        · rcases one_vars r' vr' h with h | h
          · exact hm q (by simp [h])
          · exact hq q h
        · rcases one_vars s' vs' h with h | h
          · exact hm q (by simp [h])
          · exact hq q h
    have v1 : ∀ y : List UInt8, vok [(2, y, 0)] := fun y => by unfold vok; simp
    by_cases a2 : a.1 = 2
    · obtain ⟨rfl, ea⟩ := ha a2
      by_cases b2 : b.1 = 2
      · obtain ⟨rfl, eb⟩ := hb b2
        rw [ea, eb] at *
        generalize a.2.1 = x at *
        generalize b.2.1 = y at *
        have hx : x ∈ V := hm x (by simp)
        have hy : y ∈ V := hm y (by simp)
        by_cases e : x = y
        · subst e
          obtain ⟨z, h, g⟩ := uni_good m V hV L k r' s' (by simpa using hL) hr' hs' vr' vs' fun q hq' => hm q (by
            rcases List.mem_append.1 hq' with h | h <;> simp [h])
          exact ⟨z, h.head, g.same (p := [(2, x, 0)])⟩
        · by_cases hlt : y < x
          · have ho : (2, x, 0) ∉ [((2, y, 0) : Nd)] := by simpa using e
            obtain ⟨z, h, g⟩ := bind x [(2, y, 0)] hx rfl (v1 y) ho (fun q h => by simp at h; rw [h]; exact hy)
            exact ⟨_, h.vars hlt, g.bind rfl (v1 y) ho vr' vs'⟩
          · have ho : (2, y, 0) ∉ [((2, x, 0) : Nd)] := by simpa using fun q => e q.symm
            obtain ⟨z, h, g⟩ := bind y [(2, x, 0)] hy rfl (v1 x) ho (fun q h => by simp at h; rw [h]; exact hx)
            exact ⟨_, h.vars' e hlt, (g.turn.bind rfl (v1 x) ho vs' vr').turn⟩
      · rw [ea] at *
        generalize a.2.1 = x at *
        have hx : x ∈ V := hm x (by simp)
        have nv : noVar (b :: v) := ⟨b, v, rfl, b2⟩
        by_cases ho : (2, x, 0) ∈ b :: v
        · exact ⟨_, Uni.occurs hq nv ho, Good.occurs hq vb nv ho⟩
        · obtain ⟨z, h, g⟩ := bind x (b :: v) hx hq vb ho (fun q h => hm q (by simp only [List.mem_append]; exact .inr (.inl h)))
          exact ⟨_, h.bind hq nv ho, g.bind hq vb ho vr' vs'⟩
    · by_cases b2 : b.1 = 2
      · obtain ⟨rfl, eb⟩ := hb b2
        rw [eb] at *
        generalize b.2.1 = y at *
        have hy : y ∈ V := hm y (by simp)
        have nv : noVar (a :: u) := ⟨a, u, rfl, a2⟩
        by_cases ho : (2, y, 0) ∈ a :: u
        · exact ⟨_, Uni.occurs' hp nv ho, (Good.occurs hp va nv ho).turn⟩
        · obtain ⟨z, h, g⟩ := bind y (a :: u) hy hp va ho (fun q h => hm q (by simp only [List.mem_append]; exact .inl (.inl h)))
          exact ⟨_, h.bind' hp nv ho, (g.turn.bind hp va ho vs' vr').turn⟩
      · by_cases e : a = b
        · subst e
          have hr2 : eats (k + a.2.2) (u ++ r') = true := by
            rw [Nat.add_comm]
            exact eats_app _ _ _ _ (by have : eats (0 + a.2.2) u = true := hp; rw [Nat.zero_add] at this; exact this) hr'
          have hs2 : eats (k + a.2.2) (v ++ s') = true := by
            rw [Nat.add_comm]
            exact eats_app _ _ _ _ (by have : eats (0 + a.2.2) v = true := hq; rw [Nat.zero_add] at this; exact this) hs'
          obtain ⟨z, h, g⟩ := uni_good m V hV L _ (u ++ r') (v ++ s') (by simpa using hL) hr2 hs2 (vok_app.2 ⟨(vok_cons.1 va).2, vr'⟩) (vok_app.2 ⟨(vok_cons.1 vb).2, vs'⟩) fun q hq' => hm q (by
            simp only [List.mem_append, List.mem_cons] at hq' ⊢
            rcases hq' with (h | h) | (h | h)
            · exact .inl (.inl (.inr h))
            · exact .inl (.inr h)
            · exact .inr (.inl (.inr h))
            · exact .inr (.inr h))
          exact ⟨z, h.head, g.same (p := [a])⟩
        · exact ⟨_, Uni.clash a2 b2 e, Good.clash a2 b2 e⟩
/-- Of two trees. -/
theorem uni_trees {r s : List Nd} {k : Nat} (hr : eats k r = true) (hs : eats k s = true) (vr : vok r) (vs : vok s) : ∃ x, Uni r s x ∧ Good r s x :=
  uni_good _ ((r ++ s).map (·.2.1)) rfl _ k r s rfl hr hs vr vs fun _ h => List.mem_map.2 ⟨_, h, rfl⟩
theorem Uni.good {r s : List Nd} {k : Nat} {x : Uans} (h : Uni r s x) (hr : eats k r = true) (hs : eats k s = true) (vr : vok r) (vs : vok s) : Good r s x := by
  obtain ⟨y, h1, h2⟩ := uni_trees hr hs vr vs
  rw [h.one h1]
  exact h2
end Go.Proofs.Ytikpipenhamdbaa
