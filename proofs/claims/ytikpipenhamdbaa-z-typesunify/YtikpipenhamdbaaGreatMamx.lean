/- The program's put and anew: every tree, every map. Rows of nodes with rows put in the variables' places. Rows of nodes: how many trees they are, and what makes two rows one. Nothing of the program stands here. What makes two rows one: the steps, from the left, that find it or tell why there is nothing. Nothing of the program stands here. What makes two rows one: it does, and everything that does comes of it; where there is nothing, nothing does. Nothing of the program stands here. The program's graph of types, plain: what its nodes stand for, and how that turns when one is led to another. Nothing of the program stands here. The rounds of agree, plain: what waits, and what comes of each. Pairs one behind the other, plain. A walk through the graph that looks for a variable, plain. How many variables lead nowhere, plain. How many tasks wait, plain. Rows of nodes that may be: what is bound is made of such. What makes two rows one, part by part; names that are others. Nothing of the program stands here. The reference's board, plain: what its places stand for is what the steps from the left say, with other names. Nothing of the program stands here. Of names that are one the least stays; all names that are bound come of the pairs. Nothing of the program stands here. The program's valuesOf, of bounds with which nothing is wrong. Trees counted with more levels; what a row of bounds says of a name, and the reference's find in it. -/
import Derived.Test.YtikpipenhamdbaaGreatMalx
import Derived.Test.YtikpipenhamdbaaGreatOp
import Derived.Test.YtikpipenhamdbaaGreatMaax
import Derived.Test.YtikpipenhamdbaaGreatMabx
import Derived.Test.YtikpipenhamdbaaGreatMadx
import Derived.Test.YtikpipenhamdbaaGreatMahx
import Derived.Test.YtikpipenhamdbaaGreatMaix
namespace Go.Proofs.YtikpipenhamdbaaGreat
open Go.RowKit

theorem tree_form {w : World} {B d : Nat} {x : Value} {t : Tn d} (h : TyAt w B d x t) : ∃ (k : Int) (n : ByteArray) (ad : Option Addr) (len cap : Nat), x = .agg #[.int .i64 k, .string n, .slice ad len cap] := by
 cases d with
 | zero => exact h.elim
 | succ d =>
  obtain ⟨v, hx, _, _, hr⟩ := h
  obtain ⟨ad, cap, rfl⟩ := hr.len
  exact ⟨_, _, _, _, _, hx⟩
end Go.Proofs.YtikpipenhamdbaaGreat

namespace Go.Proofs.YtikpipenhamdbaaGreat

/-- A row with what θ says in its variables' places. -/
def subF (θ : Sb) (L : List Nd) : List Nd := L.flatMap fun nd => if nd.1 = 2 then (θ nd.2.1).getD [nd] else [nd]
theorem subF_nil (θ : Sb) : subF θ [] = [] := rfl
theorem subF_cons (θ : Sb) (nd : Nd) (L : List Nd) : subF θ (nd :: L) = (if nd.1 = 2 then (θ nd.2.1).getD [nd] else [nd]) ++ subF θ L := rfl
theorem subF_app (θ : Sb) (A L : List Nd) : subF θ (A ++ L) = subF θ A ++ subF θ L := by unfold subF; rw [List.flatMap_append]
theorem subF_var (θ : Sb) (n : List UInt8) (l : Nat) : subF θ [(2, n, l)] = (θ n).getD [(2, n, l)] := by
 rw [subF_cons, subF_nil, List.append_nil]
 exact if_pos rfl
theorem sf_var {d : Nat} {n : List UInt8} {ts : List (Tn d)} (h : formB (d + 1) ((2, n), ts) = true) : ts = [] := by
 rw [form_succ, Bool.and_eq_true] at h
 have h := h.1
 simp [okB] at h
 exact h.2
theorem sf_args {d : Nat} {k : Int} {n : List UInt8} {ts : List (Tn d)} (h : formB (d + 1) ((k, n), ts) = true) : ∀ a ∈ ts, formB d a = true := by
 rw [form_succ, Bool.and_eq_true, List.all_eq_true] at h
 exact h.2
end Go.Proofs.YtikpipenhamdbaaGreat

namespace Go.Proofs.YtikpipenhamdbaaGreat

/-- Is a row just so many trees? -/
def eats : Nat → List Nd → Bool
 | 0, [] => true
 | 0, _ :: _ => false
 | _ + 1, [] => false
 | k + 1, nd :: r => eats (k + nd.2.2) r
theorem eats_app : ∀ (a : List Nd) (k l : Nat) (b : List Nd), eats k a = true → eats l b = true → eats (k + l) (a ++ b) = true
 | [], 0, l, b, _, h => by simpa using h
 | [], _ + 1, _, _, h, _ => by simp [eats] at h
 | _ :: _, 0, _, _, h, _ => by simp [eats] at h
 | nd :: a, k + 1, l, b, h, h' => by
  have := eats_app a (k + nd.2.2) l b h h'
  rw [Nat.add_right_comm k 1 l]
  show eats (k + l + nd.2.2) (a ++ b) = true
  rw [Nat.add_right_comm k l nd.2.2]
  exact this
theorem eats_cut : ∀ (r : List Nd) (k l : Nat), eats (k + l) r = true → ∃ a b, r = a ++ b ∧ eats k a = true ∧ eats l b = true
 | r, 0, l, h => ⟨[], r, rfl, rfl, by simpa using h⟩
 | [], k + 1, l, h => by
  rw [Nat.add_right_comm k 1 l] at h
  simp [eats] at h
 | nd :: r, k + 1, l, h => by
  rw [Nat.add_right_comm k 1 l] at h
  have h : eats (k + l + nd.2.2) r = true := h
  rw [Nat.add_right_comm k l nd.2.2] at h
  obtain ⟨a, b, e, h1, h2⟩ := eats_cut r _ _ h
  exact ⟨nd :: a, b, by rw [e]; rfl, h1, h2⟩
theorem eats_inj : ∀ (a a' : List Nd) (k : Nat) (b b' : List Nd), eats k a = true → eats k a' = true → a ++ b = a' ++ b' → a = a' ∧ b = b'
 | [], [], _, _, _, _, _, h => ⟨rfl, h⟩
 | [], nd :: a', k, _, _, h1, h2, _ => by cases k <;> simp [eats] at h1 h2
 | nd :: a, [], k, _, _, h1, h2, _ => by cases k <;> simp [eats] at h1 h2
 | nd :: a, nd' :: a', 0, _, _, h1, _, _ => by simp [eats] at h1
 | nd :: a, nd' :: a', k + 1, b, b', h1, h2, h => by
  injection h with e1 e2
  subst e1
  obtain ⟨e3, e4⟩ := eats_inj a a' _ b b' h1 h2 e2
  exact ⟨by rw [e3], e4⟩
theorem eats_pos {a : List Nd} {k : Nat} (h : eats (k + 1) a = true) : 0 < a.length := by
 cases a with
 | nil => simp [eats] at h
 | cons => simp
theorem eats_flats (d : Nat) (ih : ∀ t : Tn d, eats 1 (flat d t) = true) : ∀ ts : List (Tn d), eats ts.length (flats d ts) = true
 | [] => rfl
 | t :: ts => by
  rw [flats_cons, List.length_cons, Nat.add_comm]
  exact eats_app _ _ _ _ (ih t) (eats_flats d ih ts)
theorem eats_flat : ∀ (d : Nat) (t : Tn d), eats 1 (flat d t) = true
 | 0, t => t.elim
 | d + 1, ((k, n), ts) => by
  rw [flat_succ]
  show eats (0 + ts.length) (flats d ts) = true
  rw [Nat.zero_add]
  exact eats_flats d (eats_flat d) ts
/-- Variables have no arguments. -/
def vok (r : List Nd) : Prop := ∀ nd ∈ r, nd.1 = 2 → nd.2.2 = 0
theorem vok_nil : vok [] := fun _ h => by simp at h
theorem vok_cons {nd : Nd} {r : List Nd} : vok (nd :: r) ↔ (nd.1 = 2 → nd.2.2 = 0) ∧ vok r := by
 unfold vok
 simp
theorem vok_app {a b : List Nd} : vok (a ++ b) ↔ vok a ∧ vok b := by
 unfold vok
 simp only [List.mem_append]
 exact ⟨fun h => ⟨fun nd hn => h nd (.inl hn), fun nd hn => h nd (.inr hn)⟩, fun h nd hn => hn.elim (h.1 nd) (h.2 nd)⟩
theorem var_form {nd : Nd} (h2 : nd.1 = 2) (h0 : nd.2.2 = 0) : nd = (2, nd.2.1, 0) := by
 obtain ⟨a, b, c⟩ := nd
 simp only at h2 h0
 rw [h2, h0]
/-- What stands for variables is a tree each. -/
def sok (θ : Sb) : Prop := ∀ n r, θ n = some r → eats 1 r = true ∧ vok r
/-- What θ makes of a variable. -/
def vF (θ : Sb) (n : List UInt8) : List Nd := (θ n).getD [(2, n, 0)]
theorem subF_v (θ : Sb) (n : List UInt8) : subF θ [(2, n, 0)] = vF θ n := subF_var θ n 0
theorem vF_ok {θ : Sb} (h : sok θ) (n : List UInt8) : eats 1 (vF θ n) = true ∧ vok (vF θ n) := by
 unfold vF
 cases e : θ n with
 | none => exact ⟨rfl, by unfold vok; simp⟩
 | some r => exact h n r e
theorem subF_node (θ : Sb) {nd : Nd} (h : nd.1 ≠ 2) (r : List Nd) : subF θ (nd :: r) = nd :: subF θ r := by
 rw [subF_cons, if_neg h]
 rfl
theorem subF_vc (θ : Sb) (n : List UInt8) (r : List Nd) : subF θ ((2, n, 0) :: r) = vF θ n ++ subF θ r := by
 rw [subF_cons, if_pos rfl]
 rfl
theorem sub_eats {θ : Sb} (hθ : sok θ) : ∀ (r : List Nd) (k : Nat), vok r → eats k r = true → eats k (subF θ r) = true
 | [], _, _, h => h
 | nd :: r, 0, _, h => by simp [eats] at h
 | nd :: r, k + 1, hv, h => by
  obtain ⟨hv1, hv2⟩ := vok_cons.1 hv
  by_cases h2 : nd.1 = 2
  ·have e := var_form h2 (hv1 h2)
   have h : eats (k + nd.2.2) r = true := h
   rw [hv1 h2, Nat.add_zero] at h
   rw [e, subF_vc, Nat.add_comm]
   exact eats_app _ _ _ _ (vF_ok hθ _).1 (sub_eats hθ r k hv2 h)
  ·rw [subF_node θ h2]
   exact sub_eats hθ r _ hv2 h
theorem sub_vok {θ : Sb} (hθ : sok θ) : ∀ (r : List Nd), vok r → vok (subF θ r)
 | [], _ => vok_nil
 | nd :: r, hv => by
  obtain ⟨hv1, hv2⟩ := vok_cons.1 hv
  by_cases h2 : nd.1 = 2
  ·rw [var_form h2 (hv1 h2), subF_vc]
   exact vok_app.2 ⟨(vF_ok hθ _).2, sub_vok hθ r hv2⟩
  ·rw [subF_node θ h2]
   exact vok_cons.2 ⟨hv1, sub_vok hθ r hv2⟩
/-- One variable alone. -/
def one (x : List UInt8) (u : List Nd) : Sb := fun n => if n = x then some u else none
theorem one_ok {x : List UInt8} {u : List Nd} (h : eats 1 u = true) (hv : vok u) : sok (one x u) := fun n r e => by
 unfold one at e
 split at e
 ·injection e with e
  subst e
  exact ⟨h, hv⟩
 ·cases e
theorem vF_one_self (x : List UInt8) (u : List Nd) : vF (one x u) x = u := by simp [vF, one]
theorem vF_one_other {x n : List UInt8} (u : List Nd) (h : n ≠ x) : vF (one x u) n = [(2, n, 0)] := by simp [vF, one, h]
theorem sub_one_free {x : List UInt8} {u : List Nd} : ∀ r : List Nd, vok r → (2, x, 0) ∉ r → subF (one x u) r = r
 | [], _, _ => rfl
 | nd :: r, hv, h => by
  obtain ⟨hv1, hv2⟩ := vok_cons.1 hv
  have ih := sub_one_free (u := u) r hv2 (fun q => h (List.mem_cons_of_mem _ q))
  by_cases h2 : nd.1 = 2
  ·have e := var_form h2 (hv1 h2)
   rw [e, subF_vc, vF_one_other u (fun q => h (by rw [e, q]; exact List.mem_cons_self)), ih]
   rfl
  ·rw [subF_node _ h2, ih]
/-- θ says of x what it says of u: then x may give place to u. -/
theorem sub_one {θ : Sb} {x : List UInt8} {u : List Nd} (h : vF θ x = subF θ u) : ∀ r : List Nd, vok r → subF θ (subF (one x u) r) = subF θ r
 | [], _ => rfl
 | nd :: r, hv => by
  obtain ⟨hv1, hv2⟩ := vok_cons.1 hv
  have ih := sub_one h r hv2
  by_cases h2 : nd.1 = 2
  ·have e := var_form h2 (hv1 h2)
   rw [e, subF_vc, subF_app, ih, subF_vc]
   congr 1
   by_cases q : nd.2.1 = x
   ·rw [q, vF_one_self, h]
   ·rw [vF_one_other u q, subF_v]
  ·rw [subF_node _ h2, subF_node _ h2, subF_node _ h2, ih]
theorem one_gone {x : List UInt8} {u : List Nd} (hu : (2, x, 0) ∉ u) : ∀ r : List Nd, vok r → (2, x, 0) ∉ subF (one x u) r
 | [], _ => by simp [subF_nil]
 | nd :: r, hv => by
  obtain ⟨hv1, hv2⟩ := vok_cons.1 hv
  have ih := one_gone hu r hv2
  by_cases h2 : nd.1 = 2
  ·have e := var_form h2 (hv1 h2)
   rw [e, subF_vc, List.mem_append]
   rintro (q | q)
   ·by_cases hx : nd.2.1 = x
    ·rw [hx, vF_one_self] at q
     exact hu q
    ·rw [vF_one_other u hx] at q
     simp at q
     exact hx q.symm
   ·exact ih q
  ·rw [subF_node _ h2, List.mem_cons]
   rintro (q | q)
   ·rw [← q] at h2
    exact h2 rfl
   ·exact ih q
theorem one_vars {x n : List UInt8} {u : List Nd} : ∀ r : List Nd, vok r → (2, n, 0) ∈ subF (one x u) r → (2, n, 0) ∈ r ∨ (2, n, 0) ∈ u
 | [], _, h => by simp [subF_nil] at h
 | nd :: r, hv, h => by
  obtain ⟨hv1, hv2⟩ := vok_cons.1 hv
  by_cases h2 : nd.1 = 2
  ·have e := var_form h2 (hv1 h2)
   rw [e, subF_vc, List.mem_append] at h
   rcases h with h | h
   ·by_cases hx : nd.2.1 = x
    ·rw [hx, vF_one_self] at h
     exact .inr h
    ·rw [vF_one_other u hx] at h
     simp at h
     exact .inl (by rw [e, h]; exact List.mem_cons_self)
   ·exact (one_vars r hv2 h).imp (fun q => List.mem_cons_of_mem _ q) id
  ·rw [subF_node _ h2, List.mem_cons] at h
   rcases h with h | h
   ·exact .inl (by rw [h]; exact List.mem_cons_self)
   ·exact (one_vars r hv2 h).imp (fun q => List.mem_cons_of_mem _ q) id
/-! What makes two rows one. -/
theorem un_var {θ : Sb} (hθ : sok θ) {x : List UInt8} {u r s : List Nd} (hu : eats 1 u = true) (hv : vok u) : subF θ ((2, x, 0) :: r) = subF θ (u ++ s) ↔ vF θ x = subF θ u ∧ subF θ r = subF θ s := by
 rw [subF_vc, subF_app]
 constructor
 ·intro h
  exact eats_inj _ _ 1 _ _ (vF_ok hθ x).1 (sub_eats hθ u 1 hv hu) h
 ·rintro ⟨h1, h2⟩
  rw [h1, h2]
theorem sub_long {θ : Sb} (hθ : sok θ) : ∀ r : List Nd, vok r → r.length ≤ (subF θ r).length
 | [], _ => Nat.le_refl _
 | nd :: r, hv => by
  obtain ⟨hv1, hv2⟩ := vok_cons.1 hv
  have ih := sub_long hθ r hv2
  by_cases h2 : nd.1 = 2
  ·rw [var_form h2 (hv1 h2), subF_vc, List.length_append, List.length_cons]
   have := eats_pos (vF_ok hθ nd.2.1).1
   omega
  ·rw [subF_node _ h2]
   simpa using ih
theorem un_occurs {θ : Sb} (hθ : sok θ) {x : List UInt8} : ∀ {u : List Nd}, vok u → (2, x, 0) ∈ u → (vF θ x).length + u.length ≤ (subF θ u).length + 1
 | [], _, h => by simp at h
 | nd :: u, hv, h => by
  obtain ⟨hv1, hv2⟩ := vok_cons.1 hv
  have hl := sub_long hθ u hv2
  by_cases h2 : nd.1 = 2
  ·rw [var_form h2 (hv1 h2), subF_vc, List.length_append, List.length_cons]
   have hp := eats_pos (vF_ok hθ nd.2.1).1
   by_cases q : nd.2.1 = x
   ·rw [q]
    omega
   ·have hm : (2, x, 0) ∈ u := by
     rcases List.mem_cons.1 h with e | e
     ·rw [← e] at q
      exact absurd rfl q
     ·exact e
    have := un_occurs hθ hv2 hm
    omega
  ·rw [subF_node _ h2, List.length_cons, List.length_cons]
   have hm : (2, x, 0) ∈ u := by
    rcases List.mem_cons.1 h with e | e
    ·rw [← e] at h2
     exact absurd rfl h2
    ·exact e
   have := un_occurs hθ hv2 hm
   omega
theorem un_never {θ : Sb} (hθ : sok θ) {x : List UInt8} {u : List Nd} (hv : vok u) (hm : (2, x, 0) ∈ u) (h1 : 1 < u.length) : vF θ x ≠ subF θ u := fun h => by
 have := un_occurs hθ hv hm
 rw [h] at this
 omega
theorem un_clash {θ : Sb} {a b : Nd} {r s : List Nd} (ha : a.1 ≠ 2) (hb : b.1 ≠ 2) (hab : a ≠ b) : subF θ (a :: r) ≠ subF θ (b :: s) := by
 rw [subF_node _ ha, subF_node _ hb]
 intro h
 injection h with h _
 exact hab h
theorem un_same {θ : Sb} {p r s : List Nd} : subF θ (p ++ r) = subF θ (p ++ s) ↔ subF θ r = subF θ s := by
 rw [subF_app, subF_app]
 exact ⟨fun h => List.append_cancel_left h, fun h => by rw [h]⟩
end Go.Proofs.YtikpipenhamdbaaGreat

namespace Go.Proofs.YtikpipenhamdbaaGreat

/-- The first of a row's trees, and the rest: so many trees. -/
def cutF : Nat → List Nd → List Nd × List Nd
 | 0, r => ([], r)
 | _ + 1, [] => ([], [])
 | k + 1, nd :: r => (nd :: (cutF (k + nd.2.2) r).1, (cutF (k + nd.2.2) r).2)
theorem cut_app : ∀ (a : List Nd) (k : Nat) (b : List Nd), eats k a = true → cutF k (a ++ b) = (a, b)
 | [], 0, b, _ => by cases b <;> rfl
 | [], _ + 1, _, h => by simp [eats] at h
 | _ :: _, 0, _, h => by simp [eats] at h
 | nd :: a, k + 1, b, h => by
  have := cut_app a (k + nd.2.2) b h
  show (nd :: (cutF (k + nd.2.2) (a ++ b)).1, (cutF (k + nd.2.2) (a ++ b)).2) = _
  rw [this]
/-- What was bound, one by one, in a row. -/
def subL : List (List UInt8 × List Nd) → List Nd → List Nd
 | [], r => r
 | b :: l, r => subL l (subF (one b.1 b.2) r)
theorem subL_app : ∀ (l : List (List UInt8 × List Nd)) (a b : List Nd), subL l (a ++ b) = subL l a ++ subL l b
 | [], _, _ => rfl
 | c :: l, a, b => by
  show subL l (subF _ (a ++ b)) = _
  rw [subF_app, subL_app l]
  rfl
theorem subL_nil (l : List (List UInt8 × List Nd)) : subL l [] = [] := by
 induction l with
 | nil => rfl
 | cons b l ih => exact ih
theorem subL_node {nd : Nd} (h : nd.1 ≠ 2) : ∀ (l : List (List UInt8 × List Nd)) (r : List Nd), subL l (nd :: r) = nd :: subL l r
 | [], _ => rfl
 | c :: l, r => by
  show subL l (subF _ (nd :: r)) = _
  rw [subF_node _ h, subL_node h l]
  rfl
/-- The answer of a step. -/
abbrev Uans := Sum Int (List (List UInt8 × List Nd))
def putU (b : List UInt8 × List Nd) : Uans → Uans
 | .inl c => .inl c
 | .inr l => .inr (b :: l)
/-- What makes two rows one (50: nothing does; 51: something would stand within itself). -/
def uniF : Nat → List Nd → List Nd → Option Uans
 | 0, _, _ => none
 | _ + 1, [], _ => some (.inr [])
 | _ + 1, _ :: _, [] => some (.inr [])
 | f + 1, a :: r, b :: s =>
  if a = b then uniF f r s
  else if a.1 = 2 then
   if b.1 = 2 then
    if b.2.1 < a.2.1 then (uniF f (subF (one a.2.1 [b]) r) (subF (one a.2.1 [b]) s)).map (putU (a.2.1, [b]))
    else (uniF f (subF (one b.2.1 [a]) r) (subF (one b.2.1 [a]) s)).map (putU (b.2.1, [a]))
   else if a ∈ (cutF 1 (b :: s)).1 then some (.inl 51)
   else (uniF f (subF (one a.2.1 (cutF 1 (b :: s)).1) r) (subF (one a.2.1 (cutF 1 (b :: s)).1) (cutF 1 (b :: s)).2)).map (putU (a.2.1, (cutF 1 (b :: s)).1))
  else if b.1 = 2 then
   if b ∈ (cutF 1 (a :: r)).1 then some (.inl 51)
   else (uniF f (subF (one b.2.1 (cutF 1 (a :: r)).1) (cutF 1 (a :: r)).2) (subF (one b.2.1 (cutF 1 (a :: r)).1) s)).map (putU (b.2.1, (cutF 1 (a :: r)).1))
  else some (.inl 50)
theorem uniF_more : ∀ (f : Nat) (r s : List Nd) (x : Uans), uniF f r s = some x → uniF (f + 1) r s = some x
 | 0, _, _, _, h => by cases h
 | _ + 1, [], s, x, h => by cases s <;> exact h
 | _ + 1, _ :: _, [], x, h => h
 | f + 1, a :: r, b :: s, x, h => by
  have key : ∀ (r s : List Nd) (c : List UInt8 × List Nd) (x : Uans), (uniF f r s).map (putU c) = some x → (uniF (f + 1) r s).map (putU c) = some x := fun r s c x h => by
   obtain ⟨y, h1, h2⟩ := Option.map_eq_some_iff.1 h
   rw [uniF_more f r s y h1]
   exact congrArg some h2
  rw [uniF] at h ⊢
  split
  ·rename_i h1; rw [if_pos h1] at h; exact uniF_more f _ _ _ h
  ·rename_i h1
   rw [if_neg h1] at h
   split
   ·rename_i h2
    rw [if_pos h2] at h
    split
    ·rename_i h3
     rw [if_pos h3] at h
     split
     ·rename_i h4; rw [if_pos h4] at h; exact key _ _ _ _ h
     ·rename_i h4; rw [if_neg h4] at h; exact key _ _ _ _ h
    ·rename_i h3
     rw [if_neg h3] at h
     split
     ·rename_i h4; rw [if_pos h4] at h; exact h
     ·rename_i h4; rw [if_neg h4] at h; exact key _ _ _ _ h
   ·rename_i h2
    rw [if_neg h2] at h
    split
    ·rename_i h3
     rw [if_pos h3] at h
     split
     ·rename_i h4; rw [if_pos h4] at h; exact h
     ·rename_i h4; rw [if_neg h4] at h; exact key _ _ _ _ h
    ·rename_i h3
     rw [if_neg h3] at h
     exact h
/-- The answer, however many steps it takes. -/
def Uni (r s : List Nd) (x : Uans) : Prop := ∃ f, uniF f r s = some x
theorem uniF_mono {f : Nat} {r s : List Nd} {x : Uans} (h : uniF f r s = some x) : ∀ k, uniF (f + k) r s = some x
 | 0 => h
 | k + 1 => uniF_more _ _ _ _ (uniF_mono h k)
theorem Uni.one {r s : List Nd} {x y : Uans} (h : Uni r s x) (h' : Uni r s y) : x = y := by
 obtain ⟨f, h⟩ := h
 obtain ⟨g, h'⟩ := h'
 have h1 := uniF_mono h g
 have h2 := uniF_mono h' f
 rw [Nat.add_comm] at h2
 rw [h1] at h2
 exact Option.some.inj h2
/-! The steps. -/
theorem Uni.nil (s : List Nd) : Uni [] s (.inr []) := ⟨1, by cases s <;> rfl⟩
theorem Uni.head {a : Nd} {r s : List Nd} {x : Uans} (h : Uni r s x) : Uni (a :: r) (a :: s) x := by
 obtain ⟨f, h⟩ := h
 exact ⟨f + 1, by rw [uniF, if_pos rfl]; exact h⟩
theorem Uni.same {r s : List Nd} {x : Uans} (h : Uni r s x) : ∀ p : List Nd, Uni (p ++ r) (p ++ s) x
 | [] => h
 | _ :: p => Uni.head (Uni.same h p)
theorem Uni.vars {m n : List UInt8} {r s : List Nd} {x : Uans} (hmn : n < m) (h : Uni (subF (Go.Proofs.YtikpipenhamdbaaGreat.one m [(2, n, 0)]) r) (subF (Go.Proofs.YtikpipenhamdbaaGreat.one m [(2, n, 0)]) s) x) : Uni ((2, m, 0) :: r) ((2, n, 0) :: s) (putU (m, [(2, n, 0)]) x) := by
 obtain ⟨f, h⟩ := h
 refine ⟨f + 1, ?_⟩
 have hne : ((2, m, 0) : Nd) ≠ (2, n, 0) := fun e => by
  injection e with _ e
  injection e with e _
  subst e
  exact List.lt_irrefl _ hmn
 rw [uniF, if_neg hne, if_pos rfl, if_pos rfl, if_pos hmn, h]
 rfl
theorem Uni.vars' {m n : List UInt8} {r s : List Nd} {x : Uans} (hne : m ≠ n) (hmn : ¬ n < m) (h : Uni (subF (Go.Proofs.YtikpipenhamdbaaGreat.one n [(2, m, 0)]) r) (subF (Go.Proofs.YtikpipenhamdbaaGreat.one n [(2, m, 0)]) s) x) : Uni ((2, m, 0) :: r) ((2, n, 0) :: s) (putU (n, [(2, m, 0)]) x) := by
 obtain ⟨f, h⟩ := h
 refine ⟨f + 1, ?_⟩
 have hne : ((2, m, 0) : Nd) ≠ (2, n, 0) := fun e => by
  injection e with _ e
  injection e with e _
  exact hne e
 rw [uniF, if_neg hne, if_pos rfl, if_pos rfl, if_neg hmn, h]
 rfl
/-- A tree that is no variable. -/
def noVar (u : List Nd) : Prop := ∃ b v, u = b :: v ∧ b.1 ≠ 2
theorem Uni.bind {n : List UInt8} {u r s : List Nd} {x : Uans} (hu : eats 1 u = true) (hn : noVar u) (ho : (2, n, 0) ∉ u) (h : Uni (subF (Go.Proofs.YtikpipenhamdbaaGreat.one n u) r) (subF (Go.Proofs.YtikpipenhamdbaaGreat.one n u) s) x) : Uni ((2, n, 0) :: r) (u ++ s) (putU (n, u) x) := by
 obtain ⟨f, h⟩ := h
 obtain ⟨b, v, rfl, hb⟩ := hn
 have hc := cut_app (b :: v) 1 s hu
 refine ⟨f + 1, ?_⟩
 rw [List.cons_append] at hc ⊢
 rw [uniF, if_neg (fun e => hb (by rw [← e])), if_pos rfl, if_neg hb, hc, if_neg ho, h]
 rfl
theorem Uni.bind' {n : List UInt8} {u r s : List Nd} {x : Uans} (hu : eats 1 u = true) (hn : noVar u) (ho : (2, n, 0) ∉ u) (h : Uni (subF (Go.Proofs.YtikpipenhamdbaaGreat.one n u) r) (subF (Go.Proofs.YtikpipenhamdbaaGreat.one n u) s) x) : Uni (u ++ r) ((2, n, 0) :: s) (putU (n, u) x) := by
 obtain ⟨f, h⟩ := h
 obtain ⟨b, v, rfl, hb⟩ := hn
 have hc := cut_app (b :: v) 1 r hu
 refine ⟨f + 1, ?_⟩
 rw [List.cons_append] at hc ⊢
 rw [uniF, if_neg (fun e => hb (by rw [e])), if_neg hb, if_pos rfl, hc, if_neg ho, h]
 rfl
theorem Uni.occurs {n : List UInt8} {u r s : List Nd} (hu : eats 1 u = true) (hn : noVar u) (ho : (2, n, 0) ∈ u) : Uni ((2, n, 0) :: r) (u ++ s) (.inl 51) := by
 obtain ⟨b, v, rfl, hb⟩ := hn
 have hc := cut_app (b :: v) 1 s hu
 refine ⟨1, ?_⟩
 rw [List.cons_append] at hc ⊢
 rw [uniF, if_neg (fun e => hb (by rw [← e])), if_pos rfl, if_neg hb, hc, if_pos ho]
theorem Uni.occurs' {n : List UInt8} {u r s : List Nd} (hu : eats 1 u = true) (hn : noVar u) (ho : (2, n, 0) ∈ u) : Uni (u ++ r) ((2, n, 0) :: s) (.inl 51) := by
 obtain ⟨b, v, rfl, hb⟩ := hn
 have hc := cut_app (b :: v) 1 r hu
 refine ⟨1, ?_⟩
 rw [List.cons_append] at hc ⊢
 rw [uniF, if_neg (fun e => hb (by rw [e])), if_neg hb, if_pos rfl, hc, if_pos ho]
theorem Uni.clash {a b : Nd} {r s : List Nd} (ha : a.1 ≠ 2) (hb : b.1 ≠ 2) (hab : a ≠ b) : Uni (a :: r) (b :: s) (.inl 50) :=
 ⟨1, by rw [uniF, if_neg hab, if_neg ha, if_neg hb]⟩
/-- Every case of two rows of equally many trees, more than none. -/
theorem un_cases {k : Nat} {r s : List Nd} (hr : eats (k + 1) r = true) (hs : eats (k + 1) s = true) (vr : vok r) (vs : vok s) :
  ∃ (a b : Nd) (u v r' s' : List Nd), r = (a :: u) ++ r' ∧ s = (b :: v) ++ s' ∧ eats 1 (a :: u) = true ∧ eats 1 (b :: v) = true ∧ eats k r' = true ∧ eats k s' = true ∧ (a.1 = 2 → u = [] ∧ a = (2, a.2.1, 0)) ∧ (b.1 = 2 → v = [] ∧ b = (2, b.2.1, 0)) := by
 rw [Nat.add_comm] at hr hs
 obtain ⟨p, r', rfl, hp, hr'⟩ := eats_cut r 1 k hr
 obtain ⟨q, s', rfl, hq, hs'⟩ := eats_cut s 1 k hs
 have vp := (vok_app.1 vr).1
 have vq := (vok_app.1 vs).1
 have key : ∀ p : List Nd, eats 1 p = true → vok p → ∃ a u, p = a :: u ∧ (a.1 = 2 → u = [] ∧ a = (2, a.2.1, 0)) := fun p hp vp => by
  cases p with
  | nil => simp [eats] at hp
  | cons a u =>
   refine ⟨a, u, rfl, fun h2 => ?_⟩
   have h0 := (vok_cons.1 vp).1 h2
   refine ⟨?_, var_form h2 h0⟩
   have hp : eats (0 + a.2.2) u = true := hp
   rw [h0] at hp
   cases u with
   | nil => rfl
   | cons => simp [eats] at hp
 obtain ⟨a, u, rfl, ha⟩ := key p hp vp
 obtain ⟨b, v, rfl, hb⟩ := key q hq vq
 exact ⟨a, b, u, v, r', s', rfl, rfl, hp, hq, hr', hs', ha, hb⟩
end Go.Proofs.YtikpipenhamdbaaGreat

namespace Go.Proofs.YtikpipenhamdbaaGreat

/-- What was bound is right: trees, and no bound name is left. -/
structure Lok (l : List (List UInt8 × List Nd)) : Prop where
 tree : ∀ b ∈ l, eats 1 b.2 = true ∧ vok b.2
 gone : ∀ q, vok q → ∀ b ∈ l, (2, b.1, 0) ∉ subL l q
theorem subL_vok : ∀ {l : List (List UInt8 × List Nd)}, (∀ b ∈ l, eats 1 b.2 = true ∧ vok b.2) → ∀ r : List Nd, vok r → vok (subL l r)
 | [], _, _, h => h
 | b :: _, hl, r, h => subL_vok (fun c hc => hl c (List.mem_cons_of_mem _ hc)) _ (sub_vok (one_ok (hl b List.mem_cons_self).1 (hl b List.mem_cons_self).2) r h)
theorem subL_eats : ∀ {l : List (List UInt8 × List Nd)}, (∀ b ∈ l, eats 1 b.2 = true ∧ vok b.2) → ∀ (r : List Nd) (k : Nat), vok r → eats k r = true → eats k (subL l r) = true
 | [], _, _, _, _, h => h
 | b :: _, hl, r, k, hv, h =>
  have ok := one_ok (x := b.1) (hl b List.mem_cons_self).1 (hl b List.mem_cons_self).2
  subL_eats (fun c hc => hl c (List.mem_cons_of_mem _ hc)) _ k (sub_vok ok r hv) (sub_eats ok r k hv h)
theorem subL_free : ∀ {l : List (List UInt8 × List Nd)} {r : List Nd}, vok r → (∀ b ∈ l, (2, b.1, 0) ∉ r) → subL l r = r
 | [], _, _, _ => rfl
 | b :: l, r, hv, h => by
  show subL l (subF (one b.1 b.2) r) = r
  rw [sub_one_free r hv (h b List.mem_cons_self)]
  exact subL_free hv fun c hc => h c (List.mem_cons_of_mem _ hc)
/-- Once is enough. -/
theorem Lok.twice {l : List (List UInt8 × List Nd)} (h : Lok l) {q : List Nd} (hv : vok q) : subL l (subL l q) = subL l q :=
 subL_free (subL_vok h.tree q hv) (h.gone q hv)
theorem subL_vars {n : List UInt8} : ∀ {l : List (List UInt8 × List Nd)} (_ : ∀ b ∈ l, eats 1 b.2 = true ∧ vok b.2) (r : List Nd), vok r → (2, n, 0) ∈ subL l r → (2, n, 0) ∈ r ∨ ∃ b ∈ l, (2, n, 0) ∈ b.2
 | [], _, _, _, h => .inl h
 | b :: l, hl, r, hv, h => by
  have ok := one_ok (x := b.1) (hl b List.mem_cons_self).1 (hl b List.mem_cons_self).2
  rcases subL_vars (fun c hc => hl c (List.mem_cons_of_mem _ hc)) _ (sub_vok ok r hv) h with h | ⟨c, hc, h⟩
  ·rcases one_vars r hv h with h | h
   ·exact .inl h
   ·exact .inr ⟨b, List.mem_cons_self, h⟩
  ·exact .inr ⟨c, List.mem_cons_of_mem _ hc, h⟩
/-- What an answer says of two rows. -/
def Good (r s : List Nd) : Uans → Prop
 | .inl c => (c = 50 ∨ c = 51) ∧ ∀ θ, sok θ → subF θ r ≠ subF θ s
 | .inr l => subL l r = subL l s ∧ (∀ θ, sok θ → subF θ r = subF θ s → ∀ q, vok q → subF θ (subL l q) = subF θ q) ∧ Lok l ∧ ∀ b ∈ l, ((2, b.1, 0) ∈ r ∨ (2, b.1, 0) ∈ s) ∧ ∀ n, (2, n, 0) ∈ b.2 → (2, n, 0) ∈ r ∨ (2, n, 0) ∈ s
theorem Good.turn {r s : List Nd} {x : Uans} (h : Good r s x) : Good s r x := by
 cases x with
 | inl c => exact ⟨h.1, fun θ hθ e => h.2 θ hθ e.symm⟩
 | inr l => exact ⟨h.1.symm, fun θ hθ e => h.2.1 θ hθ e.symm, h.2.2.1, fun b hb => ⟨(h.2.2.2 b hb).1.symm, fun n hn => ((h.2.2.2 b hb).2 n hn).symm⟩⟩
theorem Good.nil : Good [] [] (.inr []) := ⟨rfl, fun _ _ _ _ _ => rfl, ⟨fun _ h => by simp at h, fun _ _ _ h => by simp at h⟩, fun _ h => by simp at h⟩
theorem Good.same {p r s : List Nd} {x : Uans} (h : Good r s x) : Good (p ++ r) (p ++ s) x := by
 cases x with
 | inl c => exact ⟨h.1, fun θ hθ e => h.2 θ hθ (un_same.1 e)⟩
 | inr l =>
  refine ⟨by rw [subL_app, subL_app, h.1], fun θ hθ e => h.2.1 θ hθ (un_same.1 e), h.2.2.1, fun b hb => ⟨?_, fun n hn => ?_⟩⟩
  ·exact (h.2.2.2 b hb).1.imp (fun q => List.mem_append_right _ q) (fun q => List.mem_append_right _ q)
  ·exact ((h.2.2.2 b hb).2 n hn).imp (fun q => List.mem_append_right _ q) (fun q => List.mem_append_right _ q)
theorem Good.bind {n : List UInt8} {u r s : List Nd} {x : Uans} (hu : eats 1 u = true) (vu : vok u) (ho : (2, n, 0) ∉ u) (vr : vok r) (vs : vok s) (h : Good (subF (one n u) r) (subF (one n u) s) x) : Good ((2, n, 0) :: r) (u ++ s) (putU (n, u) x) := by
 have ok := one_ok (x := n) hu vu
 have key : ∀ θ, sok θ → subF θ ((2, n, 0) :: r) = subF θ (u ++ s) → vF θ n = subF θ u ∧ subF θ (subF (one n u) r) = subF θ (subF (one n u) s) := fun θ hθ e => by
  obtain ⟨h1, h2⟩ := (un_var hθ hu vu).1 e
  exact ⟨h1, by rw [sub_one h1 r vr, sub_one h1 s vs, h2]⟩
 have mem : ∀ m, (2, m, 0) ∈ subF (one n u) r ∨ (2, m, 0) ∈ subF (one n u) s → (2, m, 0) ∈ ((2, n, 0) :: r : List Nd) ∨ (2, m, 0) ∈ u ++ s := fun m hm => by
  rcases hm with hm | hm
  ·rcases one_vars r vr hm with h | h
   ·exact .inl (List.mem_cons_of_mem _ h)
   ·exact .inr (List.mem_append_left _ h)
  ·rcases one_vars s vs hm with h | h
   ·exact .inr (List.mem_append_right _ h)
   ·exact .inr (List.mem_append_left _ h)
 cases x with
 | inl c => exact ⟨h.1, fun θ hθ e => h.2 θ hθ (key θ hθ e).2⟩
 | inr l =>
  have tr : ∀ b ∈ (n, u) :: l, eats 1 b.2 = true ∧ vok b.2 := fun b hb => by
   rcases List.mem_cons.1 hb with e | e
   ·rw [e]
    exact ⟨hu, vu⟩
   ·exact h.2.2.1.tree b e
  refine ⟨?_, fun θ hθ e q vq => ?_, ⟨tr, fun q vq b hb => ?_⟩, fun b hb => ?_⟩
  ·show subL l (subF (one n u) ((2, n, 0) :: r)) = subL l (subF (one n u) (u ++ s))
   rw [subF_vc, vF_one_self, subF_app, sub_one_free u vu ho, subL_app, subL_app, h.1]
  ·obtain ⟨h1, h2⟩ := key θ hθ e
   show subF θ (subL l (subF (one n u) q)) = subF θ q
   rw [h.2.1 θ hθ h2 _ (sub_vok ok q vq), sub_one h1 q vq]
  ·rcases List.mem_cons.1 hb with e | e
   ·rw [e]
    intro hm
    rcases subL_vars h.2.2.1.tree _ (sub_vok ok q vq) hm with hm | ⟨c, hc, hm⟩
    ·exact one_gone ho q vq hm
    ·rcases (h.2.2.2 c hc).2 n hm with hm | hm
     ·exact one_gone ho r vr hm
     ·exact one_gone ho s vs hm
   ·exact h.2.2.1.gone _ (sub_vok ok q vq) b e
  ·rcases List.mem_cons.1 hb with e | e
   ·rw [e]
    exact ⟨.inl List.mem_cons_self, fun m hm => .inr (List.mem_append_left _ hm)⟩
   ·exact ⟨mem _ (h.2.2.2 b e).1, fun m hm => mem m ((h.2.2.2 b e).2 m hm)⟩
theorem Good.occurs {n : List UInt8} {u r s : List Nd} (hu : eats 1 u = true) (vu : vok u) (hn : noVar u) (ho : (2, n, 0) ∈ u) : Good ((2, n, 0) :: r) (u ++ s) (.inl 51) := by
 refine ⟨.inr rfl, fun θ hθ e => un_never hθ vu ho ?_ ((un_var hθ hu vu).1 e).1⟩
 obtain ⟨b, v, rfl, hb⟩ := hn
 cases v with
 | nil =>
  simp at ho
  rw [← ho] at hb
  exact absurd rfl hb
 | cons => simp
theorem Good.clash {a b : Nd} {r s : List Nd} (ha : a.1 ≠ 2) (hb : b.1 ≠ 2) (hab : a ≠ b) : Good (a :: r) (b :: s) (.inl 50) := ⟨.inl rfl, fun _ _ e => un_clash ha hb hab e⟩
/-- There is always an answer, and it says so. -/
theorem uni_good : ∀ (m : Nat) (V : List (List UInt8)), V.length = m → ∀ (L k : Nat) (r s : List Nd), r.length = L → eats k r = true → eats k s = true → vok r → vok s → (∀ n, (2, n, 0) ∈ r ++ s → n ∈ V) → ∃ x, Uni r s x ∧ Good r s x
 | m, V, hV, L, 0, r, s, _, hr, hs, _, _, _ => by
  cases r with
  | nil =>
   cases s with
   | nil => exact ⟨_, Uni.nil _, Good.nil⟩
   | cons => simp [eats] at hs
  | cons => simp [eats] at hr
 | m, V, hV, 0, k + 1, r, s, hL, hr, _, _, _, _ => by
  have := eats_pos hr
  omega
 | m, V, hV, L + 1, k + 1, r, s, hL, hr, hs, vr, vs, hm => by
  obtain ⟨a, b, u, v, r', s', rfl, rfl, hp, hq, hr', hs', ha, hb⟩ := un_cases hr hs vr vs
  obtain ⟨va, vr'⟩ := vok_app.1 vr
  obtain ⟨vb, vs'⟩ := vok_app.1 vs
  have bind : ∀ (n : List UInt8) (t : List Nd), n ∈ V → eats 1 t = true → vok t → (2, n, 0) ∉ t → (∀ q, (2, q, 0) ∈ t → q ∈ V) → ∃ x, Uni (subF (one n t) r') (subF (one n t) s') x ∧ Good (subF (one n t) r') (subF (one n t) s') x := fun n t hn ht vt ho hq => by
   cases m with
   | zero =>
    rw [List.length_eq_zero_iff.1 hV] at hn
    simp at hn
   | succ m =>
    have ok := one_ok (x := n) ht vt
    refine uni_good m (V.erase n) (by rw [List.length_erase_of_mem hn, hV]; rfl) _ k _ _ rfl (sub_eats ok r' k vr' hr') (sub_eats ok s' k vs' hs') (sub_vok ok r' vr') (sub_vok ok s' vs') fun q hq' => ?_
    have hne : q ≠ n := fun e => by
     subst e
     rcases List.mem_append.1 hq' with h | h
     ·exact one_gone ho r' vr' h
     ·exact one_gone ho s' vs' h
    refine (List.mem_erase_of_ne hne).2 ?_
    rcases List.mem_append.1 hq' with h | h
    ·rcases one_vars r' vr' h with h | h
     ·exact hm q (by simp [h])
     ·exact hq q h
    ·rcases one_vars s' vs' h with h | h
     ·exact hm q (by simp [h])
     ·exact hq q h
  have v1 : ∀ y : List UInt8, vok [(2, y, 0)] := fun y => by unfold vok; simp
  by_cases a2 : a.1 = 2
  ·obtain ⟨rfl, ea⟩ := ha a2
   by_cases b2 : b.1 = 2
   ·obtain ⟨rfl, eb⟩ := hb b2
    rw [ea, eb] at *
    generalize a.2.1 = x at *
    generalize b.2.1 = y at *
    have hx : x ∈ V := hm x (by simp)
    have hy : y ∈ V := hm y (by simp)
    by_cases e : x = y
    ·subst e
     obtain ⟨z, h, g⟩ := uni_good m V hV L k r' s' (by simpa using hL) hr' hs' vr' vs' fun q hq' => hm q (by
      rcases List.mem_append.1 hq' with h | h <;> simp [h])
     exact ⟨z, h.head, g.same (p := [(2, x, 0)])⟩
    ·by_cases hlt : y < x
     ·have ho : (2, x, 0) ∉ [((2, y, 0) : Nd)] := by simpa using e
      obtain ⟨z, h, g⟩ := bind x [(2, y, 0)] hx rfl (v1 y) ho (fun q h => by simp at h; rw [h]; exact hy)
      exact ⟨_, h.vars hlt, g.bind rfl (v1 y) ho vr' vs'⟩
     ·have ho : (2, y, 0) ∉ [((2, x, 0) : Nd)] := by simpa using fun q => e q.symm
      obtain ⟨z, h, g⟩ := bind y [(2, x, 0)] hy rfl (v1 x) ho (fun q h => by simp at h; rw [h]; exact hx)
      exact ⟨_, h.vars' e hlt, (g.turn.bind rfl (v1 x) ho vs' vr').turn⟩
   ·rw [ea] at *
    generalize a.2.1 = x at *
    have hx : x ∈ V := hm x (by simp)
    have nv : noVar (b :: v) := ⟨b, v, rfl, b2⟩
    by_cases ho : (2, x, 0) ∈ b :: v
    ·exact ⟨_, Uni.occurs hq nv ho, Good.occurs hq vb nv ho⟩
    ·obtain ⟨z, h, g⟩ := bind x (b :: v) hx hq vb ho (fun q h => hm q (by simp only [List.mem_append]; exact .inr (.inl h)))
     exact ⟨_, h.bind hq nv ho, g.bind hq vb ho vr' vs'⟩
  ·by_cases b2 : b.1 = 2
   ·obtain ⟨rfl, eb⟩ := hb b2
    rw [eb] at *
    generalize b.2.1 = y at *
    have hy : y ∈ V := hm y (by simp)
    have nv : noVar (a :: u) := ⟨a, u, rfl, a2⟩
    by_cases ho : (2, y, 0) ∈ a :: u
    ·exact ⟨_, Uni.occurs' hp nv ho, (Good.occurs hp va nv ho).turn⟩
    ·obtain ⟨z, h, g⟩ := bind y (a :: u) hy hp va ho (fun q h => hm q (by simp only [List.mem_append]; exact .inl (.inl h)))
     exact ⟨_, h.bind' hp nv ho, (g.turn.bind hp va ho vs' vr').turn⟩
   ·by_cases e : a = b
    ·subst e
     have hr2 : eats (k + a.2.2) (u ++ r') = true := by
      rw [Nat.add_comm]
      exact eats_app _ _ _ _ (by have : eats (0 + a.2.2) u = true := hp; rw [Nat.zero_add] at this; exact this) hr'
     have hs2 : eats (k + a.2.2) (v ++ s') = true := by
      rw [Nat.add_comm]
      exact eats_app _ _ _ _ (by have : eats (0 + a.2.2) v = true := hq; rw [Nat.zero_add] at this; exact this) hs'
     obtain ⟨z, h, g⟩ := uni_good m V hV L _ (u ++ r') (v ++ s') (by simpa using hL) hr2 hs2 (vok_app.2 ⟨(vok_cons.1 va).2, vr'⟩) (vok_app.2 ⟨(vok_cons.1 vb).2, vs'⟩) fun q hq' => hm q (by
      simp only [List.mem_append, List.mem_cons] at hq' ⊢
      rcases hq' with (h | h) | (h | h)
      ·exact .inl (.inl (.inr h))
      ·exact .inl (.inr h)
      ·exact .inr (.inl (.inr h))
      ·exact .inr (.inr h))
     exact ⟨z, h.head, g.same (p := [a])⟩
    ·exact ⟨_, Uni.clash a2 b2 e, Good.clash a2 b2 e⟩
/-- Of two trees. -/
theorem uni_trees {r s : List Nd} {k : Nat} (hr : eats k r = true) (hs : eats k s = true) (vr : vok r) (vs : vok s) : ∃ x, Uni r s x ∧ Good r s x :=
 uni_good _ ((r ++ s).map (·.2.1)) rfl _ k r s rfl hr hs vr vs fun _ h => List.mem_map.2 ⟨_, h, rfl⟩
theorem Uni.good {r s : List Nd} {k : Nat} {x : Uans} (h : Uni r s x) (hr : eats k r = true) (hs : eats k s = true) (vr : vok r) (vs : vok s) : Good r s x := by
 obtain ⟨y, h1, h2⟩ := uni_trees hr hs vr vs
 rw [h.one h1]
 exact h2
end Go.Proofs.YtikpipenhamdbaaGreat

namespace Go.Proofs.YtikpipenhamdbaaGreat

theorem mem_long (dn : Nat → List Nd) : ∀ (aL : List Nat) (a : Nat), a ∈ aL → (dn a).length ≤ (aL.flatMap dn).length
 | [], _, h => by simp at h
 | b :: aL, a, h => by
  rw [List.flatMap_cons, List.length_append]
  rcases List.mem_cons.1 h with e | e
  ·rw [e]
   omega
  ·have := mem_long dn aL a e
   omega
theorem eats_all (dn : Nat → List Nd) : ∀ aL : List Nat, (∀ a ∈ aL, eats 1 (dn a) = true ∧ vok (dn a)) → eats aL.length (aL.flatMap dn) = true ∧ vok (aL.flatMap dn)
 | [], _ => ⟨rfl, vok_nil⟩
 | a :: aL, h => by
  obtain ⟨h1, h2⟩ := eats_all dn aL fun b hb => h b (List.mem_cons_of_mem _ hb)
  obtain ⟨h3, h4⟩ := h a List.mem_cons_self
  rw [List.flatMap_cons, List.length_cons, Nat.add_comm]
  exact ⟨eats_app _ _ _ _ h3 h1, vok_app.2 ⟨h4, h2⟩⟩
theorem flat_same {dn dn' : Nat → List Nd} : ∀ aL : List Nat, (∀ a ∈ aL, dn' a = dn a) → aL.flatMap dn' = aL.flatMap dn
 | [], _ => rfl
 | a :: aL, h => by
  rw [List.flatMap_cons, List.flatMap_cons, h a List.mem_cons_self, flat_same aL fun b hb => h b (List.mem_cons_of_mem _ hb)]
theorem subF_flat (σ : Sb) (dn : Nat → List Nd) : ∀ aL : List Nat, aL.flatMap (fun k => subF σ (dn k)) = subF σ (aL.flatMap dn)
 | [] => rfl
 | a :: aL => by rw [List.flatMap_cons, List.flatMap_cons, subF_app, subF_flat σ dn aL]
/-- A function that says something else at one place. -/
def putN (f : Nat → Nat) (i t : Nat) : Nat → Nat := fun j => if j = i then t else f j
theorem putN_self (f : Nat → Nat) (i t : Nat) : putN f i t i = t := if_pos rfl
theorem putN_other (f : Nat → Nat) {i j : Nat} (t : Nat) (h : j ≠ i) : putN f i t j = f j := if_neg h
/-- What the nodes of a graph stand for: dn; where they lead at last: rt; the way there grows less: rk. -/
structure Den (n : Nat) (lb : Nat → Int × List UInt8) (ar : Nat → List Nat) (tg : Nat → Nat) (dn : Nat → List Nd) (rt rk : Nat → Nat) : Prop where
 arg : ∀ i, i < n → ∀ a ∈ ar i, a < n
 tow : ∀ i, i < n → tg i < n
 root : ∀ i, i < n → tg i = i → rt i = i ∧ dn i = ((lb i).1, (lb i).2, (ar i).length) :: (ar i).flatMap dn
 link : ∀ i, i < n → tg i ≠ i → rt i = rt (tg i) ∧ dn i = dn (tg i) ∧ rk (tg i) < rk i
 var : ∀ i, i < n → (lb i).1 = 2 → ar i = []
 uni : ∀ i j, i < n → j < n → (lb i).1 = 2 → (lb j).1 = 2 → (lb i).2 = (lb j).2 → i = j
section
variable {n : Nat} {lb : Nat → Int × List UInt8} {ar : Nat → List Nat} {tg : Nat → Nat} {dn : Nat → List Nd} {rt rk : Nat → Nat}
theorem Den.end_ok (h : Den n lb ar tg dn rt rk) : ∀ (k i : Nat), i < n → rk i ≤ k → rt i < n ∧ tg (rt i) = rt i ∧ dn (rt i) = dn i ∧ rk (rt i) ≤ rk i
 | k, i, hi, hk => by
  by_cases ht : tg i = i
  ·rw [(h.root i hi ht).1]
   exact ⟨hi, ht, rfl, Nat.le_refl _⟩
  ·obtain ⟨h1, h2, h3⟩ := h.link i hi ht
   cases k with
   | zero => omega
   | succ k =>
    obtain ⟨g1, g2, g3, g4⟩ := h.end_ok k (tg i) (h.tow i hi) (by omega)
    rw [h1]
    exact ⟨g1, g2, g3.trans h2.symm, by omega⟩
theorem Den.rt_lt (h : Den n lb ar tg dn rt rk) {i : Nat} (hi : i < n) : rt i < n := (h.end_ok _ i hi (Nat.le_refl _)).1
theorem Den.rt_tg (h : Den n lb ar tg dn rt rk) {i : Nat} (hi : i < n) : tg (rt i) = rt i := (h.end_ok _ i hi (Nat.le_refl _)).2.1
theorem Den.rt_dn (h : Den n lb ar tg dn rt rk) {i : Nat} (hi : i < n) : dn (rt i) = dn i := (h.end_ok _ i hi (Nat.le_refl _)).2.2.1
theorem Den.rt_rt (h : Den n lb ar tg dn rt rk) {i : Nat} (hi : i < n) : rt (rt i) = rt i := (h.root _ (h.rt_lt hi) (h.rt_tg hi)).1
/-- What a node stands for, by the node that it leads to. -/
theorem Den.form (h : Den n lb ar tg dn rt rk) {i : Nat} (hi : i < n) : dn i = ((lb (rt i)).1, (lb (rt i)).2, (ar (rt i)).length) :: (ar (rt i)).flatMap dn := by
 rw [← h.rt_dn hi]
 exact (h.root _ (h.rt_lt hi) (h.rt_tg hi)).2
theorem Den.less (h : Den n lb ar tg dn rt rk) {i : Nat} (hi : i < n) {a : Nat} (ha : a ∈ ar (rt i)) : (dn a).length < (dn i).length := by
 rw [h.form hi, List.length_cons]
 have := mem_long dn _ a ha
 omega
theorem Den.argr (h : Den n lb ar tg dn rt rk) {i : Nat} (hi : i < n) {a : Nat} (ha : a ∈ ar (rt i)) : a < n := h.arg _ (h.rt_lt hi) a ha
theorem Den.tree_of (h : Den n lb ar tg dn rt rk) : ∀ (L i : Nat), i < n → (dn i).length ≤ L → eats 1 (dn i) = true ∧ vok (dn i)
 | L, i, hi, hL => by
  cases L with
  | zero =>
   rw [h.form hi] at hL
   simp at hL
  | succ L =>
   obtain ⟨h1, h2⟩ := eats_all dn (ar (rt i)) fun a ha => h.tree_of L a (h.argr hi ha) (by have := h.less hi ha; omega)
   rw [h.form hi]
   refine ⟨?_, vok_cons.2 ⟨fun e => ?_, h2⟩⟩
   ·show eats (0 + (ar (rt i)).length) _ = true
    rw [Nat.zero_add]
    exact h1
   ·have e : (lb (rt i)).1 = 2 := e
    show (ar (rt i)).length = 0
    rw [h.var _ (h.rt_lt hi) e]
    rfl
theorem Den.tree (h : Den n lb ar tg dn rt rk) {i : Nat} (hi : i < n) : eats 1 (dn i) = true := (h.tree_of _ i hi (Nat.le_refl _)).1
theorem Den.vok (h : Den n lb ar tg dn rt rk) {i : Nat} (hi : i < n) : vok (dn i) := (h.tree_of _ i hi (Nat.le_refl _)).2
theorem Den.trees (h : Den n lb ar tg dn rt rk) {aL : List Nat} (ha : ∀ a ∈ aL, a < n) : eats aL.length (aL.flatMap dn) = true ∧ Go.Proofs.YtikpipenhamdbaaGreat.vok (aL.flatMap dn) := eats_all dn aL fun a q => ⟨h.tree (ha a q), h.vok (ha a q)⟩
/-- A variable that leads nowhere. -/
theorem Den.free (h : Den n lb ar tg dn rt rk) {i : Nat} (hi : i < n) (hv : (lb (rt i)).1 = 2) : dn i = [(2, (lb (rt i)).2, 0)] := by
 rw [h.form hi, h.var _ (h.rt_lt hi) hv, hv]
 rfl
/-- Where a variable stands in what a node stands for, some node is it. -/
theorem Den.mem_of (h : Den n lb ar tg dn rt rk) (x : List UInt8) : ∀ (L i : Nat), i < n → (dn i).length ≤ L → ((2, x, 0) : Nd) ∈ dn i → ∃ v, v < n ∧ tg v = v ∧ (lb v).1 = 2 ∧ (lb v).2 = x ∧ (rt i = v ∨ ∃ j a, j < n ∧ a ∈ ar j ∧ rt a = v)
 | L, i, hi, hL, hm => by
  cases L with
  | zero =>
   rw [h.form hi] at hL
   simp at hL
  | succ L =>
   rw [h.form hi] at hm
   rcases List.mem_cons.1 hm with e | e
   ·injection e with e1 e2
    injection e2 with e2 e3
    exact ⟨rt i, h.rt_lt hi, h.rt_tg hi, e1.symm, e2.symm, .inl rfl⟩
   ·obtain ⟨a, ha, e⟩ := List.mem_flatMap.1 e
    have hl := h.less hi ha
    obtain ⟨v, h1, h2, h3, h4, h5⟩ := h.mem_of x L a (h.argr hi ha) (by omega) e
    refine ⟨v, h1, h2, h3, h4, .inr ?_⟩
    rcases h5 with h5 | h5
    ·exact ⟨rt i, a, h.rt_lt hi, ha, h5⟩
    ·exact h5
theorem Den.mem (h : Den n lb ar tg dn rt rk) {x : List UInt8} {i : Nat} (hi : i < n) (hm : ((2, x, 0) : Nd) ∈ dn i) : ∃ v, v < n ∧ tg v = v ∧ (lb v).1 = 2 ∧ (lb v).2 = x ∧ (rt i = v ∨ ∃ j a, j < n ∧ a ∈ ar j ∧ rt a = v) := h.mem_of x _ i hi (Nat.le_refl _) hm
/-- Two nodes that lead to one stand for one. -/
theorem Den.one_rt (h : Den n lb ar tg dn rt rk) {i j : Nat} (hi : i < n) (hj : j < n) (e : rt i = rt j) : dn i = dn j := by rw [← h.rt_dn hi, ← h.rt_dn hj, e]
/-- A way grows shorter. -/
theorem Den.half (h : Den n lb ar tg dn rt rk) {i : Nat} (hi : i < n) (ht : tg i ≠ i) : Den n lb ar (putN tg i (tg (tg i))) dn rt rk := by
 have h2 := h.tow i hi
 obtain ⟨g1, g2, g3⟩ := h.link i hi ht
 have key : rt (tg i) = rt (tg (tg i)) ∧ dn (tg i) = dn (tg (tg i)) ∧ rk (tg (tg i)) ≤ rk (tg i) := by
  by_cases e : tg (tg i) = tg i
  ·rw [e]
   exact ⟨rfl, rfl, Nat.le_refl _⟩
  ·obtain ⟨k1, k2, k3⟩ := h.link _ h2 e
   exact ⟨k1, k2, by omega⟩
 refine ⟨h.arg, fun j hj => ?_, fun j hj e => ?_, fun j hj e => ?_, h.var, h.uni⟩
 ·by_cases q : j = i
  ·rw [q, putN_self]
   exact h.tow _ h2
  ·rw [putN_other _ _ q]
   exact h.tow j hj
 ·by_cases q : j = i
  ·rw [q, putN_self] at e
   rw [e] at key
   omega
  ·rw [putN_other _ _ q] at e
   exact h.root j hj e
 ·by_cases q : j = i
  ·rw [q, putN_self]
   exact ⟨g1.trans key.1, g2.trans key.2.1, by omega⟩
  ·rw [putN_other _ _ q] at e ⊢
   exact h.link j hj e
/-- A node that leads nowhere is led to another one; what all stand for turns accordingly. -/
theorem Den.lead (h : Den n lb ar tg dn rt rk) {i t : Nat} (hi : i < n) (ht : t < n) (hii : tg i = i) (htt : tg t = t) (hne : i ≠ t) {dn' : Nat → List Nd} (h1 : dn' i = dn' t) (h2 : ∀ r, r < n → tg r = r → r ≠ i → dn' r = ((lb r).1, (lb r).2, (ar r).length) :: (ar r).flatMap dn') (h3 : ∀ k, k < n → tg k ≠ k → dn' k = dn' (tg k)) :
  Den n lb ar (putN tg i t) dn' (fun k => if rt k = i then t else rt k) (fun k => if rt k = i then rk k + rk t + 1 else rk k) := by
 have hri := (h.root i hi hii).1
 have hrt := (h.root t ht htt).1
 refine ⟨h.arg, fun j hj => ?_, fun j hj e => ?_, fun j hj e => ?_, h.var, h.uni⟩
 ·by_cases q : j = i
  ·rw [q, putN_self]
   exact ht
  ·rw [putN_other _ _ q]
   exact h.tow j hj
 ·by_cases q : j = i
  ·rw [q, putN_self] at e
   exact absurd e.symm hne
  ·rw [putN_other _ _ q] at e
   have hr := (h.root j hj e).1
   exact ⟨by simp only [hr, q, if_false], h2 j hj e q⟩
 ·by_cases q : j = i
  ·rw [q, putN_self]
   refine ⟨?_, h1, ?_⟩
   ·simp only [hri, hrt, if_true, if_neg (Ne.symm hne)]
   ·simp only [hri, hrt, if_true, if_neg (Ne.symm hne)]
    omega
  ·rw [putN_other _ _ q] at e ⊢
   obtain ⟨k1, _, k3⟩ := h.link j hj e
   refine ⟨?_, h3 j hj e, ?_⟩
   ·simp only [k1]
   ·simp only [← k1]
    split
    ·omega
    ·exact k3
/-- A variable is bound. -/
theorem Den.bind (h : Den n lb ar tg dn rt rk) {i t : Nat} (hi : i < n) (ht : t < n) (hii : tg i = i) (htt : tg t = t) (hv : (lb i).1 = 2) (ho : ((2, (lb i).2, 0) : Nd) ∉ dn t) :
  Den n lb ar (putN tg i t) (fun k => subF (one (lb i).2 (dn t)) (dn k)) (fun k => if rt k = i then t else rt k) (fun k => if rt k = i then rk k + rk t + 1 else rk k) := by
 have hri := (h.root i hi hii).1
 have hdi : dn i = [(2, (lb i).2, 0)] := by
  have := h.free hi (by rw [hri]; exact hv)
  rw [hri] at this
  exact this
 have hne : i ≠ t := fun e => ho (by rw [← e, hdi]; exact List.mem_cons_self)
 refine h.lead hi ht hii htt hne ?_ (fun r hr e q => ?_) fun k hk e => ?_
 ·show subF _ (dn i) = subF _ (dn t)
  rw [hdi, subF_v, vF_one_self, sub_one_free _ (h.vok ht) ho]
 ·show subF _ (dn r) = _
  rw [(h.root r hr e).2]
  by_cases hr2 : (lb r).1 = 2
  ·have ha := h.var r hr hr2
   rw [ha, hr2]
   show subF _ [(2, (lb r).2, 0)] = [(2, (lb r).2, 0)]
   rw [subF_v, vF_one_other _ fun e2 => q (h.uni r i hr hi hr2 hv e2)]
  ·rw [subF_node _ (show ((lb r).1, (lb r).2, (ar r).length).1 ≠ 2 from hr2), subF_flat]
 ·show subF _ (dn k) = subF _ (dn (tg k))
  rw [(h.link k hk e).2.1]
/-- Two nodes that stand for one are made one. -/
theorem Den.meet (h : Den n lb ar tg dn rt rk) {i t : Nat} (hi : i < n) (ht : t < n) (hii : tg i = i) (htt : tg t = t) (hne : i ≠ t) (hd : dn i = dn t) :
  Den n lb ar (putN tg i t) dn (fun k => if rt k = i then t else rt k) (fun k => if rt k = i then rk k + rk t + 1 else rk k) :=
 h.lead hi ht hii htt hne hd (fun r hr e _ => (h.root r hr e).2) fun k hk e => (h.link k hk e).2.1
/-- A node more. -/
theorem Den.more (h : Den n lb ar tg dn rt rk) (l : Int × List UInt8) (aL : List Nat) (ha : ∀ a ∈ aL, a < n) (hv : l.1 = 2 → aL = [] ∧ ∀ i, i < n → (lb i).1 = 2 → (lb i).2 ≠ l.2) :
  Den (n + 1) (fun j => if j = n then l else lb j) (fun j => if j = n then aL else ar j) (putN tg n n) (fun j => if j = n then (l.1, l.2, aL.length) :: aL.flatMap dn else dn j) (putN rt n n) rk := by
 have hold : ∀ bs : List Nat, (∀ b ∈ bs, b < n) → bs.flatMap (fun j => if j = n then (l.1, l.2, aL.length) :: aL.flatMap dn else dn j) = bs.flatMap dn := fun bs hb => flat_same bs fun b q => if_neg (by have := hb b q; omega)
 refine ⟨fun i hi => ?_, fun i hi => ?_, fun i hi e => ?_, fun i hi e => ?_, fun i hi e => ?_, fun i j hi hj e1 e2 e3 => ?_⟩
 ·by_cases q : i = n
  ·simp only [q, if_true]
   intro a h1
   have := ha a h1
   omega
  ·simp only [if_neg q]
   intro a h1
   have := h.arg i (by omega) a h1
   omega
 ·by_cases q : i = n
  ·rw [q, putN_self]
   omega
  ·rw [putN_other _ _ q]
   have := h.tow i (by omega)
   omega
 ·by_cases q : i = n
  ·simp only [q, if_true, putN_self, true_and]
   rw [hold aL ha]
  ·rw [putN_other _ _ q] at e
   have hi' : i < n := by omega
   rw [putN_other _ _ q]
   simp only [if_neg q]
   rw [hold _ (h.arg i hi')]
   exact h.root i hi' e
 ·by_cases q : i = n
  ·rw [q, putN_self] at e
   exact absurd rfl e
  ·rw [putN_other _ _ q] at e
   have hi' : i < n := by omega
   have hti := h.tow i hi'
   have q2 : tg i ≠ n := by omega
   rw [putN_other tg _ q, putN_other rt _ q, putN_other rt _ q2]
   simp only [if_neg q, if_neg q2]
   exact h.link i hi' e
 ·by_cases q : i = n
  ·simp only [q, if_true] at e ⊢
   exact (hv e).1
  ·simp only [if_neg q] at e ⊢
   exact h.var i (by omega) e
 ·by_cases q : i = n
  ·by_cases q2 : j = n
   ·rw [q, q2]
   ·simp only [q, if_true, if_neg q2] at e1 e2 e3
    exact absurd e3.symm ((hv e1).2 j (by omega) e2)
  ·by_cases q2 : j = n
   ·simp only [q2, if_true, if_neg q] at e1 e2 e3
    exact absurd e3 ((hv e2).2 i (by omega) e1)
   ·simp only [if_neg q, if_neg q2] at e1 e2 e3
    exact h.uni i j (by omega) (by omega) e1 e2 e3
/-- A variable that stands within something bears a mark. -/
def Mk (n : Nat) (lb : Nat → Int × List UInt8) (ar : Nat → List Nat) (rt : Nat → Nat) (ins : Nat → Bool) : Prop := ∀ i, i < n → ∀ a ∈ ar i, (lb (rt a)).1 = 2 → ins (rt a) = true
/-- What bears no mark stands within nothing. -/
theorem Den.clear (h : Den n lb ar tg dn rt rk) {ins : Nat → Bool} (m : Mk n lb ar rt ins) {v t : Nat} (hv : v < n) (ht : t < n) (hvv : tg v = v) (htt : tg t = t) (h2 : (lb v).1 = 2) (hne : v ≠ t) (hi : ins v = false) : ((2, (lb v).2, 0) : Nd) ∉ dn t := fun hm => by
 obtain ⟨w, h3, h4, h5, h6, h7⟩ := h.mem ht hm
 have e := h.uni w v h3 hv h5 h2 h6
 subst e
 rcases h7 with h7 | ⟨j, a, hj, ha, h7⟩
 ·rw [(h.root t ht htt).1] at h7
  exact hne h7.symm
 ·have := m j hj a ha (by rw [h7]; exact h2)
  rw [h7, hi] at this
  cases this
end
end Go.Proofs.YtikpipenhamdbaaGreat

namespace Go.Proofs.YtikpipenhamdbaaGreat

/-- First σ, then θ. -/
def thenS (σ θ : Sb) : Sb := fun n => some (subF θ (vF σ n))
theorem then_vF (σ θ : Sb) (n : List UInt8) : vF (thenS σ θ) n = subF θ (vF σ n) := rfl
theorem then_sub (σ θ : Sb) : ∀ r : List Nd, vok r → subF (thenS σ θ) r = subF θ (subF σ r)
 | [], _ => rfl
 | nd :: r, hv => by
  obtain ⟨hv1, hv2⟩ := vok_cons.1 hv
  by_cases h2 : nd.1 = 2
  ·rw [var_form h2 (hv1 h2), subF_vc, subF_vc, subF_app, then_vF, then_sub σ θ r hv2]
  ·rw [subF_node _ h2, subF_node _ h2, subF_node _ h2, then_sub σ θ r hv2]
theorem then_ok {σ θ : Sb} (hσ : sok σ) (hθ : sok θ) : sok (thenS σ θ) := fun n r e => by
 injection e with e
 subst e
 obtain ⟨h1, h2⟩ := vF_ok hσ n
 exact ⟨sub_eats hθ _ 1 h2 h1, sub_vok hθ _ h2⟩
/-- A pair of nodes that are to agree; or that were to, and do by now. -/
structure Tk where
 a : Nat
 b : Nat
 done : Bool
/-- What is still to agree: the rows of the one side, of the other. -/
def rowA (dn : Nat → List Nd) (ts : List Tk) : List Nd := ts.flatMap fun t => if t.done then [] else dn t.a
def rowB (dn : Nat → List Nd) (ts : List Tk) : List Nd := ts.flatMap fun t => if t.done then [] else dn t.b
theorem rowA_nil (dn : Nat → List Nd) : rowA dn [] = [] := rfl
theorem rowB_nil (dn : Nat → List Nd) : rowB dn [] = [] := rfl
theorem rowA_todo (dn : Nat → List Nd) (a b : Nat) (ts : List Tk) : rowA dn (⟨a, b, false⟩ :: ts) = dn a ++ rowA dn ts := rfl
theorem rowB_todo (dn : Nat → List Nd) (a b : Nat) (ts : List Tk) : rowB dn (⟨a, b, false⟩ :: ts) = dn b ++ rowB dn ts := rfl
theorem rowA_done (dn : Nat → List Nd) (a b : Nat) (ts : List Tk) : rowA dn (⟨a, b, true⟩ :: ts) = rowA dn ts := rfl
theorem rowB_done (dn : Nat → List Nd) (a b : Nat) (ts : List Tk) : rowB dn (⟨a, b, true⟩ :: ts) = rowB dn ts := rfl
theorem rowA_sub (σ : Sb) (dn : Nat → List Nd) : ∀ ts : List Tk, rowA (fun k => subF σ (dn k)) ts = subF σ (rowA dn ts)
 | [] => rfl
 | ⟨a, b, false⟩ :: ts => by rw [rowA_todo, rowA_todo, subF_app, rowA_sub σ dn ts]
 | ⟨a, b, true⟩ :: ts => by rw [rowA_done, rowA_done, rowA_sub σ dn ts]
theorem rowB_sub (σ : Sb) (dn : Nat → List Nd) : ∀ ts : List Tk, rowB (fun k => subF σ (dn k)) ts = subF σ (rowB dn ts)
 | [] => rfl
 | ⟨a, b, false⟩ :: ts => by rw [rowB_todo, rowB_todo, subF_app, rowB_sub σ dn ts]
 | ⟨a, b, true⟩ :: ts => by rw [rowB_done, rowB_done, rowB_sub σ dn ts]
/-- Does nothing but what makes A and B one? -/
def Ent (A B A' B' : List Nd) : Prop := ∀ θ, sok θ → subF θ A = subF θ B → subF θ A' = subF θ B'
/-- What was to agree does, as soon as all that waits ahead of it does (A, B: what waits ahead of the row). -/
def Dok (n : Nat) (dn : Nat → List Nd) : List Nd → List Nd → List Tk → Prop
 | _, _, [] => True
 | A, B, t :: ts => (t.a < n ∧ t.b < n) ∧ (if t.done then Ent A B (dn t.a) (dn t.b) ∧ (∃ nd r, dn t.a = nd :: r ∧ nd.1 ≠ 2) ∧ Dok n dn A B ts else Dok n dn (A ++ dn t.a) (B ++ dn t.b) ts)
theorem Dok.todo {n : Nat} {dn : Nat → List Nd} {A B : List Nd} {a b : Nat} {ts : List Tk} : Dok n dn A B (⟨a, b, false⟩ :: ts) ↔ (a < n ∧ b < n) ∧ Dok n dn (A ++ dn a) (B ++ dn b) ts := Iff.rfl
theorem Dok.done {n : Nat} {dn : Nat → List Nd} {A B : List Nd} {a b : Nat} {ts : List Tk} : Dok n dn A B (⟨a, b, true⟩ :: ts) ↔ (a < n ∧ b < n) ∧ Ent A B (dn a) (dn b) ∧ (∃ nd r, dn a = nd :: r ∧ nd.1 ≠ 2) ∧ Dok n dn A B ts := Iff.rfl
theorem Ent.app {A B A' B' r s : List Nd} (h : ∀ θ, sok θ → subF θ A' = subF θ B' → subF θ A = subF θ B) {k : Nat} (hA : eats k A' = true) (hB : eats k B' = true) (vA : vok A') (vB : vok B') : ∀ θ, sok θ → subF θ (A' ++ r) = subF θ (B' ++ s) → subF θ (A ++ r) = subF θ (B ++ s) := fun θ hθ e => by
 rw [subF_app, subF_app] at e ⊢
 obtain ⟨e1, e2⟩ := eats_inj _ _ k _ _ (sub_eats hθ A' k vA hA) (sub_eats hθ B' k vB hB) e
 rw [h θ hθ e1, e2]
theorem Dok.weak {n : Nat} {dn : Nat → List Nd} (ht : ∀ i, i < n → eats 1 (dn i) = true ∧ vok (dn i)) : ∀ (ts : List Tk) (A B A' B' : List Nd) (k : Nat), eats k A' = true → eats k B' = true → vok A' → vok B' → Ent A' B' A B → Dok n dn A B ts → Dok n dn A' B' ts
 | [], _, _, _, _, _, _, _, _, _, _, _ => trivial
 | ⟨a, b, true⟩ :: ts, A, B, A', B', k, h1, h2, h3, h4, he, h => by
  obtain ⟨hab, g1, g2, g3⟩ := Dok.done.1 h
  exact Dok.done.2 ⟨hab, fun θ hθ e => g1 θ hθ (he θ hθ e), g2, Dok.weak ht ts A B A' B' k h1 h2 h3 h4 he g3⟩
 | ⟨a, b, false⟩ :: ts, A, B, A', B', k, h1, h2, h3, h4, he, h => by
  obtain ⟨hab, g1⟩ := Dok.todo.1 h
  obtain ⟨ta, va⟩ := ht a hab.1
  obtain ⟨tb, vb⟩ := ht b hab.2
  exact Dok.todo.2 ⟨hab, Dok.weak ht ts _ _ _ _ (k + 1) (eats_app _ _ _ _ h1 ta) (eats_app _ _ _ _ h2 tb) (vok_app.2 ⟨h3, va⟩) (vok_app.2 ⟨h4, vb⟩) (Ent.app he h1 h2 h3 h4) g1⟩
theorem Dok.sub {n : Nat} {dn : Nat → List Nd} {σ : Sb} (hσ : sok σ) (ht : ∀ i, i < n → vok (dn i)) : ∀ (ts : List Tk) (A B : List Nd), vok A → vok B → Dok n dn A B ts → Dok n (fun k => subF σ (dn k)) (subF σ A) (subF σ B) ts
 | [], _, _, _, _, _ => trivial
 | ⟨a, b, true⟩ :: ts, A, B, hA, hB, h => by
  obtain ⟨hab, g1, ⟨nd, r, g2, g3⟩, g4⟩ := Dok.done.1 h
  refine Dok.done.2 ⟨hab, fun θ hθ e => ?_, ⟨nd, subF σ r, ?_, g3⟩, Dok.sub hσ ht ts A B hA hB g4⟩
  ·have := g1 _ (then_ok hσ hθ) (by rw [then_sub σ θ A hA, then_sub σ θ B hB]; exact e)
   rw [then_sub σ θ _ (ht a hab.1), then_sub σ θ _ (ht b hab.2)] at this
   exact this
  ·show subF σ (dn a) = _
   rw [g2, subF_node _ g3]
 | ⟨a, b, false⟩ :: ts, A, B, hA, hB, h => by
  obtain ⟨hab, g1⟩ := Dok.todo.1 h
  have := Dok.sub hσ ht ts _ _ (vok_app.2 ⟨hA, ht a hab.1⟩) (vok_app.2 ⟨hB, ht b hab.2⟩) g1
  rw [subF_app, subF_app] at this
  exact Dok.todo.2 ⟨hab, this⟩
/-- The Args of two nodes, pair by pair. -/
def pairTs : List Nat → List Nat → List Tk
 | a :: aL, b :: bs => ⟨a, b, false⟩ :: pairTs aL bs
 | _, _ => []
theorem pair_rows (dn : Nat → List Nd) (ts : List Tk) : ∀ aL bs : List Nat, aL.length = bs.length → rowA dn (pairTs aL bs ++ ts) = aL.flatMap dn ++ rowA dn ts ∧ rowB dn (pairTs aL bs ++ ts) = bs.flatMap dn ++ rowB dn ts
 | [], [], _ => ⟨rfl, rfl⟩
 | [], _ :: _, h => by simp at h
 | _ :: _, [], h => by simp at h
 | a :: aL, b :: bs, h => by
  obtain ⟨h1, h2⟩ := pair_rows dn ts aL bs (by simpa using h)
  constructor
  ·show rowA dn (⟨a, b, false⟩ :: (pairTs aL bs ++ ts)) = _
   rw [rowA_todo, h1, List.flatMap_cons, List.append_assoc]
  ·show rowB dn (⟨a, b, false⟩ :: (pairTs aL bs ++ ts)) = _
   rw [rowB_todo, h2, List.flatMap_cons, List.append_assoc]
theorem pair_dok {n : Nat} {dn : Nat → List Nd} (ts : List Tk) : ∀ (aL bs : List Nat) (A B : List Nd), aL.length = bs.length → (∀ a ∈ aL, a < n) → (∀ b ∈ bs, b < n) → Dok n dn (A ++ aL.flatMap dn) (B ++ bs.flatMap dn) ts → Dok n dn A B (pairTs aL bs ++ ts)
 | [], [], A, B, _, _, _, h => by
  rw [List.flatMap_nil, List.append_nil, List.append_nil] at h
  exact h
 | [], _ :: _, _, _, h, _, _, _ => by simp at h
 | _ :: _, [], _, _, h, _, _, _ => by simp at h
 | a :: aL, b :: bs, A, B, h, ha, hb, hd => by
  refine Dok.todo.2 ⟨⟨ha a List.mem_cons_self, hb b List.mem_cons_self⟩, pair_dok ts aL bs _ _ (by simpa using h) (fun x q => ha x (List.mem_cons_of_mem _ q)) (fun x q => hb x (List.mem_cons_of_mem _ q)) ?_⟩
  rw [List.append_assoc, List.append_assoc]
  exact hd
/-! The rounds. -/
theorem uniF_same {x : Uans} : ∀ (p r s : List Nd) (f : Nat), uniF f (p ++ r) (p ++ s) = some x → ∃ g, uniF g r s = some x ∧ g + p.length ≤ f
 | [], r, s, f, h => ⟨f, h, by simp⟩
 | a :: p, r, s, 0, h => by simp [uniF] at h
 | a :: p, r, s, f + 1, h => by
  have h : uniF f (p ++ r) (p ++ s) = some x := by
   have := h
   simp only [List.cons_append, uniF, if_true] at this
   exact this
  obtain ⟨g, h1, h2⟩ := uniF_same p r s f h
  exact ⟨g, h1, by simp; omega⟩
section
variable {n : Nat} {lb : Nat → Int × List UInt8} {ar : Nat → List Nat} {tg : Nat → Nat} {dn : Nat → List Nd} {rt rk : Nat → Nat}
/-- Two that lead to one: the pair is left out. -/
theorem Den.r_same (h : Den n lb ar tg dn rt rk) {a b f : Nat} {ts : List Tk} {x : Uans} (hd : Dok n dn [] [] (⟨a, b, false⟩ :: ts)) (e : rt a = rt b) (hu : uniF f (rowA dn (⟨a, b, false⟩ :: ts)) (rowB dn (⟨a, b, false⟩ :: ts)) = some x) :
  Dok n dn [] [] ts ∧ ∃ g, g < f ∧ uniF g (rowA dn ts) (rowB dn ts) = some x := by
 obtain ⟨⟨ha, hb⟩, hd⟩ := Dok.todo.1 hd
 have hab := h.one_rt ha hb e
 rw [rowA_todo, rowB_todo, hab] at hu
 obtain ⟨g, h1, h2⟩ := uniF_same _ _ _ _ hu
 have hp := eats_pos (h.tree hb)
 refine ⟨Dok.weak (fun i hi => ⟨h.tree hi, h.vok hi⟩) ts _ _ [] [] 0 rfl rfl vok_nil vok_nil (fun θ _ _ => ?_) hd, g, by omega, h1⟩
 rw [List.nil_append, List.nil_append, hab]
/-- Two that were to agree do. -/
theorem Den.r_done (h : Den n lb ar tg dn rt rk) {a b : Nat} {ts : List Tk} (hd : Dok n dn [] [] (⟨a, b, true⟩ :: ts)) : a < n ∧ b < n ∧ dn a = dn b ∧ (lb (rt a)).1 ≠ 2 ∧ (lb (rt b)).1 ≠ 2 ∧ Dok n dn [] [] ts := by
 obtain ⟨⟨ha, hb⟩, h1, ⟨nd, r, h2, h3⟩, h4⟩ := Dok.done.1 hd
 have e : dn a = dn b := by
  have hi : sok (fun _ => none) := fun _ _ e => by cases e
  have id : ∀ r, subF (fun _ => none) r = r := fun r => by
   induction r with
   | nil => rfl
   | cons c r ih =>
    rw [subF_cons, ih]
    split <;> rfl
  have := h1 _ hi rfl
  rw [id, id] at this
  exact this
 refine ⟨ha, hb, e, fun q => ?_, fun q => ?_, h4⟩
 ·rw [h.form ha] at h2
  injection h2 with h2 _
  rw [← h2] at h3
  exact h3 q
 ·rw [e, h.form hb] at h2
  injection h2 with h2 _
  rw [← h2] at h3
  exact h3 q
/-- Two nodes of one form: their Args are to agree. -/
theorem Den.r_more (h : Den n lb ar tg dn rt rk) {a b f : Nat} {ts : List Tk} {x : Uans} (hd : Dok n dn [] [] (⟨a, b, false⟩ :: ts)) (ha2 : (lb (rt a)).1 ≠ 2) (e1 : (lb (rt a)).1 = (lb (rt b)).1) (e2 : (lb (rt a)).2 = (lb (rt b)).2) (e3 : (ar (rt a)).length = (ar (rt b)).length) (hu : uniF f (rowA dn (⟨a, b, false⟩ :: ts)) (rowB dn (⟨a, b, false⟩ :: ts)) = some x) :
  Dok n dn [] [] (pairTs (ar (rt a)) (ar (rt b)) ++ ⟨rt a, rt b, true⟩ :: ts) ∧ ∃ g, g < f ∧ uniF g (rowA dn (pairTs (ar (rt a)) (ar (rt b)) ++ ⟨rt a, rt b, true⟩ :: ts)) (rowB dn (pairTs (ar (rt a)) (ar (rt b)) ++ ⟨rt a, rt b, true⟩ :: ts)) = some x := by
 obtain ⟨⟨ha, hb⟩, hd⟩ := Dok.todo.1 hd
 have fa := h.form ha
 have fb := h.form hb
 have la : ∀ q ∈ ar (rt a), q < n := fun q hq => h.argr ha hq
 have lB : ∀ q ∈ ar (rt b), q < n := fun q hq => h.argr hb hq
 obtain ⟨ta, va⟩ := h.trees la
 obtain ⟨tb, vb⟩ := h.trees lB
 have ea : Ent ((ar (rt a)).flatMap dn) ((ar (rt b)).flatMap dn) (dn a) (dn b) := fun θ _ e => by
  rw [fa, fb, e1, e2, e3, subF_node _ (show ((lb (rt b)).1, (lb (rt b)).2, (ar (rt b)).length).1 ≠ 2 from e1 ▸ ha2), subF_node _ (show ((lb (rt b)).1, (lb (rt b)).2, (ar (rt b)).length).1 ≠ 2 from e1 ▸ ha2), e]
 refine ⟨pair_dok _ _ _ _ _ e3 la lB (Dok.done.2 ⟨⟨h.rt_lt ha, h.rt_lt hb⟩, ?_, ⟨_, _, (h.rt_dn ha).trans fa, ha2⟩, ?_⟩), ?_⟩
 ·rw [h.rt_dn ha, h.rt_dn hb]
  exact ea
 ·refine Dok.weak (fun i hi => ⟨h.tree hi, h.vok hi⟩) ts _ _ _ _ (ar (rt a)).length ?_ ?_ ?_ ?_ ?_ hd
  ·exact ta
  ·rw [e3]
   exact tb
  ·exact va
  ·exact vb
  ·exact ea
 ·obtain ⟨p1, p2⟩ := pair_rows dn (⟨rt a, rt b, true⟩ :: ts) _ _ e3
  rw [p1, p2, rowA_done, rowB_done]
  rw [rowA_todo, rowB_todo, fa, fb, e1, e2, e3] at hu
  cases f with
  | zero => simp [uniF] at hu
  | succ f =>
   simp only [List.cons_append, uniF, if_true] at hu
   exact ⟨f, by omega, hu⟩
/-- Two nodes of other forms. -/
theorem Den.r_clash (h : Den n lb ar tg dn rt rk) {a b f : Nat} {ts : List Tk} {x : Uans} (hd : Dok n dn [] [] (⟨a, b, false⟩ :: ts)) (ha2 : (lb (rt a)).1 ≠ 2) (hb2 : (lb (rt b)).1 ≠ 2) (hne : ¬((lb (rt a)).1 = (lb (rt b)).1 ∧ (lb (rt a)).2 = (lb (rt b)).2 ∧ (ar (rt a)).length = (ar (rt b)).length)) (hu : uniF f (rowA dn (⟨a, b, false⟩ :: ts)) (rowB dn (⟨a, b, false⟩ :: ts)) = some x) : x = .inl 50 := by
 obtain ⟨⟨ha, hb⟩, hd⟩ := Dok.todo.1 hd
 rw [rowA_todo, rowB_todo, h.form ha, h.form hb] at hu
 refine Uni.one ⟨f, hu⟩ (Uni.clash ha2 hb2 fun e => hne ?_)
 injection e with e1 e2
 injection e2 with e2 e3
 exact ⟨e1, e2, e3⟩
theorem uniF_pos {f : Nat} {r s : List Nd} {x : Uans} (h : uniF f r s = some x) : ∃ g, f = g + 1 := by
 cases f with
 | zero => simp [uniF] at h
 | succ f => exact ⟨f, rfl⟩
/-- A variable is bound to what stands for another one (i: which one, t: to what), with all that waits. -/
theorem Den.r_bound (h : Den n lb ar tg dn rt rk) {a b i t : Nat} {ts : List Tk} (hd : Dok n dn [] [] (⟨a, b, false⟩ :: ts)) (hit : (rt a = i ∧ rt b = t) ∨ (rt a = t ∧ rt b = i)) (hv : (lb i).1 = 2) (ho : ((2, (lb i).2, 0) : Nd) ∉ dn t) :
  i < n ∧ t < n ∧ Den n lb ar (putN tg i t) (fun k => subF (one (lb i).2 (dn t)) (dn k)) (fun k => if rt k = i then t else rt k) (fun k => if rt k = i then rk k + rk t + 1 else rk k) ∧ Dok n (fun k => subF (one (lb i).2 (dn t)) (dn k)) [] [] ts := by
 obtain ⟨⟨ha, hb⟩, hd⟩ := Dok.todo.1 hd
 have key : i < n ∧ tg i = i ∧ t < n ∧ tg t = t := by
  rcases hit with ⟨e1, e2⟩ | ⟨e1, e2⟩ <;> rw [← e1, ← e2]
  ·exact ⟨h.rt_lt ha, h.rt_tg ha, h.rt_lt hb, h.rt_tg hb⟩
  ·exact ⟨h.rt_lt hb, h.rt_tg hb, h.rt_lt ha, h.rt_tg ha⟩
 obtain ⟨hi, hii, ht, htt⟩ := key
 have den := h.bind hi ht hii htt hv ho
 have ok : sok (one (lb i).2 (dn t)) := one_ok (h.tree ht) (h.vok ht)
 refine ⟨hi, ht, den, ?_⟩
 have hri := (h.root i hi hii).1
 have hdi : dn i = [(2, (lb i).2, 0)] := by
  have := h.free hi (by rw [hri]; exact hv)
  rw [hri] at this
  exact this
 have hs := Dok.sub ok (fun k hk => h.vok hk) ts _ _ (vok_app.2 ⟨vok_nil, h.vok ha⟩) (vok_app.2 ⟨vok_nil, h.vok hb⟩) hd
 have both : subF (one (lb i).2 (dn t)) (dn a) = subF (one (lb i).2 (dn t)) (dn b) := by
  rw [← h.rt_dn ha, ← h.rt_dn hb]
  rcases hit with ⟨e1, e2⟩ | ⟨e1, e2⟩ <;> rw [e1, e2, hdi, subF_v, vF_one_self, sub_one_free _ (h.vok ht) ho]
 refine Dok.weak (fun k hk => ⟨den.tree hk, den.vok hk⟩) ts _ _ [] [] 0 rfl rfl vok_nil vok_nil (fun θ _ _ => ?_) hs
 rw [List.nil_append, List.nil_append, both]
/-- Two variables of other names: the lesser one stays. -/
theorem Den.u_left (h : Den n lb ar tg dn rt rk) {a b f : Nat} {ts : List Tk} {x : Uans} (ha : a < n) (hb : b < n) (ha2 : (lb (rt a)).1 = 2) (hb2 : (lb (rt b)).1 = 2) (hlt : (lb (rt b)).2 < (lb (rt a)).2) (hu : uniF f (rowA dn (⟨a, b, false⟩ :: ts)) (rowB dn (⟨a, b, false⟩ :: ts)) = some x) :
  ∃ g y, g < f ∧ x = putU ((lb (rt a)).2, dn (rt b)) y ∧ uniF g (rowA (fun k => subF (one (lb (rt a)).2 (dn (rt b))) (dn k)) ts) (rowB (fun k => subF (one (lb (rt a)).2 (dn (rt b))) (dn k)) ts) = some y := by
 have e2 : dn (rt b) = [(2, (lb (rt b)).2, 0)] := (h.rt_dn hb).trans (h.free hb hb2)
 rw [rowA_todo, rowB_todo, h.free ha ha2, h.free hb hb2] at hu
 obtain ⟨g, rfl⟩ := uniF_pos hu
 have hne : ¬ (((2, (lb (rt a)).2, 0) : Nd) = (2, (lb (rt b)).2, 0)) := fun e => by
  injection e with _ e
  injection e with e _
  rw [e] at hlt
  exact List.lt_irrefl _ hlt
 simp only [List.cons_append, List.nil_append, uniF, if_neg hne, if_true, if_pos hlt, Option.map_eq_some_iff] at hu
 obtain ⟨y, h1, h2⟩ := hu
 rw [e2, rowA_sub, rowB_sub]
 exact ⟨g, y, by omega, h2.symm, h1⟩
theorem Den.u_right (h : Den n lb ar tg dn rt rk) {a b f : Nat} {ts : List Tk} {x : Uans} (ha : a < n) (hb : b < n) (ha2 : (lb (rt a)).1 = 2) (hb2 : (lb (rt b)).1 = 2) (hne : rt a ≠ rt b) (hlt : ¬ (lb (rt b)).2 < (lb (rt a)).2) (hu : uniF f (rowA dn (⟨a, b, false⟩ :: ts)) (rowB dn (⟨a, b, false⟩ :: ts)) = some x) :
  ∃ g y, g < f ∧ x = putU ((lb (rt b)).2, dn (rt a)) y ∧ uniF g (rowA (fun k => subF (one (lb (rt b)).2 (dn (rt a))) (dn k)) ts) (rowB (fun k => subF (one (lb (rt b)).2 (dn (rt a))) (dn k)) ts) = some y := by
 have e2 : dn (rt a) = [(2, (lb (rt a)).2, 0)] := (h.rt_dn ha).trans (h.free ha ha2)
 rw [rowA_todo, rowB_todo, h.free ha ha2, h.free hb hb2] at hu
 obtain ⟨g, rfl⟩ := uniF_pos hu
 have hne : ¬ (((2, (lb (rt a)).2, 0) : Nd) = (2, (lb (rt b)).2, 0)) := fun e => by
  injection e with _ e
  injection e with e _
  exact hne (h.uni _ _ (h.rt_lt ha) (h.rt_lt hb) ha2 hb2 e)
 simp only [List.cons_append, List.nil_append, uniF, if_neg hne, if_true, if_neg hlt, Option.map_eq_some_iff] at hu
 obtain ⟨y, h1, h2⟩ := hu
 rw [e2, rowA_sub, rowB_sub]
 exact ⟨g, y, by omega, h2.symm, h1⟩
/-- A variable and what is none. -/
theorem Den.u_bind (h : Den n lb ar tg dn rt rk) {a b f : Nat} {ts : List Tk} {x : Uans} (ha : a < n) (hb : b < n) (ha2 : (lb (rt a)).1 = 2) (hb2 : (lb (rt b)).1 ≠ 2) (hu : uniF f (rowA dn (⟨a, b, false⟩ :: ts)) (rowB dn (⟨a, b, false⟩ :: ts)) = some x) :
  if ((2, (lb (rt a)).2, 0) : Nd) ∈ dn (rt b) then x = .inl 51 else ∃ g y, g < f ∧ x = putU ((lb (rt a)).2, dn (rt b)) y ∧ uniF g (rowA (fun k => subF (one (lb (rt a)).2 (dn (rt b))) (dn k)) ts) (rowB (fun k => subF (one (lb (rt a)).2 (dn (rt b))) (dn k)) ts) = some y := by
 rw [rowA_todo, rowB_todo, h.free ha ha2] at hu
 have fb := h.form hb
 have tb := h.tree hb
 have nv : noVar (dn b) := ⟨_, _, fb, hb2⟩
 have hc : cutF 1 (dn b ++ rowB dn ts) = (dn b, rowB dn ts) := cut_app _ 1 _ tb
 rw [h.rt_dn hb]
 split
 ·rename_i ho
  exact Uni.one ⟨f, hu⟩ (Uni.occurs tb nv ho)
 ·rename_i ho
  obtain ⟨g, rfl⟩ := uniF_pos hu
  have hne : ¬ (((2, (lb (rt a)).2, 0) : Nd) = ((lb (rt b)).1, (lb (rt b)).2, (ar (rt b)).length)) := fun e => by
   injection e with e _
   exact hb2 e.symm
  rw [rowA_sub, rowB_sub]
  rw [fb] at hu hc ho ⊢
  rw [List.cons_append] at hu hc
  simp only [List.cons_append, List.nil_append, uniF, if_neg hne, if_true, if_neg hb2, hc, if_neg ho, Option.map_eq_some_iff] at hu
  obtain ⟨y, h1, h2⟩ := hu
  exact ⟨g, y, by omega, h2.symm, h1⟩
theorem Den.u_bind' (h : Den n lb ar tg dn rt rk) {a b f : Nat} {ts : List Tk} {x : Uans} (ha : a < n) (hb : b < n) (ha2 : (lb (rt a)).1 ≠ 2) (hb2 : (lb (rt b)).1 = 2) (hu : uniF f (rowA dn (⟨a, b, false⟩ :: ts)) (rowB dn (⟨a, b, false⟩ :: ts)) = some x) :
  if ((2, (lb (rt b)).2, 0) : Nd) ∈ dn (rt a) then x = .inl 51 else ∃ g y, g < f ∧ x = putU ((lb (rt b)).2, dn (rt a)) y ∧ uniF g (rowA (fun k => subF (one (lb (rt b)).2 (dn (rt a))) (dn k)) ts) (rowB (fun k => subF (one (lb (rt b)).2 (dn (rt a))) (dn k)) ts) = some y := by
 rw [rowA_todo, rowB_todo, h.free hb hb2] at hu
 have fa := h.form ha
 have ta := h.tree ha
 have nv : noVar (dn a) := ⟨_, _, fa, ha2⟩
 have hc : cutF 1 (dn a ++ rowA dn ts) = (dn a, rowA dn ts) := cut_app _ 1 _ ta
 rw [h.rt_dn ha]
 split
 ·rename_i ho
  exact Uni.one ⟨f, hu⟩ (Uni.occurs' ta nv ho)
 ·rename_i ho
  obtain ⟨g, rfl⟩ := uniF_pos hu
  have hne : ¬ (((lb (rt a)).1, (lb (rt a)).2, (ar (rt a)).length) = ((2, (lb (rt b)).2, 0) : Nd)) := fun e => by
   injection e with e _
   exact ha2 e
  rw [rowA_sub, rowB_sub]
  rw [fa] at hu hc ho ⊢
  rw [List.cons_append] at hu hc
  simp only [List.cons_append, List.nil_append, uniF, if_neg hne, if_true, if_neg ha2, hc, if_neg ho, Option.map_eq_some_iff] at hu
  obtain ⟨y, h1, h2⟩ := hu
  exact ⟨g, y, by omega, h2.symm, h1⟩
end
end Go.Proofs.YtikpipenhamdbaaGreat

namespace Go.Proofs.YtikpipenhamdbaaGreat

theorem subL_two : ∀ (L l : List (List UInt8 × List Nd)) (r : List Nd), subL (L ++ l) r = subL l (subL L r)
 | [], _, _ => rfl
 | _ :: L, l, _ => subL_two L l _
/-- Pairs of rows one behind the other, what was bound by those ahead put in: the first that nothing makes one, and why; or all that is bound. -/
def Prs : List (List Nd × List Nd) → List (List UInt8 × List Nd) → Nat → Sum (Nat × Int) (List (List UInt8 × List Nd)) → Prop
 | [], L, _, x => x = .inr L
 | p :: ps, L, i, x => (∃ c, Uni (subL L p.1) (subL L p.2) (.inl c) ∧ x = .inl (i, c)) ∨ ∃ l, Uni (subL L p.1) (subL L p.2) (.inr l) ∧ Prs ps (L ++ l) (i + 1) x
/-- Each side is a tree. -/
def pok (p : List Nd × List Nd) : Prop := (eats 1 p.1 = true ∧ vok p.1) ∧ eats 1 p.2 = true ∧ vok p.2
theorem Lok.nil : Lok [] := ⟨fun _ h => by simp at h, fun _ _ _ h => by simp at h⟩
theorem Lok.more {L l : List (List UInt8 × List Nd)} {a b : List Nd} (hL : Lok L) (va : vok a) (vb : vok b) (hg : Good (subL L a) (subL L b) (.inr l)) : Lok (L ++ l) := by
 obtain ⟨_, _, hl, hn⟩ := hg
 refine ⟨fun c hc => (List.mem_append.1 hc).elim (hL.tree c) (hl.tree c), fun q vq c hc hm => ?_⟩
 rw [subL_two] at hm
 have vq' := subL_vok hL.tree q vq
 rcases List.mem_append.1 hc with hc | hc
 ·rcases subL_vars hl.tree _ vq' hm with hm | ⟨d, hd, hm⟩
  ·exact hL.gone q vq c hc hm
  ·rcases (hn d hd).2 _ hm with hm | hm
   ·exact hL.gone a va c hc hm
   ·exact hL.gone b vb c hc hm
 ·exact hl.gone _ vq' c hc hm
theorem Good.of {L : List (List UInt8 × List Nd)} {a b : List Nd} {x : Uans} (hL : Lok L) (h : pok (a, b)) (hu : Uni (subL L a) (subL L b) x) : Good (subL L a) (subL L b) x :=
 hu.good (subL_eats hL.tree a 1 h.1.2 h.1.1) (subL_eats hL.tree b 1 h.2.2 h.2.1) (subL_vok hL.tree a h.1.2) (subL_vok hL.tree b h.2.2)
theorem Prs.total : ∀ (ps : List (List Nd × List Nd)) (L : List (List UInt8 × List Nd)) (i : Nat), Lok L → (∀ p ∈ ps, pok p) → ∃ x, Prs ps L i x
 | [], L, _, _, _ => ⟨.inr L, rfl⟩
 | p :: ps, L, i, hL, h => by
  have hp := h p List.mem_cons_self
  obtain ⟨x, hu, hg⟩ := uni_trees (subL_eats hL.tree p.1 1 hp.1.2 hp.1.1) (subL_eats hL.tree p.2 1 hp.2.2 hp.2.1) (subL_vok hL.tree p.1 hp.1.2) (subL_vok hL.tree p.2 hp.2.2)
  cases x with
  | inl c => exact ⟨.inl (i, c), .inl ⟨c, hu, rfl⟩⟩
  | inr l =>
   obtain ⟨y, hy⟩ := Prs.total ps (L ++ l) (i + 1) (hL.more hp.1.2 hp.2.2 hg) fun q hq => h q (List.mem_cons_of_mem _ hq)
   exact ⟨y, .inr ⟨l, hu, hy⟩⟩
theorem Prs.one : ∀ (ps : List (List Nd × List Nd)) (L : List (List UInt8 × List Nd)) (i : Nat) {x y : Sum (Nat × Int) (List (List UInt8 × List Nd))}, Prs ps L i x → Prs ps L i y → x = y
 | [], _, _, _, _, h, k => h.trans k.symm
 | p :: ps, L, i, x, y, h, k => by
  rcases h with ⟨c, h1, h2⟩ | ⟨l, h1, h2⟩ <;> rcases k with ⟨d, k1, k2⟩ | ⟨m, k1, k2⟩
  ·have := Uni.one h1 k1
   injection this with this
   rw [h2, k2, this]
  ·cases Uni.one h1 k1
  ·cases Uni.one h1 k1
  ·have := Uni.one h1 k1
   injection this with this
   subst this
   exact Prs.one ps _ _ h2 k2
/-- What was bound, as it is told: of the names of a list, if it is something else than the name. -/
def told (V : List (List UInt8)) (L : List (List UInt8 × List Nd)) : Sb := fun n => if n ∈ V ∧ subL L [(2, n, 0)] ≠ [(2, n, 0)] then some (subL L [(2, n, 0)]) else none
end Go.Proofs.YtikpipenhamdbaaGreat

namespace Go.Proofs.YtikpipenhamdbaaGreat

/-- A node more is marked. -/
def setM (mk : Nat → Bool) (k : Nat) : Nat → Bool := fun j => if j = k then true else mk j
theorem setM_self (mk : Nat → Bool) (k : Nat) : setM mk k k = true := if_pos rfl
theorem setM_mono (mk : Nat → Bool) (k j : Nat) (h : mk j = true) : setM mk k j = true := by
 unfold setM
 split
 ·rfl
 ·exact h
theorem setM_inv {mk : Nat → Bool} {k j : Nat} (h : setM mk k j = true) : j = k ∨ mk j = true := by
 unfold setM at h
 split at h
 ·exact .inl (by assumption)
 ·exact .inr h
/-- How much is left to go through. -/
def sumU (ar : Nat → List Nat) (mk : Nat → Bool) : Nat → Nat
 | 0 => 0
 | n + 1 => sumU ar mk n + if mk n then 0 else (ar n).length + 1
theorem sumU_same (ar : Nat → List Nat) (mk : Nat → Bool) (k : Nat) : ∀ n, n ≤ k → sumU ar (setM mk k) n = sumU ar mk n
 | 0, _ => rfl
 | n + 1, h => by
  show sumU ar (setM mk k) n + _ = sumU ar mk n + _
  rw [sumU_same ar mk k n (by omega), show setM mk k n = mk n from if_neg (by omega)]
theorem sumU_less (ar : Nat → List Nat) (mk : Nat → Bool) (k : Nat) (hk : mk k = false) : ∀ n, k < n → sumU ar (setM mk k) n + ((ar k).length + 1) = sumU ar mk n
 | 0, h => by omega
 | n + 1, h => by
  show sumU ar (setM mk k) n + (if setM mk k n then 0 else (ar n).length + 1) + _ = sumU ar mk n + if mk n then 0 else (ar n).length + 1
  by_cases q : n = k
  ·subst q
   rw [sumU_same ar mk n n (Nat.le_refl _), setM_self, hk]
   simp
  ·have := sumU_less ar mk k hk n (by omega)
   rw [show setM mk k n = mk n from if_neg q]
   omega
section
variable {n : Nat} {lb : Nat → Int × List UInt8} {ar : Nat → List Nat} {tg : Nat → Nat} {dn : Nat → List Nd} {rt rk : Nat → Nat}
/-- Between two rounds of a walk from m that looks for v: what waits, what is marked. -/
structure Wk (n : Nat) (lb : Nat → Int × List UInt8) (ar : Nat → List Nat) (dn : Nat → List Nd) (rt : Nat → Nat) (m v : Nat) (mk : Nat → Bool) (rest : List Nat) : Prop where
 low : ∀ k ∈ rest, k < n
 sub : ∀ k ∈ rest, ∀ y, ((2, y, 0) : Nd) ∈ dn k → ((2, y, 0) : Nd) ∈ dn m
 start : mk (rt m) = true ∨ ∃ r ∈ rest, rt r = rt m
 args : ∀ k, k < n → mk k = true → ∀ a ∈ ar k, mk (rt a) = true ∨ ∃ r ∈ rest, rt r = rt a
 miss : mk v = false
theorem Wk.begin {m v : Nat} (hm : m < n) : Wk n lb ar dn rt m v (fun _ => false) [m] :=
 ⟨fun k hk => by rw [List.mem_singleton.1 hk]; exact hm, fun k hk y hy => by rw [List.mem_singleton.1 hk] at hy; exact hy, .inr ⟨m, List.mem_singleton.2 rfl, rfl⟩, fun k _ h => absurd h (by simp), rfl⟩
/-- What is marked already is passed by. -/
theorem Wk.pass {m v k : Nat} {mk : Nat → Bool} {rest : List Nat} (h : Wk n lb ar dn rt m v mk (k :: rest)) (hk : mk (rt k) = true) : Wk n lb ar dn rt m v mk rest := by
 have key : ∀ j, (mk j = true ∨ ∃ r ∈ k :: rest, rt r = j) → mk j = true ∨ ∃ r ∈ rest, rt r = j := fun j q => by
  rcases q with q | ⟨r, q, e⟩
  ·exact .inl q
  ·rcases List.mem_cons.1 q with q | q
   ·rw [q] at e
    exact .inl (by rw [← e]; exact hk)
   ·exact .inr ⟨r, q, e⟩
 exact ⟨fun j q => h.low j (List.mem_cons_of_mem _ q), fun j q => h.sub j (List.mem_cons_of_mem _ q), key _ h.start, fun j hj q a ha => key _ (h.args j hj q a ha), h.miss⟩
/-- What is not is marked, and its Args wait. -/
theorem Wk.step (d : Den n lb ar tg dn rt rk) {m v k : Nat} {mk : Nat → Bool} {rest new : List Nat} (h : Wk n lb ar dn rt m v mk (k :: rest)) (hv : rt k ≠ v) (hnew : ∀ r, r ∈ new ↔ r ∈ ar (rt k) ∨ r ∈ rest) : Wk n lb ar dn rt m v (setM mk (rt k)) new := by
 have hk := h.low k List.mem_cons_self
 have key : ∀ j, (mk j = true ∨ ∃ r ∈ k :: rest, rt r = j) → setM mk (rt k) j = true ∨ ∃ r ∈ new, rt r = j := fun j q => by
  rcases q with q | ⟨r, q, e⟩
  ·exact .inl (setM_mono _ _ _ q)
  ·rcases List.mem_cons.1 q with q | q
   ·rw [q] at e
    exact .inl (by rw [← e]; exact setM_self _ _)
   ·exact .inr ⟨r, (hnew r).2 (.inr q), e⟩
 refine ⟨fun j q => ?_, fun j q y hy => ?_, key _ h.start, fun j hj q a ha => ?_, ?_⟩
 ·rcases (hnew j).1 q with q | q
  ·exact d.argr hk q
  ·exact h.low j (List.mem_cons_of_mem _ q)
 ·rcases (hnew j).1 q with q | q
  ·refine h.sub k List.mem_cons_self y ?_
   rw [d.form hk]
   exact List.mem_cons_of_mem _ (List.mem_flatMap.2 ⟨j, q, hy⟩)
  ·exact h.sub j (List.mem_cons_of_mem _ q) y hy
 ·rcases setM_inv q with e | q
  ·rw [e] at ha
   exact .inr ⟨a, (hnew a).2 (.inl ha), rfl⟩
  ·exact key _ (h.args j hj q a ha)
 ·show (if v = rt k then true else mk v) = false
  rw [if_neg (Ne.symm hv)]
  exact h.miss
/-- Found. -/
theorem Wk.found (d : Den n lb ar tg dn rt rk) {m v k : Nat} {mk : Nat → Bool} {rest : List Nat} (h : Wk n lb ar dn rt m v mk (k :: rest)) (hv : rt k = v) (h2 : (lb v).1 = 2) : ((2, (lb v).2, 0) : Nd) ∈ dn m := by
 refine h.sub k List.mem_cons_self _ ?_
 rw [d.free (h.low k List.mem_cons_self) (by rw [hv]; exact h2), hv]
 exact List.mem_cons_self
theorem Wk.none_of (d : Den n lb ar tg dn rt rk) {m v : Nat} {mk : Nat → Bool} (h : Wk n lb ar dn rt m v mk []) (hv : v < n) (h2 : (lb v).1 = 2) : ∀ (L k : Nat), k < n → (dn k).length ≤ L → mk (rt k) = true → ((2, (lb v).2, 0) : Nd) ∉ dn k
 | L, k, hk, hL, hmk => by
  cases L with
  | zero =>
   rw [d.form hk] at hL
   simp at hL
  | succ L =>
   rw [d.form hk]
   intro hm
   rcases List.mem_cons.1 hm with e | e
   ·injection e with e1 e2
    injection e2 with e2 _
    have := d.uni v (rt k) hv (d.rt_lt hk) h2 e1.symm e2
    rw [← this, h.miss] at hmk
    cases hmk
   ·obtain ⟨a, ha, e⟩ := List.mem_flatMap.1 e
    have hl := d.less hk ha
    rcases h.args (rt k) (d.rt_lt hk) hmk a ha with q | ⟨r, q, _⟩
    ·exact h.none_of d hv h2 L a (d.argr hk ha) (by omega) q e
    ·simp at q
/-- All was gone through. -/
theorem Wk.none (d : Den n lb ar tg dn rt rk) {m v : Nat} {mk : Nat → Bool} (h : Wk n lb ar dn rt m v mk []) (hm : m < n) (hv : v < n) (h2 : (lb v).1 = 2) : ((2, (lb v).2, 0) : Nd) ∉ dn m := by
 rcases h.start with q | ⟨r, q, _⟩
 ·exact h.none_of d hv h2 _ m hm (Nat.le_refl _) q
 ·simp at q
end
end Go.Proofs.YtikpipenhamdbaaGreat

namespace Go.Proofs.YtikpipenhamdbaaGreat

/-- How many variables lead nowhere. -/
def cv (lb : Nat → Int × List UInt8) (rt : Nat → Nat) : Nat → Nat
 | 0 => 0
 | n + 1 => cv lb rt n + if (lb n).1 = 2 ∧ rt n = n then 1 else 0
theorem cv_mono (lb lb' : Nat → Int × List UInt8) (rt rt' : Nat → Nat) : ∀ n, (∀ k, k < n → (lb' k).1 = 2 ∧ rt' k = k → (lb k).1 = 2 ∧ rt k = k) → cv lb' rt' n ≤ cv lb rt n
 | 0, _ => Nat.le_refl _
 | n + 1, h => by
  have ih := cv_mono lb lb' rt rt' n fun k hk => h k (by omega)
  have := h n (by omega)
  show cv lb' rt' n + _ ≤ cv lb rt n + _
  split
  ·rw [if_pos (this (by assumption))]
   omega
  ·omega
theorem cv_less (lb : Nat → Int × List UInt8) (rt rt' : Nat → Nat) (i : Nat) (hi2 : (lb i).1 = 2) (hii : rt i = i) (hi' : rt' i ≠ i) (h : ∀ k, k ≠ i → (lb k).1 = 2 ∧ rt' k = k → (lb k).1 = 2 ∧ rt k = k) : ∀ n, i < n → cv lb rt' n + 1 ≤ cv lb rt n
 | 0, hn => by omega
 | n + 1, hn => by
  show cv lb rt' n + _ + 1 ≤ cv lb rt n + _
  by_cases q : n = i
  ·subst q
   have := cv_mono lb lb rt rt' n fun k hk => h k (by omega)
   rw [if_neg fun e => hi' e.2, if_pos ⟨hi2, hii⟩]
   omega
  ·have ih := cv_less lb rt rt' i hi2 hii hi' h n (by omega)
   have := h n q
   split
   ·rw [if_pos (this (by assumption))]
    omega
   ·omega
theorem cv_more (lb lb' : Nat → Int × List UInt8) (rt rt' : Nat → Nat) (m : Nat) (h : ∀ k, k < m → lb' k = lb k ∧ rt' k = rt k) : ∀ n, cv lb' rt' (m + n) ≤ cv lb rt m + n
 | 0 => cv_mono lb lb' rt rt' m fun k hk e => by rw [(h k hk).1, (h k hk).2] at e; exact e
 | n + 1 => by
  have := cv_more lb lb' rt rt' m h n
  show cv lb' rt' (m + n) + _ ≤ _
  split <;> omega
end Go.Proofs.YtikpipenhamdbaaGreat

namespace Go.Proofs.YtikpipenhamdbaaGreat

/-- Does a row stand within another one? -/
def Part (m r : List Nd) : Prop := ∃ nd u v, nd.1 ≠ 2 ∧ r = nd :: (u ++ m ++ v)
theorem Part.less {m r : List Nd} (h : Part m r) : m.length < r.length := by
 obtain ⟨nd, u, v, _, rfl⟩ := h
 simp
 omega
theorem Part.trans {m r s : List Nd} (h : Part m r) (k : Part r s) : Part m s := by
 obtain ⟨nd, u, v, _, rfl⟩ := h
 obtain ⟨ne, u', v', h2, rfl⟩ := k
 exact ⟨ne, u' ++ nd :: u, v ++ v', h2, by simp⟩
theorem Part.sub {m r : List Nd} (σ : Sb) (h : Part m r) : Part (subF σ m) (subF σ r) := by
 obtain ⟨nd, u, v, h1, rfl⟩ := h
 exact ⟨nd, subF σ u, subF σ v, h1, by rw [subF_node _ h1, subF_app, subF_app]⟩
theorem part_arg (dn : Nat → List Nd) (nd : Nd) (h : nd.1 ≠ 2) : ∀ (bs : List Nat) (c : Nat), c ∈ bs → Part (dn c) (nd :: bs.flatMap dn) := fun bs c hc => by
 obtain ⟨a, d, rfl⟩ := List.append_of_mem hc
 exact ⟨nd, a.flatMap dn, d.flatMap dn, h, by simp⟩
/-- All that waits ahead of two that are to be made one stands within them. -/
def Nest (dn : Nat → List Nd) : List Tk → Prop
 | [] => True
 | t :: ts => (∀ D ∈ ts, D.done = true → Part (dn t.a) (dn D.a)) ∧ Nest dn ts
theorem Nest.sub {dn : Nat → List Nd} (σ : Sb) : ∀ {ts : List Tk}, Nest dn ts → Nest (fun k => subF σ (dn k)) ts
 | [], _ => trivial
 | _ :: _, h => ⟨fun D hD hd => (h.1 D hD hd).sub σ, h.2.sub σ⟩
theorem Nest.more {dn : Nat → List Nd} {a b ra rb : Nat} {ts : List Tk} (h : Nest dn (⟨a, b, false⟩ :: ts)) (hra : dn ra = dn a) (nd : Nd) (hnd : nd.1 ≠ 2) : ∀ (aL bL : List Nat), (∀ c ∈ aL, Part (dn c) (dn ra)) → Nest dn (pairTs aL bL ++ ⟨ra, rb, true⟩ :: ts)
 | [], _, _ => ⟨fun D hD hd => by
   show Part (dn ra) _
   rw [hra]
   exact h.1 D hD hd, h.2⟩
 | _ :: _, [], _ => ⟨fun D hD hd => by
   show Part (dn ra) _
   rw [hra]
   exact h.1 D hD hd, h.2⟩
 | c :: aL, d :: bL, hp => by
  have ih := Nest.more (rb := rb) h hra nd hnd aL bL fun c hc => hp c (List.mem_cons_of_mem _ hc)
  refine ⟨fun D hD hd => ?_, ih⟩
  show Part (dn c) _
  have hc := hp c List.mem_cons_self
  have key : ∀ (aL bL : List Nat), D ∈ pairTs aL bL ++ ⟨ra, rb, true⟩ :: ts → D ∈ (⟨ra, rb, true⟩ : Tk) :: ts := by
   intro aL
   induction aL with
   | nil => intro bL hD; exact hD
   | cons c aL ih2 =>
    intro bL hD
    cases bL with
    | nil => exact hD
    | cons d bL =>
     rcases List.mem_cons.1 hD with e | e
     ·rw [e] at hd
      cases hd
     ·exact ih2 bL e
  rcases List.mem_cons.1 (key aL bL hD) with e | e
  ·rw [e]
   exact hc
  ·exact hc.trans (by rw [hra]; exact h.1 D e hd)
/-- How many are to be made one. -/
def dc (ts : List Tk) : Nat := ts.countP (·.done)
def Few : List Tk → Prop
 | [] => True
 | t :: ts => (t :: ts).length ≤ 7 * dc (t :: ts) + 1 ∧ Few ts
theorem Few.one (a b : Nat) : Few [⟨a, b, false⟩] := ⟨by simp [dc], trivial⟩
theorem Few.more {a b ra rb : Nat} {ts : List Tk} (h : Few (⟨a, b, false⟩ :: ts)) : ∀ (aL bL : List Nat), aL.length ≤ 6 → Few (pairTs aL bL ++ ⟨ra, rb, true⟩ :: ts) ∧ dc (pairTs aL bL ++ ⟨ra, rb, true⟩ :: ts) = dc ts + 1 ∧ (pairTs aL bL ++ ⟨ra, rb, true⟩ :: ts).length ≤ ts.length + 1 + aL.length
 | [], bL, _ => by
  have h1 := h.1
  have e : dc (⟨ra, rb, true⟩ :: ts) = dc ts + 1 := by simp [dc]
  have e2 : dc (⟨a, b, false⟩ :: ts) = dc ts := by simp [dc]
  refine ⟨⟨?_, h.2⟩, e, by simp [pairTs]⟩
  rw [e]
  rw [e2] at h1
  simp at h1 ⊢
  omega
 | c :: aL, [], _ => by
  have h1 := h.1
  have e : dc (⟨ra, rb, true⟩ :: ts) = dc ts + 1 := by simp [dc]
  have e2 : dc (⟨a, b, false⟩ :: ts) = dc ts := by simp [dc]
  refine ⟨⟨?_, h.2⟩, e, by simp [pairTs]⟩
  rw [e]
  rw [e2] at h1
  simp at h1 ⊢
  omega
 | c :: aL, d :: bL, h6 => by
  obtain ⟨i1, i2, i3⟩ := Few.more (ra := ra) (rb := rb) h aL bL (by simp at h6; omega)
  have h1 := h.1
  have e2 : dc (⟨a, b, false⟩ :: ts) = dc ts := by simp [dc]
  have e3 : dc (pairTs (c :: aL) (d :: bL) ++ ⟨ra, rb, true⟩ :: ts) = dc (pairTs aL bL ++ ⟨ra, rb, true⟩ :: ts) := by simp [dc, pairTs]
  have e4 : (pairTs (c :: aL) (d :: bL) ++ ⟨ra, rb, true⟩ :: ts).length = (pairTs aL bL ++ ⟨ra, rb, true⟩ :: ts).length + 1 := by simp [pairTs]
  refine ⟨⟨?_, i1⟩, e3.trans i2, ?_⟩
  ·show (pairTs (c :: aL) (d :: bL) ++ ⟨ra, rb, true⟩ :: ts).length ≤ 7 * dc (pairTs (c :: aL) (d :: bL) ++ ⟨ra, rb, true⟩ :: ts) + 1
   rw [e2, List.length_cons] at h1
   rw [List.length_cons] at h6
   rw [e3, i2, e4]
   omega
  ·rw [e4, List.length_cons]
   omega
theorem done_rows {n : Nat} {dn : Nat → List Nd} : ∀ {ts : List Tk}, Nest dn ts → (∀ t ∈ ts, t.a < n) → ((ts.filter (·.done)).map (·.a)).Nodup
 | [], _, _ => by simp
 | t :: ts, h, hn => by
  have ih := done_rows h.2 fun t ht => hn t (List.mem_cons_of_mem _ ht)
  cases hd : t.done with
  | false => simpa [hd] using ih
  | true =>
   rw [List.filter_cons_of_pos hd, List.map_cons, List.nodup_cons]
   refine ⟨fun hm => ?_, ih⟩
   obtain ⟨D, hD, e⟩ := List.mem_map.1 hm
   obtain ⟨hD1, hD2⟩ := List.mem_filter.1 hD
   have := (h.1 D hD1 hD2).less
   rw [e] at this
   omega
theorem nodup_len : ∀ {ks M : List Nat}, ks.Nodup → (∀ k ∈ ks, k ∈ M) → ks.length ≤ M.length
 | [], _, _, _ => by simp
 | k :: ks, M, h, hm => by
  obtain ⟨h1, h2⟩ := List.nodup_cons.1 h
  have hk := hm k List.mem_cons_self
  have := nodup_len (M := M.erase k) h2 fun j hj => (List.mem_erase_of_ne (fun e => h1 (by rw [← e]; exact hj))).2 (hm j (List.mem_cons_of_mem _ hj))
  rw [List.length_erase_of_mem hk] at this
  have := List.length_pos_of_mem hk
  simp
  omega
/-- So many wait at most. -/
theorem few_len {n : Nat} {dn : Nat → List Nd} {ts : List Tk} (hf : Few ts) (h : Nest dn ts) (hn : ∀ t ∈ ts, t.a < n) : ts.length ≤ 7 * n + 1 := by
 have h1 : dc ts ≤ n := by
  have := nodup_len (M := List.range n) (done_rows h hn) fun k hk => by
   obtain ⟨t, ht, rfl⟩ := List.mem_map.1 hk
   exact List.mem_range.2 (hn t (List.mem_filter.1 ht).1)
  simp [List.countP_eq_length_filter, dc] at this ⊢
  exact this
 cases ts with
 | nil => simp
 | cons t ts =>
  have := hf.1
  omega
theorem dok_low {n : Nat} {dn : Nat → List Nd} : ∀ {ts : List Tk} {A B : List Nd}, Dok n dn A B ts → ∀ t ∈ ts, t.a < n ∧ t.b < n
 | [], _, _, _, t, ht => by simp at ht
 | ⟨a, b, true⟩ :: ts, A, B, h, t, ht => by
  obtain ⟨hab, _, _, h2⟩ := Dok.done.1 h
  rcases List.mem_cons.1 ht with e | e
  ·rw [e]; exact hab
  ·exact dok_low h2 t e
 | ⟨a, b, false⟩ :: ts, A, B, h, t, ht => by
  obtain ⟨hab, h2⟩ := Dok.todo.1 h
  rcases List.mem_cons.1 ht with e | e
  ·rw [e]; exact hab
  ·exact dok_low h2 t e
end Go.Proofs.YtikpipenhamdbaaGreat

namespace Go.Proofs.YtikpipenhamdbaaGreat

/-- May each node be? -/
def Okr (r : List Nd) : Prop := ∀ nd ∈ r, okB nd.1 nd.2.1 nd.2.2 = true
theorem Okr.nil : Okr [] := fun _ h => by simp at h
theorem Okr.app {a b : List Nd} : Okr (a ++ b) ↔ Okr a ∧ Okr b := List.forall_mem_append
theorem Okr.cons {nd : Nd} {r : List Nd} : Okr (nd :: r) ↔ okB nd.1 nd.2.1 nd.2.2 = true ∧ Okr r := List.forall_mem_cons
theorem ok_var {n : List UInt8} {l : Nat} (h : okB 2 n l = true) : varB n = true ∧ l = 0 := by
 simpa [okB] using h
theorem ok_two {n : List UInt8} (h : varB n = true) : okB 2 n 0 = true := by
 simp [okB, h]
theorem ok_kind {k : Int} {n : List UInt8} {l : Nat} (h : okB k n l = true) : (k = 1 ∨ k = 2 ∨ k = 3 ∨ k = 4) ∧ l ≤ 6 := by
 unfold okB at h
 split at h
 ·simp at h
  omega
 ·split at h
  ·simp at h
   omega
  ·split at h
   ·simp at h
    omega
   ·split at h
    ·simp at h
     omega
    ·cases h
theorem Okr.vok {r : List Nd} (h : Okr r) : vok r := fun nd hn h2 => by
 have := h nd hn
 rw [h2] at this
 exact (ok_var this).2
theorem ok_flat : ∀ (d : Nat) (t : Tn d), formB d t = true ↔ Okr (flat d t)
 | 0, t => t.elim
 | d + 1, ((k, n), ts) => by
  rw [form_succ, flat_succ, Okr.cons, Bool.and_eq_true]
  have : ts.all (formB d) = true ↔ Okr (flats d ts) := by
   rw [List.all_eq_true]
   induction ts with
   | nil => exact ⟨fun _ => Okr.nil, fun _ x hx => by simp at hx⟩
   | cons a r ih => rw [flats_cons, Okr.app, ← ok_flat d a, ← ih, List.forall_mem_cons]
  rw [this]
theorem Okr.sub {x : List UInt8} {u : List Nd} (hu : Okr u) : ∀ r : List Nd, Okr r → Okr (subF (one x u) r)
 | [], _ => Okr.nil
 | nd :: r, h => by
  obtain ⟨h1, h2⟩ := Okr.cons.1 h
  rw [subF_cons, Okr.app]
  refine ⟨?_, Okr.sub hu r h2⟩
  split
  ·unfold one
   split
   ·exact hu
   ·exact Okr.cons.2 ⟨h1, Okr.nil⟩
  ·exact Okr.cons.2 ⟨h1, Okr.nil⟩
theorem Okr.cut : ∀ (r : List Nd) (k : Nat), Okr r → Okr (cutF k r).1 ∧ Okr (cutF k r).2
 | [], 0, h => ⟨Okr.nil, h⟩
 | [], _ + 1, _ => ⟨Okr.nil, Okr.nil⟩
 | _ :: _, 0, h => ⟨Okr.nil, h⟩
 | nd :: r, k + 1, h => by
  obtain ⟨h1, h2⟩ := Okr.cons.1 h
  obtain ⟨g1, g2⟩ := Okr.cut r (k + nd.2.2) h2
  exact ⟨Okr.cons.2 ⟨h1, g1⟩, g2⟩
/-- What is bound may be. -/
def Okl (l : List (List UInt8 × List Nd)) : Prop := ∀ b ∈ l, varB b.1 = true ∧ Okr b.2
theorem Okl.nil : Okl [] := fun _ h => by simp at h
theorem Okl.cons {b : List UInt8 × List Nd} {l : List (List UInt8 × List Nd)} (h1 : varB b.1 = true ∧ Okr b.2) (h2 : Okl l) : Okl (b :: l) := List.forall_mem_cons.2 ⟨h1, h2⟩
theorem Okl.app {a b : List (List UInt8 × List Nd)} (h1 : Okl a) (h2 : Okl b) : Okl (a ++ b) := List.forall_mem_append.2 ⟨h1, h2⟩
theorem put_inv {c : List UInt8 × List Nd} {o : Option Uans} {l : List (List UInt8 × List Nd)} (h : o.map (putU c) = some (.inr l)) : ∃ l', o = some (.inr l') ∧ l = c :: l' := by
 cases o with
 | none => cases h
 | some y =>
  cases y with
  | inl e =>
   have h : some (Sum.inl e : Uans) = some (.inr l) := h
   injection h with h
   cases h
  | inr l' =>
   have h : some (Sum.inr (c :: l') : Uans) = some (.inr l) := h
   injection h with h
   injection h with h
   exact ⟨l', rfl, h.symm⟩
theorem uniF_ok : ∀ (f : Nat) (r s : List Nd) (l : List (List UInt8 × List Nd)), Okr r → Okr s → uniF f r s = some (.inr l) → Okl l
 | 0, _, _, _, _, _, h => by cases h
 | _ + 1, [], _, l, _, _, h => by
  simp only [uniF] at h
  injection h with h
  injection h with h
  rw [← h]
  exact Okl.nil
 | _ + 1, _ :: _, [], l, _, _, h => by
  simp only [uniF] at h
  injection h with h
  injection h with h
  rw [← h]
  exact Okl.nil
 | f + 1, a :: r, b :: s, l, hr, hs, h => by
  obtain ⟨ha, hr'⟩ := Okr.cons.1 hr
  obtain ⟨hb, hs'⟩ := Okr.cons.1 hs
  have key : ∀ (x : List UInt8) (u R S : List Nd), varB x = true → Okr u → Okr R → Okr S → ((uniF f (subF (one x u) R) (subF (one x u) S)).map (putU (x, u))) = some (.inr l) → Okl l := fun x u R S hx hu hR hS e => by
   obtain ⟨l', e1, rfl⟩ := put_inv e
   exact Okl.cons ⟨hx, hu⟩ (uniF_ok f _ _ l' (hu.sub R hR) (hu.sub S hS) e1)
  obtain ⟨cb1, cb2⟩ := Okr.cut (b :: s) 1 hs
  obtain ⟨ca1, ca2⟩ := Okr.cut (a :: r) 1 hr
  rw [uniF] at h
  split at h
  ·exact uniF_ok f r s l hr' hs' h
  ·split at h
   ·rename_i h2
    rw [h2] at ha
    split at h
    ·rename_i h3
     rw [h3] at hb
     split at h
     ·exact key _ _ r s (ok_var ha).1 (Okr.cons.2 ⟨by rw [h3]; exact hb, Okr.nil⟩) hr' hs' h
     ·exact key _ _ r s (ok_var hb).1 (Okr.cons.2 ⟨by rw [h2]; exact ha, Okr.nil⟩) hr' hs' h
    ·split at h
     ·injection h with h
      cases h
     ·exact key _ _ r _ (ok_var ha).1 cb1 hr' cb2 h
   ·split at h
    ·rename_i h3
     rw [h3] at hb
     split at h
     ·injection h with h
      cases h
     ·exact key _ _ _ s (ok_var hb).1 ca1 ca2 hs' h
    ·injection h with h
     cases h
theorem Okl.subL : ∀ {l : List (List UInt8 × List Nd)}, Okl l → ∀ r : List Nd, Okr r → Okr (subL l r)
 | [], _, _, hr => hr
 | b :: l, h, r, hr => Okl.subL (l := l) (fun c hc => h c (List.mem_cons_of_mem _ hc)) _ ((h b List.mem_cons_self).2.sub r hr)
theorem Prs.ok : ∀ (ps : List (List Nd × List Nd)) (L : List (List UInt8 × List Nd)) (i : Nat) {M : List (List UInt8 × List Nd)}, Okl L → (∀ p ∈ ps, Okr p.1 ∧ Okr p.2) → Prs ps L i (.inr M) → Okl M
 | [], L, i, M, hL, _, h => by
  have h : (Sum.inr M : Sum (Nat × Int) (List (List UInt8 × List Nd))) = .inr L := h
  injection h with h
  rw [h]
  exact hL
 | p :: ps, L, i, M, hL, hp, h => by
  rcases h with ⟨c, _, e⟩ | ⟨l, ⟨f, hu⟩, hr⟩
  ·cases e
  ·obtain ⟨h1, h2⟩ := hp p List.mem_cons_self
   exact Prs.ok ps (L ++ l) (i + 1) (hL.app (uniF_ok f _ _ l (hL.subL _ h1) (hL.subL _ h2) hu)) (fun q hq => hp q (List.mem_cons_of_mem _ hq)) hr
/-- A name that nothing is bound of stays. -/
theorem subL_stays {L : List (List UInt8 × List Nd)} {n : List UInt8} (h : ∀ b ∈ L, b.1 ≠ n) : subL L [(2, n, 0)] = [(2, n, 0)] :=
 subL_free (vok_cons.2 ⟨fun _ => rfl, vok_nil⟩) fun b hb hm => h b hb (by
  have := List.mem_singleton.1 hm
  injection this with _ this
  injection this)
end Go.Proofs.YtikpipenhamdbaaGreat

namespace Go.Proofs.YtikpipenhamdbaaGreat

/-- All of a list ahead of what comes. -/
def putsU (l : List (List UInt8 × List Nd)) : Uans → Uans
 | .inl c => .inl c
 | .inr m => .inr (l ++ m)
theorem putsU_nil (x : Uans) : putsU [] x = x := by cases x <;> rfl
theorem putsU_cons (b : List UInt8 × List Nd) (l : List (List UInt8 × List Nd)) (x : Uans) : putU b (putsU l x) = putsU (b :: l) x := by cases x <;> rfl
/-- What comes of the first trees of two rows, and of the rest. -/
def Split (f : Nat) (r1 s1 r2 s2 : List Nd) (x : Uans) : Prop :=
 (∃ c g, g ≤ f ∧ uniF g r1 s1 = some (.inl c) ∧ x = .inl c) ∨ ∃ l g h z, g ≤ f ∧ h ≤ f ∧ uniF g r1 s1 = some (.inr l) ∧ uniF h (subL l r2) (subL l s2) = some z ∧ x = putsU l z
theorem split_step {f : Nat} {x : List UInt8} {u R1 S1 R2 S2 r1 s1 r2 s2 : List Nd} {z : Uans}
  (hs : ∀ g y, uniF g (subF (one x u) R1) (subF (one x u) S1) = some y → uniF (g + 1) r1 s1 = some (putU (x, u) y))
  (h2 : r2 = R2) (h3 : s2 = S2)
  (h : Split f (subF (one x u) R1) (subF (one x u) S1) (subF (one x u) R2) (subF (one x u) S2) z) : Split (f + 1) r1 s1 r2 s2 (putU (x, u) z) := by
 subst h2 h3
 rcases h with ⟨c, g, h1, h2, h3⟩ | ⟨l, g, h, y, h1, h2, h3, h4, h5⟩
 ·subst h3
  exact .inl ⟨c, g + 1, by omega, hs g _ h2, rfl⟩
 ·subst h5
  exact .inr ⟨(x, u) :: l, g + 1, h, y, by omega, by omega, hs g _ h3, h4, putsU_cons _ _ _⟩
theorem eats_head {a : Nd} {k : Nat} {r : List Nd} (h : eats (k + 1) (a :: r) = true) : ∃ u r', a :: r = u ++ r' ∧ eats 1 u = true ∧ eats k r' = true ∧ ∃ v, u = a :: v := by
 rw [Nat.add_comm] at h
 obtain ⟨u, r', e, h1, h2⟩ := eats_cut (a :: r) 1 k h
 refine ⟨u, r', e, h1, h2, ?_⟩
 cases u with
 | nil => simp [eats] at h1
 | cons b v =>
  injection e with e1 e2
  exact ⟨v, by rw [e1]⟩
theorem uniF_split : ∀ (f k : Nat) (r1 s1 r2 s2 : List Nd) (x : Uans), eats k r1 = true → eats k s1 = true → vok r1 → vok s1 → uniF f (r1 ++ r2) (s1 ++ s2) = some x → Split f r1 s1 r2 s2 x
 | 0, _, _, _, _, _, _, _, _, _, _, h => by simp [uniF] at h
 | f + 1, 0, r1, s1, r2, s2, x, hr, hs, _, _, h => by
  cases r1 with
  | cons => simp [eats] at hr
  | nil =>
   cases s1 with
   | cons => simp [eats] at hs
   | nil => exact .inr ⟨[], 1, f + 1, x, by omega, by omega, rfl, h, (putsU_nil x).symm⟩
 | f + 1, k + 1, r1, s1, r2, s2, x, hr, hs, vr, vs, h => by
  cases r1 with
  | nil => simp [eats] at hr
  | cons a r1 =>
  cases s1 with
  | nil => simp [eats] at hs
  | cons b s1 =>
  obtain ⟨va, vr'⟩ := vok_cons.1 vr
  obtain ⟨vb, vs'⟩ := vok_cons.1 vs
  have step : ∀ (n : List UInt8) (u R1 S1 : List Nd), eats 1 u = true → vok u → eats k R1 = true → eats k S1 = true → vok R1 → vok S1 → (∀ g y, uniF g (subF (one n u) R1) (subF (one n u) S1) = some y → uniF (g + 1) (a :: r1) (b :: s1) = some (putU (n, u) y)) → ((uniF f (subF (one n u) (R1 ++ r2)) (subF (one n u) (S1 ++ s2))).map (putU (n, u))) = some x → Split (f + 1) (a :: r1) (b :: s1) r2 s2 x := fun n u R1 S1 hu vu h1 h2 h3 h4 hst e => by
   obtain ⟨y, e1, rfl⟩ := Option.map_eq_some_iff.1 e
   rw [subF_app, subF_app] at e1
   have ok := one_ok (x := n) hu vu
   exact split_step hst rfl rfl (uniF_split f k _ _ _ _ y (sub_eats ok _ _ h3 h1) (sub_eats ok _ _ h4 h2) (sub_vok ok _ h3) (sub_vok ok _ h4) e1)
  have v1 : ∀ c : Nd, (c.1 = 2 → c.2.2 = 0) → vok [c] := fun c hc => vok_cons.2 ⟨hc, vok_nil⟩
  rw [List.cons_append, List.cons_append, uniF] at h
  by_cases hab : a = b
  ·rw [if_pos hab] at h
   subst hab
   rcases uniF_split f (k + a.2.2) r1 s1 r2 s2 x hr hs vr' vs' h with ⟨c, g, h1, h2, h3⟩ | ⟨l, g, q, z, h1, h2, h3, h4, h5⟩
   ·exact .inl ⟨c, g + 1, by omega, by rw [uniF, if_pos rfl]; exact h2, h3⟩
   ·exact .inr ⟨l, g + 1, q, z, by omega, by omega, by rw [uniF, if_pos rfl]; exact h3, h4, h5⟩
  ·rw [if_neg hab] at h
   by_cases a2 : a.1 = 2
   ·rw [if_pos a2] at h
    have ea : eats k r1 = true := by
     have : eats (k + a.2.2) r1 = true := hr
     rw [va a2] at this
     exact this
    by_cases b2 : b.1 = 2
    ·rw [if_pos b2] at h
     have eb : eats k s1 = true := by
      have : eats (k + b.2.2) s1 = true := hs
      rw [vb b2] at this
      exact this
     have ta : eats 1 [a] = true := by
      show eats (0 + a.2.2) [] = true
      rw [va a2]
      rfl
     have tb : eats 1 [b] = true := by
      show eats (0 + b.2.2) [] = true
      rw [vb b2]
      rfl
     by_cases hlt : b.2.1 < a.2.1
     ·rw [if_pos hlt] at h
      exact step _ _ r1 s1 tb (v1 b vb) ea eb vr' vs' (fun g y e => by rw [uniF, if_neg hab, if_pos a2, if_pos b2, if_pos hlt, e]; rfl) h
     ·rw [if_neg hlt] at h
      exact step _ _ r1 s1 ta (v1 a va) ea eb vr' vs' (fun g y e => by rw [uniF, if_neg hab, if_pos a2, if_pos b2, if_neg hlt, e]; rfl) h
    ·rw [if_neg b2] at h
     obtain ⟨u, s', e, hu, hs', v, rfl⟩ := eats_head hs
     have e2 : b :: (s1 ++ s2) = (b :: v) ++ (s' ++ s2) := by rw [← List.cons_append, e, List.append_assoc]
     have c1 := cut_app (b :: v) 1 (s' ++ s2) hu
     have c2 := cut_app (b :: v) 1 s' hu
     rw [← e2] at c1
     rw [← e] at c2
     rw [c1] at h
     have vv : vok (b :: v) ∧ vok s' := by
      rw [e] at vs
      exact vok_app.1 vs
     by_cases ho : a ∈ b :: v
     ·rw [if_pos ho] at h
      injection h with h
      exact .inl ⟨51, 1, by omega, by rw [uniF, if_neg hab, if_pos a2, if_neg b2, c2, if_pos ho], h.symm⟩
     ·rw [if_neg ho] at h
      exact step _ _ r1 s' hu vv.1 ea hs' vr' vv.2 (fun g y e => by rw [uniF, if_neg hab, if_pos a2, if_neg b2, c2, if_neg ho, e]; rfl) h
   ·rw [if_neg a2] at h
    by_cases b2 : b.1 = 2
    ·rw [if_pos b2] at h
     have eb : eats k s1 = true := by
      have : eats (k + b.2.2) s1 = true := hs
      rw [vb b2] at this
      exact this
     obtain ⟨u, r', e, hu, hr', v, rfl⟩ := eats_head hr
     have e2 : a :: (r1 ++ r2) = (a :: v) ++ (r' ++ r2) := by rw [← List.cons_append, e, List.append_assoc]
     have c1 := cut_app (a :: v) 1 (r' ++ r2) hu
     have c2 := cut_app (a :: v) 1 r' hu
     rw [← e2] at c1
     rw [← e] at c2
     rw [c1] at h
     have vv : vok (a :: v) ∧ vok r' := by
      rw [e] at vr
      exact vok_app.1 vr
     by_cases ho : b ∈ a :: v
     ·rw [if_pos ho] at h
      injection h with h
      exact .inl ⟨51, 1, by omega, by rw [uniF, if_neg hab, if_neg a2, if_pos b2, c2, if_pos ho], h.symm⟩
     ·rw [if_neg ho] at h
      exact step _ _ r' s1 hu vv.1 hr' eb vv.2 vs' (fun g y e => by rw [uniF, if_neg hab, if_neg a2, if_pos b2, c2, if_neg ho, e]; rfl) h
    ·rw [if_neg b2] at h
     injection h with h
     exact .inl ⟨50, 1, by omega, by rw [uniF, if_neg hab, if_neg a2, if_neg b2], h.symm⟩
/-! Other names. -/
/-- A node with another name, if it is a variable. -/
def rnd (ρ : List UInt8 → List UInt8) (nd : Nd) : Nd := if nd.1 = 2 then (2, ρ nd.2.1, nd.2.2) else nd
def ren (ρ : List UInt8 → List UInt8) (r : List Nd) : List Nd := r.map (rnd ρ)
theorem ren_cons (ρ : List UInt8 → List UInt8) (nd : Nd) (r : List Nd) : ren ρ (nd :: r) = rnd ρ nd :: ren ρ r := rfl
theorem ren_app (ρ : List UInt8 → List UInt8) (r s : List Nd) : ren ρ (r ++ s) = ren ρ r ++ ren ρ s := List.map_append
theorem ren_len (ρ : List UInt8 → List UInt8) (r : List Nd) : (ren ρ r).length = r.length := List.length_map _
theorem rnd_var (ρ : List UInt8 → List UInt8) (n : List UInt8) (l : Nat) : rnd ρ (2, n, l) = (2, ρ n, l) := rfl
theorem rnd_node (ρ : List UInt8 → List UInt8) {nd : Nd} (h : nd.1 ≠ 2) : rnd ρ nd = nd := if_neg h
theorem rnd_kind (ρ : List UInt8 → List UInt8) (nd : Nd) : (rnd ρ nd).1 = nd.1 ∧ (rnd ρ nd).2.2 = nd.2.2 := by
 unfold rnd
 split
 ·rename_i h
  exact ⟨h.symm, rfl⟩
 ·exact ⟨rfl, rfl⟩
theorem ren_id : ∀ r : List Nd, ren id r = r
 | [] => rfl
 | nd :: r => by
  rw [ren_cons, ren_id r]
  congr 1
  unfold rnd
  split
  ·rename_i h
   obtain ⟨a, b, c⟩ := nd
   simp only at h
   rw [h]
   rfl
  ·rfl
theorem ren_ren (ρ π : List UInt8 → List UInt8) : ∀ r : List Nd, ren ρ (ren π r) = ren (ρ ∘ π) r
 | [] => rfl
 | nd :: r => by
  rw [ren_cons, ren_cons, ren_cons, ren_ren ρ π r]
  congr 1
  by_cases h : nd.1 = 2
  ·unfold rnd
   simp [h]
  ·rw [rnd_node π h, rnd_node ρ h, rnd_node _ h]
theorem ren_inj {ρ : List UInt8 → List UInt8} (hρ : ∀ a b, ρ a = ρ b → a = b) : ∀ {r s : List Nd}, ren ρ r = ren ρ s → r = s
 | [], [], _ => rfl
 | [], _ :: _, h => by cases h
 | _ :: _, [], h => by cases h
 | a :: r, b :: s, h => by
  rw [ren_cons, ren_cons] at h
  injection h with h1 h2
  rw [ren_inj hρ h2]
  congr 1
  have k1 := rnd_kind ρ a
  have k2 := rnd_kind ρ b
  have e1 : a.1 = b.1 := by rw [← k1.1, ← k2.1, h1]
  have e2 : a.2.2 = b.2.2 := by rw [← k1.2, ← k2.2, h1]
  have e3 : a.2.1 = b.2.1 := by
   unfold rnd at h1
   by_cases q : a.1 = 2
   ·rw [if_pos q, if_pos (e1 ▸ q)] at h1
    exact hρ _ _ (congrArg (fun x => x.2.1) h1)
   ·rw [if_neg q, if_neg (e1 ▸ q)] at h1
    exact congrArg (fun x => x.2.1) h1
  obtain ⟨a1, a2, a3⟩ := a
  obtain ⟨b1, b2, b3⟩ := b
  simp only at e1 e2 e3
  rw [e1, e2, e3]
theorem ren_mem {ρ : List UInt8 → List UInt8} (hρ : ∀ a b, ρ a = ρ b → a = b) {x : List UInt8} {r : List Nd} : ((2, ρ x, 0) : Nd) ∈ ren ρ r ↔ ((2, x, 0) : Nd) ∈ r := by
 constructor
 ·intro h
  obtain ⟨a, ha, e⟩ := List.mem_map.1 h
  have : a = (2, x, 0) := by
   have k := rnd_kind ρ a
   have e1 : a.1 = 2 := by rw [← k.1, e]
   have e2 : a.2.2 = 0 := by rw [← k.2, e]
   have e3 : ρ a.2.1 = ρ x := by
    unfold rnd at e
    rw [if_pos e1] at e
    exact congrArg (fun x => x.2.1) e
   obtain ⟨a1, a2, a3⟩ := a
   simp only at e1 e2 e3
   rw [e1, e2, hρ _ _ e3]
  rw [← this]
  exact ha
 ·intro h
  exact List.mem_map.2 ⟨_, h, rfl⟩
theorem ren_sub {ρ : List UInt8 → List UInt8} (hρ : ∀ a b, ρ a = ρ b → a = b) (x : List UInt8) (u : List Nd) : ∀ r : List Nd, vok r → subF (one (ρ x) (ren ρ u)) (ren ρ r) = ren ρ (subF (one x u) r)
 | [], _ => rfl
 | nd :: r, hv => by
  obtain ⟨hv1, hv2⟩ := vok_cons.1 hv
  have ih := ren_sub hρ x u r hv2
  by_cases h2 : nd.1 = 2
  ·rw [var_form h2 (hv1 h2), ren_cons, rnd_var, subF_vc, subF_vc, ren_app, ih]
   congr 1
   by_cases q : nd.2.1 = x
   ·rw [q, vF_one_self, vF_one_self]
   ·rw [vF_one_other u q, vF_one_other _ fun e => q (hρ _ _ e)]
    rfl
  ·rw [ren_cons, rnd_node ρ h2, subF_node _ h2, subF_node _ h2, ren_cons, rnd_node ρ h2, ih]
/-- Two names change places. -/
def sw (x y : List UInt8) (n : List UInt8) : List UInt8 := if n = x then y else if n = y then x else n
theorem sw_right (x y : List UInt8) : sw x y y = x := by
 unfold sw
 split
 ·rename_i h
  exact h
 ·exact if_pos rfl
theorem sw_inj (x y a b : List UInt8) (h : sw x y a = sw x y b) : a = b := by
 have inv : ∀ n, sw x y (sw x y n) = n := fun n => by
  unfold sw
  by_cases h1 : n = x
  ·subst h1
   by_cases h2 : y = n
   ·simp [h2]
   ·simp [h2]
  ·by_cases h2 : n = y
   ·subst h2
    simp [h1]
   ·simp [h1, h2]
 rw [← inv a, h, inv b]
theorem sw_sub (x y : List UInt8) (hne : x ≠ y) : ∀ r : List Nd, vok r → ren (sw x y) (subF (one x [(2, y, 0)]) r) = subF (one y [(2, x, 0)]) r
 | [], _ => rfl
 | nd :: r, hv => by
  obtain ⟨hv1, hv2⟩ := vok_cons.1 hv
  have ih := sw_sub x y hne r hv2
  by_cases h2 : nd.1 = 2
  ·rw [var_form h2 (hv1 h2), subF_vc, subF_vc, ren_app, ih]
   congr 1
   by_cases q : nd.2.1 = x
   ·rw [q, vF_one_self, vF_one_other _ hne, ren_cons, rnd_var, sw_right]
    rfl
   ·rw [vF_one_other _ q, ren_cons, rnd_var]
    by_cases q2 : nd.2.1 = y
    ·rw [q2, vF_one_self, sw_right]
     rfl
    ·rw [vF_one_other _ q2]
     unfold sw
     rw [if_neg q, if_neg q2]
     rfl
  ·rw [subF_node _ h2, subF_node _ h2, ren_cons, rnd_node _ h2, ih]
end Go.Proofs.YtikpipenhamdbaaGreat

namespace Go.Proofs.YtikpipenhamdbaaGreat

theorem ren_eats (ρ : List UInt8 → List UInt8) : ∀ (k : Nat) (r : List Nd), eats k (ren ρ r) = eats k r
 | 0, [] => rfl
 | 0, _ :: _ => rfl
 | _ + 1, [] => rfl
 | k + 1, nd :: r => by
  show eats (k + (rnd ρ nd).2.2) (ren ρ r) = eats (k + nd.2.2) r
  rw [(rnd_kind ρ nd).2, ren_eats ρ _ r]
theorem ren_vok' {ρ : List UInt8 → List UInt8} {r : List Nd} (h : vok (ren ρ r)) : vok r := fun nd hn h2 => by
 have := h _ (List.mem_map.2 ⟨nd, hn, rfl⟩)
 rw [(rnd_kind ρ nd).1, (rnd_kind ρ nd).2] at this
 exact this h2
theorem ren_flat (ρ : List UInt8 → List UInt8) (dp : Nat → List Nd) : ∀ aL : List Nat, ren ρ (aL.flatMap dp) = aL.flatMap fun k => ren ρ (dp k)
 | [] => rfl
 | a :: aL => by rw [List.flatMap_cons, List.flatMap_cons, ren_app, ren_flat ρ dp aL]
theorem subL_flat (l : List (List UInt8 × List Nd)) (dp : Nat → List Nd) : ∀ aL : List Nat, aL.flatMap (fun k => subL l (dp k)) = subL l (aL.flatMap dp)
 | [] => (subL_nil l).symm
 | a :: aL => by rw [List.flatMap_cons, List.flatMap_cons, subL_app, subL_flat l dp aL]
theorem Part.subL {m r : List Nd} : ∀ (l : List (List UInt8 × List Nd)), Part m r → Part (subL l m) (subL l r)
 | [], h => h
 | b :: l, h => Part.subL l (h.sub (one b.1 b.2))
/-- Is a row another one, or does it stand within it? -/
def PartE (m r : List Nd) : Prop := m = r ∨ Part m r
theorem PartE.part {m r s : List Nd} (h : PartE m r) (k : Part r s) : Part m s := by
 rcases h with h | h
 ·rw [h]
  exact k
 ·exact h.trans k
/-- What places stand for, and what they stand for by the steps: one but for names. -/
structure Bs (n : Nat) (lb : Nat → Int × List UInt8) (ar : Nat → List Nat) (tg : Nat → Nat) (dn : Nat → List Nd) (rt rk : Nat → Nat) (dp : Nat → List Nd) : Prop where
 den : Den n lb ar tg dn rt rk
 oth : ∃ ρ : List UInt8 → List UInt8, (∀ a b, ρ a = ρ b → a = b) ∧ ∀ k, k < n → dn k = ren ρ (dp k)
section
variable {n : Nat} {lb : Nat → Int × List UInt8} {ar : Nat → List Nat} {tg : Nat → Nat} {dn : Nat → List Nd} {rt rk : Nat → Nat} {dp : Nat → List Nd}
theorem Bs.tree (h : Bs n lb ar tg dn rt rk dp) {i : Nat} (hi : i < n) : eats 1 (dp i) = true ∧ vok (dp i) ∧ (dp i).length = (dn i).length := by
 obtain ⟨ρ, _, he⟩ := h.oth
 have h1 := h.den.tree hi
 have h2 := h.den.vok hi
 rw [he i hi] at h1 h2
 rw [ren_eats] at h1
 exact ⟨h1, ren_vok' h2, by rw [he i hi, ren_len]⟩
theorem Bs.one_rt (h : Bs n lb ar tg dn rt rk dp) {i j : Nat} (hi : i < n) (hj : j < n) (e : dn i = dn j) : dp i = dp j := by
 obtain ⟨ρ, hρ, he⟩ := h.oth
 rw [he i hi, he j hj] at e
 exact ren_inj hρ e
theorem Bs.rt_dp (h : Bs n lb ar tg dn rt rk dp) {i : Nat} (hi : i < n) : dp (rt i) = dp i := h.one_rt (h.den.rt_lt hi) hi (h.den.rt_dn hi)
/-- A variable that leads nowhere. -/
theorem Bs.var (h : Bs n lb ar tg dn rt rk dp) {i : Nat} (hi : i < n) (ht : tg i = i) (h2 : (lb i).1 = 2) : ∃ ρ : List UInt8 → List UInt8, (∀ a b, ρ a = ρ b → a = b) ∧ (∀ k, k < n → dn k = ren ρ (dp k)) ∧ ∃ x, dp i = [(2, x, 0)] ∧ (lb i).2 = ρ x ∧ dn i = [(2, ρ x, 0)] := by
 obtain ⟨ρ, hρ, he⟩ := h.oth
 refine ⟨ρ, hρ, he, ?_⟩
 have hri := (h.den.root i hi ht).1
 have hd : dn i = [(2, (lb i).2, 0)] := by
  have := h.den.free hi (by rw [hri]; exact h2)
  rw [hri] at this
  exact this
 have hd' := hd
 rw [he i hi] at hd'
 cases hp : dp i with
 | nil => rw [hp] at hd'; cases hd'
 | cons nd r =>
  rw [hp, ren_cons] at hd'
  injection hd' with e1 e2
  have hr : r = [] := by
   cases r with
   | nil => rfl
   | cons => cases e2
  subst hr
  have k := rnd_kind ρ nd
  have a1 : nd.1 = 2 := by rw [← k.1, e1]
  have a2 : nd.2.2 = 0 := by rw [← k.2, e1]
  have a3 : ρ nd.2.1 = (lb i).2 := by
   unfold rnd at e1
   rw [if_pos a1] at e1
   exact congrArg (fun x => x.2.1) e1
  exact ⟨nd.2.1, by rw [← var_form a1 a2], a3.symm, by rw [hd, a3]⟩
/-- A place that is no variable. -/
theorem Bs.node (h : Bs n lb ar tg dn rt rk dp) {i : Nat} (hi : i < n) (ht : tg i = i) (h2 : (lb i).1 ≠ 2) : dp i = ((lb i).1, (lb i).2, (ar i).length) :: (ar i).flatMap dp := by
 obtain ⟨ρ, hρ, he⟩ := h.oth
 have hd := (h.den.root i hi ht).2
 rw [he i hi] at hd
 refine ren_inj hρ (hd.trans ?_)
 rw [ren_cons, rnd_node ρ (show (((lb i).1, (lb i).2, (ar i).length) : Nd).1 ≠ 2 from h2), ren_flat]
 congr 1
 exact flat_same _ fun a ha => he a (h.den.arg i hi a ha)
/-- What stands for what when i is led to t. -/
def ldn (lb : Nat → Int × List UInt8) (dn : Nat → List Nd) (i t : Nat) : Nat → List Nd := fun k => subF (one (lb i).2 (dn t)) (dn k)
def lrt (rt : Nat → Nat) (i t : Nat) : Nat → Nat := fun k => if rt k = i then t else rt k
def lrk (rt rk : Nat → Nat) (i t : Nat) : Nat → Nat := fun k => if rt k = i then rk k + rk t + 1 else rk k
theorem one_app (x : List UInt8) (u : List Nd) : subL [(x, u)] = subF (one x u) := rfl
/-- A variable is bound: what the steps say of it, in either order. -/
theorem Bs.bind (h : Bs n lb ar tg dn rt rk dp) {i t f : Nat} {x : Uans} (hi : i < n) (ht : t < n) (hii : tg i = i) (htt : tg t = t) (hne : i ≠ t) (h2 : (lb i).1 = 2) (hu : uniF f (dp i) (dp t) = some x ∨ uniF f (dp t) (dp i) = some x ∧ (lb t).1 ≠ 2) :
  (((2, (lb i).2, 0) : Nd) ∈ dn t ∧ x = .inl 51) ∨ (((2, (lb i).2, 0) : Nd) ∉ dn t ∧ ∃ l, x = .inr l ∧ Bs n lb ar (putN tg i t) (ldn lb dn i t) (lrt rt i t) (lrk rt rk i t) (fun k => subL l (dp k)) ∧ subL l (dp i) = subL l (dp t)) := by
 obtain ⟨ρ, hρ, he, x0, hx, hl, hd⟩ := h.var hi hii h2
 obtain ⟨tt, vt, _⟩ := h.tree ht
 have vk : ∀ k, k < n → vok (dp k) := fun k hk => (h.tree hk).2.1
 by_cases t2 : (lb t).1 = 2
 ·-- two variables
  have hu : uniF f (dp i) (dp t) = some x := by
   rcases hu with hu | ⟨_, hu⟩
   ·exact hu
   ·exact absurd t2 hu
  obtain ⟨y0, hy, hly⟩ : ∃ y0, dp t = [(2, y0, 0)] ∧ (lb t).2 = ρ y0 := by
   have hri := (h.den.root t ht htt).1
   have hd : dn t = [(2, (lb t).2, 0)] := by
    have := h.den.free ht (by rw [hri]; exact t2)
    rw [hri] at this
    exact this
   obtain ⟨ρ', hρ', he', y0, e1, e2, e3⟩ := h.var ht htt t2
   have e4 := he t ht
   rw [e1] at e4
   refine ⟨y0, e1, ?_⟩
   rw [hd] at e4
   have e4 : ([(2, (lb t).2, 0)] : List Nd) = [(2, ρ y0, 0)] := e4
   injection e4 with e4 _
   exact congrArg (fun x => x.2.1) e4
  have hxy : x0 ≠ y0 := fun e => hne (h.den.uni i t hi ht h2 t2 (by rw [hl, hly, e]))
  have hdt : dn t = [(2, ρ y0, 0)] := by rw [he t ht, hy]; rfl
  have ho : ((2, (lb i).2, 0) : Nd) ∉ dn t := by
   rw [hl, hdt]
   intro hm
   have := List.mem_singleton.1 hm
   exact hxy (hρ _ _ (congrArg (fun x => x.2.1) this))
  have den := h.den.bind hi ht hii htt h2 ho
  refine .inr ⟨ho, ?_⟩
  have ans : ∀ k, k < n → ldn lb dn i t k = ren ρ (subF (one x0 [(2, y0, 0)]) (dp k)) := fun k hk => by
   show subF (one (lb i).2 (dn t)) (dn k) = _
   rw [hl, hdt, he k hk, ← ren_sub hρ x0 [(2, y0, 0)] (dp k) (vk k hk)]
   rfl
  rw [hx, hy] at hu
  by_cases hlt : y0 < x0
  ·have := Uni.one ⟨f, hu⟩ (Uni.vars (r := []) (s := []) hlt (Uni.nil _))
   refine ⟨[(x0, [(2, y0, 0)])], this, ⟨den, ρ, hρ, ans⟩, ?_⟩
   rw [hx, hy, one_app, subF_v, subF_v, vF_one_self, vF_one_other _ (Ne.symm hxy)]
  ·have := Uni.one ⟨f, hu⟩ (Uni.vars' (r := []) (s := []) hxy hlt (Uni.nil _))
   refine ⟨[(y0, [(2, x0, 0)])], this, ⟨den, ρ ∘ sw y0 x0, fun a b e => sw_inj _ _ _ _ (hρ _ _ e), fun k hk => ?_⟩, ?_⟩
   ·rw [ans k hk, ← ren_ren, one_app, sw_sub y0 x0 (Ne.symm hxy) _ (vk k hk)]
   ·rw [hx, hy, one_app, subF_v, subF_v, vF_one_self, vF_one_other _ hxy]
 ·have hn := h.node ht htt t2
  have nv : noVar (dp t) := ⟨_, _, hn, t2⟩
  have hmem : ((2, (lb i).2, 0) : Nd) ∈ dn t ↔ ((2, x0, 0) : Nd) ∈ dp t := by
   rw [hl, he t ht]
   exact ren_mem hρ
  by_cases ho : ((2, x0, 0) : Nd) ∈ dp t
  ·refine .inl ⟨hmem.2 ho, ?_⟩
   rcases hu with hu | ⟨hu, _⟩
   ·rw [hx] at hu
    exact Uni.one ⟨f, hu⟩ (by have := Uni.occurs (r := []) (s := []) tt nv ho; rw [List.append_nil] at this; exact this)
   ·rw [hx] at hu
    exact Uni.one ⟨f, hu⟩ (by have := Uni.occurs' (r := []) (s := []) tt nv ho; rw [List.append_nil] at this; exact this)
  ·have ho' : ((2, (lb i).2, 0) : Nd) ∉ dn t := fun q => ho (hmem.1 q)
   have den := h.den.bind hi ht hii htt h2 ho'
   refine .inr ⟨ho', [(x0, dp t)], ?_, ⟨den, ρ, hρ, fun k hk => ?_⟩, ?_⟩
   ·rcases hu with hu | ⟨hu, _⟩
    ·rw [hx] at hu
     exact Uni.one ⟨f, hu⟩ (by have := Uni.bind (r := []) (s := []) tt nv ho (Uni.nil _); rw [List.append_nil] at this; exact this)
    ·rw [hx] at hu
     exact Uni.one ⟨f, hu⟩ (by have := Uni.bind' (r := []) (s := []) tt nv ho (Uni.nil _); rw [List.append_nil] at this; exact this)
   ·show subF (one (lb i).2 (dn t)) (dn k) = _
    rw [hl, he t ht, he k hk, one_app, ← ren_sub hρ x0 (dp t) (dp k) (vk k hk)]
   ·rw [hx, one_app, subF_v, vF_one_self, sub_one_free _ vt ho]
/-- Two that lead to one. -/
theorem Bs.same (h : Bs n lb ar tg dn rt rk dp) {i j f : Nat} {x : Uans} (hi : i < n) (hj : j < n) (e : rt i = rt j) (hu : uniF f (dp i) (dp j) = some x) : x = .inr [] ∧ dp i = dp j := by
 have ed := h.one_rt hi hj (h.den.one_rt hi hj e)
 rw [ed] at hu
 refine ⟨Uni.one ⟨f, hu⟩ ?_, ed⟩
 have := Uni.same (Uni.nil []) (dp j)
 rw [List.append_nil] at this
 exact this
/-- Two of other forms. -/
theorem Bs.clash (h : Bs n lb ar tg dn rt rk dp) {i j f : Nat} {x : Uans} (hi : i < n) (hj : j < n) (hii : tg i = i) (hjj : tg j = j) (hi2 : (lb i).1 ≠ 2) (hj2 : (lb j).1 ≠ 2) (hne : ¬((lb i).1 = (lb j).1 ∧ (lb i).2 = (lb j).2 ∧ (ar i).length = (ar j).length)) (hu : uniF f (dp i) (dp j) = some x) : x = .inl 50 := by
 rw [h.node hi hii hi2, h.node hj hjj hj2] at hu
 refine Uni.one ⟨f, hu⟩ (Uni.clash hi2 hj2 fun e => hne ?_)
 injection e with e1 e2
 injection e2 with e2 e3
 exact ⟨e1, e2, e3⟩
/-- So many Args of two places agree. -/
structure Ag (n : Nat) (lb : Nat → Int × List UInt8) (ar : Nat → List Nat) (dp0 : Nat → List Nd) (tg0 : Nat → Nat) (i j f : Nat) (x : Uans) (m : Nat) (tg : Nat → Nat) (dn : Nat → List Nd) (rt rk : Nat → Nat) (dp : Nat → List Nd) : Prop where
 bs : Bs n lb ar tg dn rt rk dp
 go : ∃ l z g, g < f ∧ uniF g (((ar i).drop m).flatMap dp) (((ar j).drop m).flatMap dp) = some z ∧ x = putsU l z ∧ dp = fun k => subL l (dp0 k)
 led : ∀ k, k < n → tg0 k = k → tg k ≠ k → Part (dp k) (dp i)
theorem Ag.start (h : Bs n lb ar tg dn rt rk dp) {i j f : Nat} {x : Uans} (hi : i < n) (hj : j < n) (hii : tg i = i) (hjj : tg j = j) (hi2 : (lb i).1 ≠ 2) (e1 : (lb i).1 = (lb j).1) (e2 : (lb i).2 = (lb j).2) (e3 : (ar i).length = (ar j).length) (hu : uniF f (dp i) (dp j) = some x) : Ag n lb ar dp tg i j f x 0 tg dn rt rk dp := by
 refine ⟨h, ?_, fun k _ h1 h2 => absurd h1 h2⟩
 rw [h.node hi hii hi2, h.node hj hjj (e1 ▸ hi2), e1, e2, e3] at hu
 cases f with
 | zero => simp [uniF] at hu
 | succ f =>
  rw [uniF, if_pos rfl] at hu
  exact ⟨[], x, f, by omega, hu, (putsU_nil x).symm, rfl⟩
theorem putsU_two (l m : List (List UInt8 × List Nd)) (x : Uans) : putsU l (putsU m x) = putsU (l ++ m) x := by
 cases x with
 | inl => rfl
 | inr y => show Sum.inr (l ++ (m ++ y)) = Sum.inr (l ++ m ++ y); rw [List.append_assoc]
/-- The next two of the Args. -/
theorem Ag.next {tg0 : Nat → Nat} {dp0 : Nat → List Nd} {i j f m : Nat} {x : Uans} (h : Ag n lb ar dp0 tg0 i j f x m tg dn rt rk dp) (hi : i < n) (hj : j < n) (hm : m < (ar i).length) (hm' : m < (ar j).length) :
  ∃ g y, g < f ∧ uniF g (dp (ar i)[m]) (dp (ar j)[m]) = some y ∧ (∀ c, y = .inl c → x = .inl c) ∧
   ∀ l tg' dn' rt' rk', y = .inr l → Bs n lb ar tg' dn' rt' rk' (fun k => subL l (dp k)) → (∀ k, k < n → tg k = k → tg' k ≠ k → PartE (subL l (dp k)) (subL l (dp (ar i)[m]))) → Part (dp (ar i)[m]) (dp i) → Ag n lb ar dp0 tg0 i j f x (m + 1) tg' dn' rt' rk' (fun k => subL l (dp k)) := by
 obtain ⟨l0, z, g, hg, hu, hx, hdp⟩ := h.go
 have la := h.bs.den.arg i hi _ (List.getElem_mem hm)
 have lB := h.bs.den.arg j hj _ (List.getElem_mem hm')
 obtain ⟨ta, va, _⟩ := h.bs.tree la
 obtain ⟨tb, vb, _⟩ := h.bs.tree lB
 rw [List.drop_eq_getElem_cons hm, List.drop_eq_getElem_cons hm', List.flatMap_cons, List.flatMap_cons] at hu
 rcases uniF_split g 1 _ _ _ _ z ta tb va vb hu with ⟨c, q, h1, h2, h3⟩ | ⟨l, q, r, y, h1, h2, h3, h4, h5⟩
 ·refine ⟨q, _, by omega, h2, fun c' e => ?_, fun l tg' dn' rt' rk' e => by cases e⟩
  injection e with e
  rw [hx, h3, e]
  rfl
 ·refine ⟨q, _, by omega, h3, fun c e => (by cases e), fun l' tg' dn' rt' rk' e hb hl hp => ?_⟩
  injection e with e
  subst e
  refine ⟨hb, ⟨l0 ++ l, y, r, by omega, ?_, ?_, ?_⟩, fun k hk h0 ht => ?_⟩
  ·rw [subL_flat, subL_flat]
   exact h4
  ·rw [hx, h5, putsU_two]
  ·funext k
   rw [subL_two, hdp]
  ·have hpi := hp.subL l
   by_cases q : tg k = k
   ·exact (hl k hk q ht).part hpi
   ·exact (h.led k hk h0 q).subL l
/-- All do: the two places are made one. -/
theorem Ag.done {tg0 : Nat → Nat} {dn0 : Nat → List Nd} {rt0 rk0 : Nat → Nat} {dp0 : Nat → List Nd} {i j f m : Nat} {x : Uans} (h0 : Bs n lb ar tg0 dn0 rt0 rk0 dp0) (h : Ag n lb ar dp0 tg0 i j f x m tg dn rt rk dp) (hi : i < n) (hj : j < n) (hii : tg0 i = i) (hjj : tg0 j = j) (hne : i ≠ j) (hm : (ar i).length ≤ m) (hm' : (ar j).length ≤ m) (hu : uniF f (dp0 i) (dp0 j) = some x) :
  tg i = i ∧ tg j = j ∧ ∃ l, x = .inr l ∧ dp = (fun k => subL l (dp0 k)) ∧ dp i = dp j ∧ Bs n lb ar (putN tg i j) dn (lrt rt i j) (lrk rt rk i j) dp ∧ ∀ k, k < n → tg0 k = k → putN tg i j k ≠ k → PartE (dp k) (dp i) := by
 obtain ⟨l0, z, g, hg, hz, hx, hdp⟩ := h.go
 rw [List.drop_eq_nil_of_le hm, List.drop_eq_nil_of_le hm'] at hz
 have hz0 : z = .inr [] := Uni.one ⟨g, hz⟩ (Uni.nil [])
 have hxl : x = .inr l0 := by rw [hx, hz0]; show Sum.inr (l0 ++ []) = _; rw [List.append_nil]
 obtain ⟨ta, va, _⟩ := h0.tree hi
 obtain ⟨tb, vb, _⟩ := h0.tree hj
 have hgood := Uni.good ⟨f, hu⟩ ta tb va vb
 rw [hxl] at hgood
 have hij : dp i = dp j := by
  rw [hdp]
  exact hgood.1
 have ti : tg i = i := Decidable.byContradiction fun q => by
  have := (h.led i hi hii q).less
  omega
 have tj : tg j = j := Decidable.byContradiction fun q => by
  have := (h.led j hj hjj q).less
  rw [hij] at this
  omega
 obtain ⟨ρ, hρ, he⟩ := h.bs.oth
 have hdn : dn i = dn j := by rw [he i hi, he j hj, hij]
 refine ⟨ti, tj, l0, hxl, hdp, hij, ⟨h.bs.den.meet hi hj ti tj hne hdn, ρ, hρ, he⟩, fun k hk hk0 hk1 => ?_⟩
 by_cases q : k = i
 ·rw [q]
  exact .inl rfl
 ·rw [putN_other _ _ q] at hk1
  exact .inr (h.led k hk hk0 hk1)
end
end Go.Proofs.YtikpipenhamdbaaGreat

namespace Go.Proofs.YtikpipenhamdbaaGreat

theorem lt_or_eq_le {a b : List UInt8} (h : a ≤ b) : a < b ∨ a = b := by
 rcases Decidable.em (a < b) with q | q
 ·exact .inl q
 ·exact .inr (List.le_antisymm h q)
theorem one_vok {x : List UInt8} {u : List Nd} (hu : vok u) : ∀ r : List Nd, vok r → vok (subF (one x u) r)
 | [], _ => vok_nil
 | nd :: r, h => by
  obtain ⟨h1, h2⟩ := vok_cons.1 h
  rw [subF_cons]
  refine vok_app.2 ⟨?_, one_vok hu r h2⟩
  split
  ·unfold one
   split
   ·exact hu
   ·exact vok_cons.2 ⟨h1, vok_nil⟩
  ·exact vok_cons.2 ⟨h1, vok_nil⟩
theorem cut_vok : ∀ (r : List Nd) (k : Nat), vok r → vok (cutF k r).1 ∧ vok (cutF k r).2
 | [], 0, h => ⟨vok_nil, h⟩
 | [], _ + 1, _ => ⟨vok_nil, vok_nil⟩
 | _ :: _, 0, h => ⟨vok_nil, h⟩
 | nd :: r, k + 1, h => by
  obtain ⟨h1, h2⟩ := vok_cons.1 h
  obtain ⟨g1, g2⟩ := cut_vok r (k + nd.2.2) h2
  exact ⟨vok_cons.2 ⟨h1, g1⟩, g2⟩
/-- A name gives place to a lesser one, or to what is no name. -/
def Lss (l : List (List UInt8 × List Nd)) : Prop := ∀ b ∈ l, (∃ n, b.2 = [(2, n, 0)] ∧ n < b.1) ∨ noVar b.2
theorem Lss.nil : Lss [] := fun _ h => by simp at h
theorem Lss.app {a b : List (List UInt8 × List Nd)} (h : Lss a) (k : Lss b) : Lss (a ++ b) := List.forall_mem_append.2 ⟨h, k⟩
theorem uniF_least : ∀ (f : Nat) (r s : List Nd) (l : List (List UInt8 × List Nd)), vok r → vok s → uniF f r s = some (.inr l) → Lss l
 | 0, _, _, _, _, _, h => by cases h
 | _ + 1, [], _, l, _, _, h => by
  simp only [uniF] at h
  injection h with h
  injection h with h
  rw [← h]
  exact Lss.nil
 | _ + 1, _ :: _, [], l, _, _, h => by
  simp only [uniF] at h
  injection h with h
  injection h with h
  rw [← h]
  exact Lss.nil
 | f + 1, a :: r, b :: s, l, hr, hs, h => by
  obtain ⟨ha, hr'⟩ := vok_cons.1 hr
  obtain ⟨hb, hs'⟩ := vok_cons.1 hs
  have key : ∀ (x : List UInt8) (u R S : List Nd), ((∃ n, u = [(2, n, 0)] ∧ n < x) ∨ noVar u) → vok u → vok R → vok S → ((uniF f (subF (one x u) R) (subF (one x u) S)).map (putU (x, u))) = some (.inr l) → Lss l := fun x u R S hx hu hR hS e => by
   obtain ⟨l', e1, rfl⟩ := put_inv e
   have ih := uniF_least f _ _ l' (one_vok hu R hR) (one_vok hu S hS) e1
   intro c hc
   rcases List.mem_cons.1 hc with q | q
   ·rw [q]
    exact hx
   ·exact ih c q
  obtain ⟨cb1, cb2⟩ := cut_vok (b :: s) 1 hs
  obtain ⟨ca1, ca2⟩ := cut_vok (a :: r) 1 hr
  rw [uniF] at h
  split at h
  ·exact uniF_least f r s l hr' hs' h
  ·rename_i hab
   split at h
   ·rename_i h2
    split at h
    ·rename_i h3
     split at h
     ·rename_i hlt
      exact key _ _ r s (.inl ⟨b.2.1, by rw [← var_form h3 (hb h3)], hlt⟩) (vok_cons.2 ⟨hb, vok_nil⟩) hr' hs' h
     ·rename_i hlt
      refine key _ _ r s (.inl ⟨a.2.1, by rw [← var_form h2 (ha h2)], ?_⟩) (vok_cons.2 ⟨ha, vok_nil⟩) hr' hs' h
      have hne : a.2.1 ≠ b.2.1 := fun e => hab (by rw [var_form h2 (ha h2), var_form h3 (hb h3), e])
      have hle : a.2.1 ≤ b.2.1 := hlt
      rcases lt_or_eq_le hle with q | q
      ·exact q
      ·exact absurd q hne
    ·rename_i h3
     split at h
     ·injection h with h
      cases h
     ·exact key _ _ r _ (.inr ⟨b, _, rfl, h3⟩) cb1 hr' cb2 h
   ·rename_i h2
    split at h
    ·split at h
     ·injection h with h
      cases h
     ·exact key _ _ _ s (.inr ⟨a, _, rfl, h2⟩) ca1 ca2 hs' h
    ·injection h with h
     cases h
/-- What stays of a name is no greater. -/
theorem Lss.le : ∀ {l : List (List UInt8 × List Nd)} {m x : List UInt8}, Lss l → subL l [(2, m, 0)] = [(2, x, 0)] → x ≤ m
 | [], m, x, _, h => by
  injection h with h _
  have : m = x := congrArg (fun z => z.2.1) h
  rw [this]
  exact List.le_refl _
 | b :: l, m, x, hl, h => by
  have h : subL l (subF (one b.1 b.2) [(2, m, 0)]) = [(2, x, 0)] := h
  have hl' : Lss l := fun c hc => hl c (List.mem_cons_of_mem _ hc)
  rw [subF_v] at h
  by_cases q : m = b.1
  ·rw [q, vF_one_self] at h
   rcases hl b List.mem_cons_self with ⟨n, e, hlt⟩ | ⟨nd, v, e, hn⟩
   ·rw [e] at h
    have := Lss.le hl' h
    rw [q]
    exact List.le_trans this (List.le_of_lt hlt)
   ·rw [e, subL_node hn] at h
    injection h with h _
    rw [h] at hn
    exact absurd rfl hn
  ·rw [vF_one_other _ q] at h
   exact Lss.le hl' h
theorem Prs.least : ∀ (ps : List (List Nd × List Nd)) (L : List (List UInt8 × List Nd)) (i : Nat) {M : List (List UInt8 × List Nd)}, Lok L → Lss L → (∀ p ∈ ps, pok p) → Prs ps L i (.inr M) → Lss M
 | [], L, i, M, _, hL, _, h => by
  have h : (Sum.inr M : Sum (Nat × Int) (List (List UInt8 × List Nd))) = .inr L := h
  injection h with h
  rw [h]
  exact hL
 | p :: ps, L, i, M, ho, hL, hp, h => by
  rcases h with ⟨c, _, e⟩ | ⟨l, ⟨f, hu⟩, hr⟩
  ·cases e
  ·have h0 := hp p List.mem_cons_self
   exact Prs.least ps (L ++ l) (i + 1) (ho.more h0.1.2 h0.2.2 (Good.of ho h0 ⟨f, hu⟩)) (hL.app (uniF_least f _ _ l (subL_vok ho.tree _ h0.1.2) (subL_vok ho.tree _ h0.2.2) hu)) (fun q hq => hp q (List.mem_cons_of_mem _ hq)) hr
/-- What is bound, and the names in it, are of a list. -/
def Low (V : List (List UInt8)) (l : List (List UInt8 × List Nd)) : Prop := ∀ b ∈ l, b.1 ∈ V ∧ ∀ n, ((2, n, 0) : Nd) ∈ b.2 → n ∈ V
def LowR (V : List (List UInt8)) (r : List Nd) : Prop := ∀ n, ((2, n, 0) : Nd) ∈ r → n ∈ V
theorem Low.sub {V : List (List UInt8)} {L : List (List UInt8 × List Nd)} (ho : ∀ b ∈ L, eats 1 b.2 = true ∧ vok b.2) (h : Low V L) {r : List Nd} (hv : vok r) (hr : LowR V r) : LowR V (subL L r) := fun n hn => by
 rcases subL_vars ho r hv hn with q | ⟨b, hb, q⟩
 ·exact hr n q
 ·exact (h b hb).2 n q
theorem Prs.low (V : List (List UInt8)) : ∀ (ps : List (List Nd × List Nd)) (L : List (List UInt8 × List Nd)) (i : Nat) {M : List (List UInt8 × List Nd)}, Lok L → Low V L → (∀ p ∈ ps, pok p) → (∀ p ∈ ps, LowR V p.1 ∧ LowR V p.2) → Prs ps L i (.inr M) → Low V M
 | [], L, i, M, _, hL, _, _, h => by
  have h : (Sum.inr M : Sum (Nat × Int) (List (List UInt8 × List Nd))) = .inr L := h
  injection h with h
  rw [h]
  exact hL
 | p :: ps, L, i, M, ho, hL, hp, hV, h => by
  rcases h with ⟨c, _, e⟩ | ⟨l, ⟨f, hu⟩, hr⟩
  ·cases e
  ·have h0 := hp p List.mem_cons_self
   have hg := Good.of ho h0 ⟨f, hu⟩
   have hv0 := hV p List.mem_cons_self
   have l1 := hL.sub ho.tree h0.1.2 hv0.1
   have l2 := hL.sub ho.tree h0.2.2 hv0.2
   refine Prs.low V ps (L ++ l) (i + 1) (ho.more h0.1.2 h0.2.2 hg) (List.forall_mem_append.2 ⟨hL, fun b hb => ?_⟩) (fun q hq => hp q (List.mem_cons_of_mem _ hq)) (fun q hq => hV q (List.mem_cons_of_mem _ hq)) hr
   obtain ⟨g1, g2⟩ := hg.2.2.2 b hb
   refine ⟨?_, fun n hn => ?_⟩
   ·rcases g1 with q | q
    ·exact l1 _ q
    ·exact l2 _ q
   ·rcases g2 n hn with q | q
    ·exact l1 _ q
    ·exact l2 _ q
section
variable {n : Nat} {lb : Nat → Int × List UInt8} {ar : Nat → List Nat} {tg : Nat → Nat} {dn : Nat → List Nd} {rt rk : Nat → Nat} {dp : Nat → List Nd}
/-- The first of the names that lead to a place is what it stands for. -/
theorem Bs.least (h : Bs n lb ar tg dn rt rk dp) {N : List (List UInt8)} {M : List (List UInt8 × List Nd)} (hN : N.length ≤ n) (hs : N.Pairwise (fun a b => a < b)) (hM : Lok M) (hl : Lss M) (hL : Low N M) (hd : ∀ (m : Nat) (hm : m < N.length), dp m = subL M [(2, N[m], 0)]) {r : Nat} (hr : r < N.length) (htr : tg r = r) (hr2 : (lb r).1 = 2)
  {m : Nat} (hm : m < N.length) (hmr : rt m = r) (hfirst : ∀ q, q < m → rt q ≠ r) : dp r = [(2, N[m], 0)] := by
 obtain ⟨ρ, hρ, he, x, hx, hlx, hdx⟩ := h.var (by omega) htr hr2
 have vN : ∀ y : List UInt8, vok [(2, y, 0)] := fun y => vok_cons.2 ⟨fun _ => rfl, vok_nil⟩
 have hxN : x ∈ N := by
  have hin : ((2, x, 0) : Nd) ∈ subL M [(2, N[r], 0)] := by
   rw [← hd r hr, hx]
   exact List.mem_cons_self
  rcases subL_vars hM.tree _ (vN _) hin with q | ⟨b, hb, q⟩
  ·have := List.mem_singleton.1 q
   have e : x = N[r] := congrArg (fun z => z.2.1) this
   rw [e]
   exact List.getElem_mem hr
  ·exact (hL b hb).2 x q
 obtain ⟨q, hq, hqx⟩ := List.getElem_of_mem hxN
 have hst : subL M [(2, x, 0)] = [(2, x, 0)] := by
  have := hM.twice (vN N[r])
  rw [← hd r hr, hx] at this
  exact this
 have hdq : dp q = dp r := by rw [hd q hq, hqx, hst, hx]
 have hq' : q < n := by omega
 have hrq : rt q = r := by
  have hdn : dn q = [(2, ρ x, 0)] := by rw [he q hq', hdq, hx]; rfl
  have hk := h.den.form hq'
  rw [hdn] at hk
  injection hk with k1 _
  have k2 : (lb (rt q)).1 = 2 := (congrArg (fun z => z.1) k1).symm
  have k3 : (lb (rt q)).2 = ρ x := (congrArg (fun z => z.2.1) k1).symm
  exact h.den.uni _ _ (h.den.rt_lt hq') (by omega) k2 hr2 (by rw [k3, hlx])
 have hmq : m ≤ q := Nat.le_of_not_lt fun e => hfirst q e hrq
 have hdm : dp m = dp r := by
  rw [← h.rt_dp (show m < n by omega), hmr]
 have hle : x ≤ N[m] := hl.le (by rw [← hd m hm, hdm, hx])
 have : N[m] = x := by
  rcases Nat.lt_or_eq_of_le hmq with e | e
  ·have := List.pairwise_iff_getElem.1 hs m q hm hq e
   rw [hqx] at this
   exact absurd this hle
  ·subst e
   exact hqx
 rw [hx, this]
end
/-- The names of a row's variables. -/
def vnm (r : List Nd) : List (List UInt8) := r.filterMap fun nd => if nd.1 = 2 then some nd.2.1 else none
theorem vnm_app (r s : List Nd) : vnm (r ++ s) = vnm r ++ vnm s := List.filterMap_append
theorem vnm_low {r : List Nd} {n : List UInt8} (h : ((2, n, 0) : Nd) ∈ r) : n ∈ vnm r := List.mem_filterMap.2 ⟨_, h, rfl⟩
theorem vnm_ok {r : List Nd} (h : Okr r) {n : List UInt8} (hn : n ∈ vnm r) : varB n = true := by
 obtain ⟨nd, h1, h2⟩ := List.mem_filterMap.1 hn
 split at h2
 ·rename_i q
  have := h nd h1
  rw [q] at this
  injection h2 with h2
  rw [← h2]
  exact (ok_var this).1
 ·cases h2
theorem vnm_len (r : List Nd) : (vnm r).length ≤ r.length := List.length_filterMap_le _ _
/-- Two lists of names are made one: what is taken, what is left of each. -/
structure Mg (a b out a' b' : List (List UInt8)) : Prop where
 srt : out.Pairwise (fun x y => x < y)
 sa : a'.Pairwise (fun x y => x < y)
 sb : b'.Pairwise (fun x y => x < y)
 le : ∀ x ∈ out, ∀ y, (y ∈ a' ∨ y ∈ b') → x ≤ y
 mem : ∀ x, (x ∈ out ∨ x ∈ a' ∨ x ∈ b') ↔ (x ∈ a ∨ x ∈ b)
theorem Mg.start {a b : List (List UInt8)} (ha : a.Pairwise (fun x y => x < y)) (hb : b.Pairwise (fun x y => x < y)) : Mg a b [] a b :=
 ⟨List.Pairwise.nil, ha, hb, fun x h => by simp at h, fun x => by simp⟩
/-- One is taken. -/
theorem Mg.take {a b out a' b' a2 b2 : List (List UInt8)} {s : List UInt8} (h : Mg a b out a' b') (hs : s ∈ a' ∨ s ∈ b') (h1 : a2.Pairwise (fun x y => x < y)) (h2 : b2.Pairwise (fun x y => x < y)) (hle : ∀ y, (y ∈ a2 ∨ y ∈ b2) → s ≤ y) (hmem : ∀ y, (y ∈ a' ∨ y ∈ b') ↔ (y = s ∨ y ∈ a2 ∨ y ∈ b2)) :
  (out.getLast? = some s → Mg a b out a2 b2) ∧ (out.getLast? ≠ some s → Mg a b (out ++ [s]) a2 b2) := by
 have sub : ∀ y, (y ∈ a2 ∨ y ∈ b2) → (y ∈ a' ∨ y ∈ b') := fun y hy => (hmem y).2 (.inr hy)
 refine ⟨fun hl => ⟨h.srt, h1, h2, fun x hx y hy => h.le x hx y (sub y hy), fun x => ?_⟩, fun hl => ⟨?_, h1, h2, fun x hx y hy => ?_, fun x => ?_⟩⟩
 ·have hso : s ∈ out := List.mem_of_getLast? hl
  rw [← h.mem x, hmem x]
  constructor
  ·rintro (q | q)
   ·exact .inl q
   ·exact .inr (.inr q)
  ·rintro (q | q | q)
   ·exact .inl q
   ·exact .inl (q ▸ hso)
   ·exact .inr q
 ·rw [List.pairwise_append]
  refine ⟨h.srt, by simp, fun x hx y hy => ?_⟩
  have : y = s := by simpa using hy
  subst this
  have hxy := h.le x hx y hs
  rcases lt_or_eq_le hxy with q | q
  ·exact q
  ·exfalso
   subst q
   apply hl
   obtain ⟨p, q, e⟩ := List.append_of_mem hx
   cases q with
   | nil => rw [e]; simp
   | cons z q =>
    have hz : x < z := by
     have := h.srt
     rw [e, List.pairwise_append] at this
     exact (List.pairwise_cons.1 this.2.1).1 z List.mem_cons_self
    have := h.le z (by rw [e]; simp) x hs
    exact absurd hz this
 ·rcases List.mem_append.1 hx with q | q
  ·exact h.le x q y (sub y hy)
  ·have : x = s := by simpa using q
   rw [this]
   exact hle y hy
 ·rw [← h.mem x, hmem x, List.mem_append, List.mem_singleton]
  constructor
  ·rintro ((q | q) | q)
   ·exact .inl q
   ·exact .inr (.inl q)
   ·exact .inr (.inr q)
  ·rintro (q | q | q)
   ·exact .inl (.inl q)
   ·exact .inl (.inr q)
   ·exact .inr q
theorem Mg.left {a b out b' : List (List UInt8)} {s : List UInt8} {a2 : List (List UInt8)} (h : Mg a b out (s :: a2) b') (hb : ∀ t r, b' = t :: r → s ≤ t) : (out.getLast? = some s → Mg a b out a2 b') ∧ (out.getLast? ≠ some s → Mg a b (out ++ [s]) a2 b') := by
 obtain ⟨p1, p2⟩ := List.pairwise_cons.1 h.sa
 refine h.take (.inl List.mem_cons_self) p2 h.sb (fun y hy => ?_) fun y => by simp only [List.mem_cons]; exact or_assoc
 rcases hy with q | q
 ·exact List.le_of_lt (p1 y q)
 ·cases hb' : b' with
  | nil => rw [hb'] at q; simp at q
  | cons t r =>
   have hst := hb t r hb'
   rw [hb'] at q
   rcases List.mem_cons.1 q with e | e
   ·rw [e]
    exact hst
   ·have hsb := h.sb
    rw [hb'] at hsb
    exact List.le_trans hst (List.le_of_lt ((List.pairwise_cons.1 hsb).1 y e))
theorem Mg.right {a b out a' : List (List UInt8)} {s : List UInt8} {b2 : List (List UInt8)} (h : Mg a b out a' (s :: b2)) (ha : ∀ t r, a' = t :: r → ¬ t ≤ s) : (out.getLast? = some s → Mg a b out a' b2) ∧ (out.getLast? ≠ some s → Mg a b (out ++ [s]) a' b2) := by
 obtain ⟨p1, p2⟩ := List.pairwise_cons.1 h.sb
 refine h.take (.inr List.mem_cons_self) h.sa p2 (fun y hy => ?_) fun y => by
  simp only [List.mem_cons]
  constructor
  ·rintro (q | q | q)
   ·exact .inr (.inl q)
   ·exact .inl q
   ·exact .inr (.inr q)
  ·rintro (q | q | q)
   ·exact .inr (.inl q)
   ·exact .inl q
   ·exact .inr (.inr q)
 rcases hy with q | q
 ·cases ha' : a' with
  | nil => rw [ha'] at q; simp at q
  | cons t r =>
   have hst : s ≤ t := (List.le_total s t).resolve_right (ha t r ha')
   rw [ha'] at q
   rcases List.mem_cons.1 q with e | e
   ·rw [e]
    exact hst
   ·have hsa := h.sa
    rw [ha'] at hsa
    exact List.le_trans hst (List.le_of_lt ((List.pairwise_cons.1 hsa).1 y e))
 ·exact List.le_of_lt (p1 y q)
/-- A sorted list of the same names. -/
def Srt (ss ns : List (List UInt8)) : Prop := ns.Pairwise (fun x y => x < y) ∧ ∀ x, x ∈ ns ↔ x ∈ ss
theorem Mg.done {a b out : List (List UInt8)} (h : Mg a b out [] []) : out.Pairwise (fun x y => x < y) ∧ ∀ x, x ∈ out ↔ (x ∈ a ∨ x ∈ b) := ⟨h.srt, fun x => by rw [← h.mem x]; simp⟩
/-- Two sorted lists of the same names are one. -/
theorem srt_one : ∀ {a b : List (List UInt8)}, a.Pairwise (fun x y => x < y) → b.Pairwise (fun x y => x < y) → (∀ x, x ∈ a ↔ x ∈ b) → a = b
 | [], [], _, _, _ => rfl
 | [], y :: b, _, _, h => by have := (h y).2 List.mem_cons_self; simp at this
 | x :: a, [], _, _, h => by have := (h x).1 List.mem_cons_self; simp at this
 | x :: a, y :: b, ha, hb, h => by
  obtain ⟨a1, a2⟩ := List.pairwise_cons.1 ha
  obtain ⟨b1, b2⟩ := List.pairwise_cons.1 hb
  have e : x = y := by
   rcases List.mem_cons.1 ((h x).1 List.mem_cons_self) with q | q
   ·exact q
   ·rcases List.mem_cons.1 ((h y).2 List.mem_cons_self) with p | p
    ·exact p.symm
    ·exact absurd (List.lt_trans (a1 y p) (b1 x q)) (List.lt_irrefl _)
  subst e
  rw [srt_one a2 b2 fun z => ?_]
  constructor
  ·intro hz
   rcases List.mem_cons.1 ((h z).1 (List.mem_cons_of_mem _ hz)) with q | q
   ·exact absurd (a1 z hz) (by rw [q]; exact List.lt_irrefl _)
   ·exact q
  ·intro hz
   rcases List.mem_cons.1 ((h z).2 (List.mem_cons_of_mem _ hz)) with q | q
   ·exact absurd (b1 z hz) (by rw [q]; exact List.lt_irrefl _)
   ·exact q
end Go.Proofs.YtikpipenhamdbaaGreat

namespace Go.Proofs.YtikpipenhamdbaaGreat
open Go.RowKit

end Go.Proofs.YtikpipenhamdbaaGreat

namespace Go.Proofs.YtikpipenhamdbaaGreat
open Go.RowKit

end Go.Proofs.YtikpipenhamdbaaGreat
