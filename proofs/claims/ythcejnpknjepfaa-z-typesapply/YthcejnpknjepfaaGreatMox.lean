/- Rows of nodes with rows put in the variables' places. Trees counted with more levels; what a row of bounds says of a name, and the reference's find in it. The reference's Replace: its contract. What Apply answers: which error, which row of nodes. The program's valuesOf, of any bounds. lentBounds: a row of bounds in memory of its own, with marks behind it. -/
import Derived.Test.YthcejnpknjepfaaGreatFt
import Derived.Test.YthcejnpknjepfaaGreatPw
import Derived.Test.YthcejnpknjepfaaGreatCo
import Derived.Test.YthcejnpknjepfaaGreatMnx
import Derived.Test.YthcejnpknjepfaaGreatLe
namespace Go.Proofs.YthcejnpknjepfaaGreat

theorem flat_upN (e : Nat) (u : Tn e) : ∀ d, flat (e + d) (upN e u d) = flat e u
  | 0 => rfl
  | d + 1 => (flat_up _ _).trans (flat_upN e u d)
/-- A row with what θ says in its variables' places. -/
def subF (θ : Sb) (L : List Nd) : List Nd := L.flatMap fun nd => if nd.1 = 2 then (θ nd.2.1).getD [nd] else [nd]
theorem subF_nil (θ : Sb) : subF θ [] = [] := rfl
theorem subF_cons (θ : Sb) (nd : Nd) (L : List Nd) : subF θ (nd :: L) = (if nd.1 = 2 then (θ nd.2.1).getD [nd] else [nd]) ++ subF θ L := rfl
theorem subF_app (θ : Sb) (A L : List Nd) : subF θ (A ++ L) = subF θ A ++ subF θ L := by unfold subF; rw [List.flatMap_append]
theorem subF_var (θ : Sb) (n : List UInt8) (l : Nat) : subF θ [(2, n, l)] = (θ n).getD [(2, n, l)] := by
  rw [subF_cons, subF_nil, List.append_nil]
  exact if_pos rfl
theorem sf_var {d : Nat} {n : List UInt8} {ts : List (Tn d)} (h : formB (d + 1) ((2, n), ts) = true) : ts = [] := by
  rw [form_succ, Bool.and_eq_true] at h
  have h := h.1
  simp [okB] at h
  exact h.2
theorem sf_args {d : Nat} {k : Int} {n : List UInt8} {ts : List (Tn d)} (h : formB (d + 1) ((k, n), ts) = true) : ∀ a ∈ ts, formB d a = true := by
  rw [form_succ, Bool.and_eq_true, List.all_eq_true] at h
  exact h.2
/-- The nodes of a tree with trees put in. -/
theorem sub_flat (e : Nat) (f : List UInt8 → Option (Tn e)) : ∀ (d : Nat) (t : Tn d), formB d t = true → flat (e + d) (subT e f d t) = subF (fun n => (f n).map (flat e)) (flat d t)
  | 0, t, _ => t.elim
  | d + 1, ((k, n), ts), h => by
    by_cases hk : k = 2
    · subst hk
      have h0 := sf_var h
      subst h0
      rw [flat_succ, flats_nil]
      show _ = subF _ [(2, n, 0)]
      rw [subF_var]
      cases hf : f n with
      | none =>
        rw [subT_free hf]
        show flat (e + d + 1) ((2, n), []) = _
        rw [flat_succ, flats_nil]
        rfl
      | some u =>
        rw [subT_var hf]
        exact flat_upN e u (d + 1)
    · rw [subT_node hk]
      show flat (e + d + 1) ((k, n), ts.map (subT e f d)) = _
      rw [flat_succ, flat_succ, List.length_map, subF_cons, if_neg hk]
      have : ∀ ts : List (Tn d), (∀ a ∈ ts, formB d a = true) → flats (e + d) (ts.map (subT e f d)) = subF (fun n => (f n).map (flat e)) (flats d ts) := fun ts => by
        induction ts with
        | nil => intro _; rfl
        | cons a r ih =>
          intro ha
          rw [List.map_cons, flats_cons, flats_cons, subF_app, sub_flat e f d a (ha a (by simp)), ih fun b hb => ha b (by simp [hb])]
      rw [this ts (sf_args h)]
      rfl
/-- How many nodes more a name brings. -/
def lessN (θ : Sb) (n : List UInt8) : Nat := match θ n with | some r => r.length - 1 | none => 0
/-- How many nodes come. -/
theorem sub_len (θ : Sb) (hθ : ∀ n r, θ n = some r → 0 < r.length) : ∀ (d : Nat) (t : Tn d), formB d t = true → (subF θ (flat d t)).length = (flat d t).length + ((namesT d t).map (lessN θ)).sum
  | 0, t, _ => t.elim
  | d + 1, ((k, n), ts), hf => by
    by_cases hk : k = 2
    · subst hk
      have h0 := sf_var hf
      subst h0
      rw [names_var]
      show (subF θ [(2, n, 0)]).length = [((2 : Int), n, 0)].length + _
      rw [subF_var]
      cases e : θ n with
      | none => simp [lessN, e]
      | some r =>
        have := hθ n r e
        rw [List.map_cons, List.map_nil, List.sum_cons, List.sum_nil, lessN, e]
        show r.length = 1 + (r.length - 1 + 0)
        omega
    · rw [names_node _ _ _ _ hk, flat_succ, subF_cons, if_neg hk]
      have key : ∀ ts : List (Tn d), (∀ a ∈ ts, formB d a = true) → (subF θ (flats d ts)).length = (flats d ts).length + ((ts.flatMap (namesT d)).map (lessN θ)).sum := fun ts => by
        induction ts with
        | nil => intro _; rfl
        | cons a r ih =>
          intro ha
          rw [flats_cons, subF_app, List.length_append, List.length_append, List.flatMap_cons, List.map_append, List.sum_append, sub_len θ hθ d a (ha a (by simp)), ih fun b hb => ha b (by simp [hb])]
          omega
      have := key ts (sf_args hf)
      simp only [List.length_append, List.length_cons, List.length_nil]
      omega
end Go.Proofs.YthcejnpknjepfaaGreat

namespace Go.Proofs.YthcejnpknjepfaaGreat
open Go.RowKit

/-- A tree counted as one of E levels. -/
def liftT : (E : Nat) → Sigma Tn → Option (Tn E)
  | 0, _ => none
  | E + 1, u => if h : u.1 = E + 1 then some (h ▸ u.2) else (liftT E u).map (up E)
theorem TyS.up {w : World} {S : Nat → Prop} : ∀ (d : Nat) (x : Value) (t : Tn d), TyS w S d x t → TyS w S (d + 1) x (up d t)
  | 0, _, _, h => h.elim
  | d + 1, _, ((k, n), ts), ⟨v, hx, h1, h2, h⟩ => by
    have h2' : (ts.map (Proofs.YthcejnpknjepfaaGreat.up d)).length < 140737488355328 := by rw [List.length_map]; exact h2
    refine ⟨v, hx, h1, h2', ?_⟩
    rcases h with ⟨e, h⟩ | ⟨g, o, cap, hv, h0, hc, hg, h⟩
    · refine .inl ⟨?_, h⟩
      show ts.map _ = []
      have e : ts = [] := e
      rw [e]; rfl
    · refine .inr ⟨g, o, cap, ?_, ?_, ?_, hg, fun j hj => ?_⟩
      · show v = .slice _ (ts.map _).length cap
        rw [List.length_map]; exact hv
      · show ts.map _ ≠ []
        have h0 : ts ≠ [] := h0
        simpa using h0
      · show (ts.map _).length ≤ cap
        rw [List.length_map]; exact hc
      · have hj : j < (ts.map (Proofs.YthcejnpknjepfaaGreat.up d)).length := hj
        obtain ⟨k', n', u, c0, c1, c2, ht⟩ := h j (by simpa using hj)
        refine ⟨k', n', u, c0, c1, c2, ?_⟩
        show TyS w S (d + 1) _ (ts.map (Proofs.YthcejnpknjepfaaGreat.up d))[j]
        rw [List.getElem_map]
        exact TyS.up d _ _ ht
theorem TyS.upN {w : World} {S : Nat → Prop} (e : Nat) (u : Tn e) (x : Value) (h : TyS w S e x u) : ∀ d, TyS w S (e + d) x (upN e u d)
  | 0 => h
  | d + 1 => TyS.up (e + d) _ _ (TyS.upN e u x h d)
theorem lift_at : ∀ (E : Nat) (u : Sigma Tn), u.1 ≤ E → ∃ t : Tn E, liftT E u = some t ∧ flat E t = flat u.1 u.2 ∧ (∀ (W : World) (B : Nat) (v : Value), TyAt W B u.1 v u.2 → TyAt W B E v t) ∧ ∀ (W : World) (S : Nat → Prop) (v : Value), TyS W S u.1 v u.2 → TyS W S E v t
  | 0, ⟨0, u⟩, _ => u.elim
  | 0, ⟨d + 1, u⟩, h => by simp at h
  | E + 1, ⟨d, u⟩, h => by
    rw [liftT]
    by_cases e : d = E + 1
    · subst e
      rw [dif_pos rfl]
      exact ⟨u, rfl, rfl, fun W B v h => h, fun W S v h => h⟩
    · rw [dif_neg e]
      obtain ⟨t, h1, h2, h3, h4⟩ := lift_at E ⟨d, u⟩ (by show d ≤ E; have : d ≤ E + 1 := h; omega)
      rw [h1]
      exact ⟨up E t, rfl, (flat_up E t).trans h2, fun W B v h => TyAt.up E _ _ (h3 W B v h), fun W S v h => TyS.up E _ _ (h4 W S v h)⟩
theorem says_mem {bs : List Bd} {n : List UInt8} {u : Sigma Tn} (h : bdSays bs n = some u) : ∃ x ∈ bs, x.1 = n ∧ x.2 = u := by
  unfold bdSays at h
  obtain ⟨x, hx, hu⟩ := Option.map_eq_some_iff.1 h
  exact ⟨x, List.mem_of_find?_eq_some hx, by simpa using List.find?_some hx, hu⟩
theorem sum_le {l : List Nat} {x : Nat} (h : x ∈ l) : x ≤ l.sum := by
  induction l with
  | nil => cases h
  | cons a r ih =>
    rw [List.sum_cons]
    rcases List.mem_cons.1 h with rfl | h
    · omega
    · have := ih h; omega
/-- What the bounds say, as rows. -/
def bdRow (bs : List Bd) : Sb := fun n => (bdSays bs n).map fun u => flat u.1 u.2
/-- What the bounds say, as trees of E levels. -/
def bdLift (bs : List Bd) (E : Nat) (n : List UInt8) : Option (Tn E) := (bdSays bs n).bind (liftT E)
theorem bdLift_row {bs : List Bd} {E : Nat} (hE : ∀ n u, bdSays bs n = some u → u.1 ≤ E) : (fun n => (bdLift bs E n).map (flat E)) = bdRow bs := by
  funext n
  unfold bdLift bdRow
  cases e2 : bdSays bs n with
  | none => rfl
  | some u =>
    obtain ⟨t', a1, a2, _⟩ := lift_at E u (hE n u e2)
    show (liftT E u).map (flat E) = some (flat u.1 u.2)
    rw [a1, ← a2]
    rfl
theorem find_says : ∀ (bs : List Bd) (x : List UInt8), (bdSays bs x = none ∧ idxN (bs.map (·.1)) x = bs.length) ∨ ∃ j, ∃ h : j < bs.length, bdSays bs x = some bs[j].2 ∧ idxN (bs.map (·.1)) x = j
  | [], x => .inl ⟨rfl, rfl⟩
  | b :: r, x => by
    rw [bdSays_cons, List.map_cons, idxN]
    by_cases e : b.1 = x
    · rw [if_pos e, if_pos e]
      exact .inr ⟨0, by simp, rfl, rfl⟩
    · rw [if_neg e, if_neg e]
      rcases find_says r x with ⟨h1, h2⟩ | ⟨j, h, h1, h2⟩
      · exact .inl ⟨h1, by rw [h2]; rfl⟩
      · exact .inr ⟨j + 1, by simpa using h, h1, by rw [h2]⟩
theorem BdAt.find {w : World} {B : Nat} {v : Value} {bs : List Bd} (x : List UInt8) (h : BdAt w B v bs) : Calls Tryz.prog 58 #[v, strV x] w fun r w' => r = .returned (.int .i64 (findI (bs.map (·.1)) x)) ∧ w' = w := by
  obtain ⟨ad, cap, rfl, hl, hcl⟩ := h
  by_cases h0 : bs = []
  · subst h0
    exact find_none x ad cap w
  · obtain ⟨g, o, rfl, _, _, hel⟩ := hcl h0
    have := find_some (bs.map (·.1)) x g o cap w (by simpa using hl) fun j hj => by
      rw [List.getElem_map]
      obtain ⟨_, k, n, ad', len', cap', hc, _⟩ := hel j (by simpa using hj)
      exact (hc w (Below.refl _ _)).1
    rw [List.length_map] at this
    exact this
/-- A type that a bound has, read. -/
theorem BdAt.type {w : World} {B : Nat} {v : Value} {bs : List Bd} (h : BdAt w B v bs) (j : Nat) (hj : j < bs.length) : ∃ (g o cap : Nat) (k : Int) (n : ByteArray) (ad : Option Addr) (len cp : Nat), v = .slice (some ⟨g, o, none⟩) bs.length cap ∧ bs.length ≤ cap ∧ g < B ∧ bs[j].1.length < 140737488355328 ∧ (∀ w', Below B w w' → w'.cell? ⟨g, o + j * 4, none⟩ = some (.string ⟨bs[j].1.toArray⟩) ∧ w'.cell? ⟨g, o + j * 4 + 1, none⟩ = some (.int .i64 k) ∧ w'.cell? ⟨g, o + j * 4 + 2, none⟩ = some (.string n) ∧ w'.cell? ⟨g, o + j * 4 + 3, none⟩ = some (.slice ad len cp)) ∧ TyAt w B bs[j].2.1 (.agg #[.int .i64 k, .string n, .slice ad len cp]) bs[j].2.2 := by
  obtain ⟨ad, cap, rfl, hl, hcl⟩ := h
  obtain ⟨g, o, rfl, h1, h2, hel⟩ := hcl (fun e => by rw [e] at hj; simp at hj)
  obtain ⟨h3, k, n, ad', len', cap', hc, hT⟩ := hel j hj
  exact ⟨g, o, cap, k, n, ad', len', cap', rfl, h1, h2, h3, hc, hT⟩
end Go.Proofs.YthcejnpknjepfaaGreat

namespace Go.Proofs.YthcejnpknjepfaaGreat
open Go.RowKit

/-- What Replace answers: whether the tree has at most so many nodes; if so, their number and the tree in new blocks. -/
def RpPost (w : World) (D : Nat) (T : Tn D) (m : Nat) (r : Ending) (w' : World) : Prop :=
  Below w.heap.size w w' ∧ ∃ (kd : Int) (nm : ByteArray) (ad : Option Addr) (len cap : Nat) (c : Nat), r = .returned (.tuple #[.agg #[.int .i64 kd, .string nm, .slice ad len cap], .int .i64 c, .bool (decide ((flat D T).length ≤ m))]) ∧ ((flat D T).length ≤ m → c = (flat D T).length ∧ TyS w' (fun g => w.heap.size ≤ g ∧ g < w'.heap.size) D (.agg #[.int .i64 kd, .string nm, .slice ad len cap]) T)
set_option maxHeartbeats 8000000 in
set_option maxRecDepth 10000 in
theorem replace_none (bv x : Value) (d : Nat) (t : Tn d) (D : Nat) (T : Tn D) (w : World) (hx : TyAt w w.heap.size d x t) : Calls Tryz.prog 66 #[bv, x, .int .i64 (0 : Nat)] w (RpPost w D T 0) := by
  obtain ⟨k, n, ad, len, cap, rfl⟩ := tree_form hx
  have hp := flat_pos D T
  have HP : Hid (decide ((flat D T).length ≤ 0) = false) := decide_eq_false (by omega)
  have HQ : Hid ((flat D T).length ≤ 0 → False) := fun h => by omega
  obtain ⟨W, hW⟩ : ∃ W, W = (w.alloc (Obj.cells #[.int .i64 k, .string n, .slice ad len cap] 25)).alloc (Obj.cells #[.int .i64 0, .string ⟨#[]⟩, .slice none 0 0] 25) := ⟨_, rfl⟩
  have hbW : Below w.heap.size w W := by rw [hW]; exact ((Below.refl _ _).alloc (Nat.le_refl _) _).alloc (by simp) _
  have res : W.heap[w.heap.size + 1]? = some (.cells #[.int .i64 0, .string ⟨#[]⟩, .slice none 0 0] 25 (0, 0)) := by
    rw [hW]
    show ((w.heap.push _).push _)[w.heap.size + 1]? = _
    rw [Array.getElem?_push, if_pos (by simp)]
  obtain ⟨r0, r1, r2⟩ := heap_cells res
  have g0 := heap_frozen (o := 0) res
  have g1 := heap_frozen (o := 1) res
  have g2 := heap_frozen (o := 2) res
  have HB : Hid (Below w.heap.size w W) := hbW
  have HRES : Hid (W.heap[w.heap.size + 1]? = some (.cells #[.int .i64 0, .string ⟨#[]⟩, .slice none 0 0] 25 (0, 0))) := res
  clear hx hp hbW res
  go_enter Tryz.func66, Tryz.ntmps66
  go_upto_region 1 with fail
  rw [← hW]
  generalize hz : w.heap.size = z at r0 r1 r2 g0 g1 g2 ⊢
  have HZ : Hid (w.heap.size = z) := hz
  clear hW hz
  go_wp2
  obtain ⟨V, hV, hv1, hoth, hszV, hbV⟩ := store3 HRES.out (.int .i64 0) (.string ⟨#[]⟩) (.slice none 0 0)
  rw [HZ.out] at hV hv1 hbV
  rw [← hV]
  obtain ⟨s0, s1, s2⟩ := heap_cells hv1
  refine bodyPost_ret (v := .tuple #[.agg #[.int .i64 0, .string ⟨#[]⟩, .slice none 0 0], .int .i64 0, .bool false]) (by simp [results, Tryz.results66, go_sem, s0, s1, s2]) rfl ?_
  refine ⟨HB.out.trans (hbV.mono (by have := HZ.out; omega)), 0, ⟨#[]⟩, none, 0, 0, 0, by rw [HP.out]; rfl, fun h => (HQ.out h).elim⟩
set_option maxHeartbeats 8000000 in
set_option maxRecDepth 10000 in
theorem replace_found (E d m : Nat) (bs : List Bd) (bv : Value) (n : List UInt8) (ts : List (Tn d)) (ad : Option Addr) (len cap : Nat) (w : World) (B : Nat) (hB : B ≤ w.heap.size) (hv : BdAt w B bv bs) (hm : 0 < m) (hm5 : m ≤ 500) (hE : ∀ n u, bdSays bs n = some u → u.1 ≤ E ∧ (flat u.1 u.2).length ≤ 4194304) (j : Nat) (hj : j < bs.length) (hs : bdSays bs n = some bs[j].2) (hi : idxN (bs.map (·.1)) n = j) :
    Calls Tryz.prog 66 #[bv, .agg #[.int .i64 2, strV n, .slice ad len cap], .int .i64 m] w (RpPost w (E + (d + 1)) (subT E (bdLift bs E) (d + 1) ((2, n), ts)) m) := by
  obtain ⟨hE1, hE2⟩ := hE _ _ hs
  obtain ⟨u', l1, l2, l3, l4⟩ := lift_at E bs[j].2 hE1
  have hf : bdLift bs E n = some u' := by unfold bdLift; rw [hs]; exact l1
  have hfl : (flat (E + (d + 1)) (upN E u' (d + 1))).length = (flat bs[j].2.1 bs[j].2.2).length := by rw [flat_upN, l2]
  rw [subT_var hf]
  obtain ⟨W, hW⟩ : ∃ W, W = (w.alloc (Obj.cells #[.int .i64 2, strV n, .slice ad len cap] 25)).alloc (Obj.cells #[.int .i64 0, .string ⟨#[]⟩, .slice none 0 0] 25) := ⟨_, rfl⟩
  have hbW : Below w.heap.size w W := by rw [hW]; exact ((Below.refl _ _).alloc (Nat.le_refl _) _).alloc (by simp) _
  have arg : W.heap[w.heap.size]? = some (.cells #[.int .i64 2, strV n, .slice ad len cap] 25 (0, 0)) := by
    rw [hW, Below.heap_alloc _ _ _ (by simp)]
    show (w.heap.push _)[w.heap.size]? = _
    simp
  have res : W.heap[w.heap.size + 1]? = some (.cells #[.int .i64 0, .string ⟨#[]⟩, .slice none 0 0] 25 (0, 0)) := by
    rw [hW]
    show ((w.heap.push _).push _)[w.heap.size + 1]? = _
    rw [Array.getElem?_push, if_pos (by simp)]
  have hvW := hv.below (hbW.mono hB) (Nat.le_refl _)
  have CF := hvW.find n
  have hfi : findI (bs.map (·.1)) n = (j : Int) := by unfold findI; rw [hi, if_pos (by simpa using hj)]
  rw [hfi] at CF
  obtain ⟨g, o, cp, k1, n1, ad1, len1, cap1, rfl, hbl, hgB, _, hc, hT⟩ := hvW.type j hj
  obtain ⟨_, p1, p2, p3⟩ := hc W (Below.refl _ _)
  have hBW := Nat.le_trans hB hbW.size
  have CN := nodes_any _ _ _ W B hBW hT hE2
  have HC : Hid (∀ w1, Below W.heap.size W w1 → (w1.cell? ⟨g, o + j * 4 + 1, none⟩ = some (.int .i64 k1) ∧ w1.cell? ⟨g, o + j * 4 + 2, none⟩ = some (.string n1) ∧ w1.cell? ⟨g, o + j * 4 + 3, none⟩ = some (.slice ad1 len1 cap1)) ∧ Calls Tryz.prog 59 #[.agg #[.int .i64 k1, .string n1, .slice ad1 len1 cap1]] w1 (CpPost w1 bs[j].2.1 bs[j].2.2)) := fun w1 hb => ⟨(hc w1 (hb.mono hBW)).2, copy_any _ _ _ w1 B (Nat.le_trans hBW hb.size) (hT.on (hb.mono hBW)) hE2⟩
  have HX : Hid (∀ w1, Below W.heap.size W w1 → Below w.heap.size w w1 ∧ w1.heap[w.heap.size + 1]? = some (.cells #[.int .i64 0, .string ⟨#[]⟩, .slice none 0 0] 25 (0, 0))) := fun w1 hb => ⟨hbW.trans (hb.mono hbW.size), (hb.block _ (lt_of_heap res)).trans res⟩
  have HFL : Hid ((flat (E + (d + 1)) (upN E u' (d + 1))).length = (flat bs[j].2.1 bs[j].2.2).length) := hfl
  have HL : Hid (∀ (W : World) (S : Nat → Prop) (v : Value), TyS W S bs[j].2.1 v bs[j].2.2 → TyS W S (E + (d + 1)) v (upN E u' (d + 1))) := fun W S v h => TyS.upN E u' v (l4 W S v h) (d + 1)
  have HNN : Hid (∃ N, N = (flat bs[j].2.1 bs[j].2.2).length) := ⟨_, rfl⟩
  obtain ⟨NN, hNN⟩ := HNN.out
  rw [← hNN] at CN hE2
  rw [← hNN] at HFL
  obtain ⟨x0, x1, x2⟩ := heap_cells arg
  have i1 : (0 : Int) ≤ (j : Int) := by omega
  have i2 : (j : Int) < (bs.length : Int) := by omega
  have hm1 : ¬ (m : Int) < 1 := by omega
  have h0j : (0 : Int) ≤ (j : Int) := by omega
  have hsW : w.heap.size + 2 = W.heap.size := by rw [hW]; simp
  clear hE1 l1 l2 l3 l4 hf hfl hvW hfi hs hi hv hc hT hE hbW res arg hNN HNN
  generalize upN E u' (d + 1) = TT at *
  go_enter Tryz.func66, Tryz.ntmps66
  go_upto_region 1 with fail
  rw [← hW]
  generalize hz : w.heap.size = z at x0 x1 x2 ⊢
  have HZ : Hid (w.heap.size = z) := hz
  clear hW hz
  go_upto_region 5 with (go_at_call 58; (with_reducible refine Calls.mono CF ?_); rintro e' w1 ⟨rfl, rfl⟩)
  clear CF
  go_upto_region 7 with (go_at_call 29; (with_reducible refine Calls.mono CN ?_); rintro e' w2 ⟨rfl, hb2⟩)
  obtain ⟨⟨q1, q2, q3⟩, CC⟩ := HC.out w2 hb2
  clear CN p1 p2 p3
  go_upto_region 8 with (go_at_call 59; (with_reducible refine Calls.mono CC ?_); intro e' w3 hpost; obtain ⟨hb3, k3, n3, ad3, l3, c3, rfl, hT3⟩ := hpost)
  obtain ⟨U, hU, hbU, hsU, c0', c1', c2'⟩ := cells_box w3 (.int .i64 k3) (.string n3) (.slice ad3 l3 c3) 25
  rw [← hU]
  have hb4 : Below w1.heap.size w1 U := (hb2.trans (hb3.mono hb2.size)).trans (hbU.mono (by have := hb2.size; have := hb3.size; omega))
  obtain ⟨hB4, res4⟩ := HX.out U hb4
  have HB4 : Hid (Below w.heap.size w U) := hB4
  have HS2 : Hid (w1.heap.size ≤ w2.heap.size) := hb2.size
  have HRES : Hid (U.heap[w.heap.size + 1]? = some (.cells #[.int .i64 0, .string ⟨#[]⟩, .slice none 0 0] 25 (0, 0))) := res4
  rw [HZ.out] at res4
  obtain ⟨r0, r1, r2⟩ := heap_cells res4
  have g0 := heap_frozen (o := 0) res4
  have g1 := heap_frozen (o := 1) res4
  have g2 := heap_frozen (o := 2) res4
  have HT3 : Hid (TyS U (fun g => w2.heap.size ≤ g ∧ g < w3.heap.size) bs[j].2.1 (.agg #[.int .i64 k3, .string n3, .slice ad3 l3 c3]) bs[j].2.2) := TyS.on (fun g q => q) (fun g q => hbU.block g q.2) _ _ _ hT3
  have HSU : Hid (U.heap.size = w3.heap.size + 1) := hsU
  generalize hq : w3.heap.size = q3z at c0' c1' c2' ⊢
  have HQ3 : Hid (w3.heap.size = q3z) := hq
  clear hU hbU hsU hb2 hb3 hb4 hB4 res4 hT3 CC q1 q2 q3 hq x0 x1 x2
  go_wp2
  obtain ⟨V, hV, hv1, hoth, hszV, hbV⟩ := store3 HRES.out (.int .i64 k3) (.string n3) (.slice ad3 l3 c3)
  rw [HZ.out] at hV hv1 hbV hoth
  rw [← hV]
  obtain ⟨s0, s1, s2⟩ := heap_cells hv1
  refine bodyPost_ret (v := .tuple #[.agg #[.int .i64 k3, .string n3, .slice ad3 l3 c3], .int .i64 NN, .bool (decide (NN ≤ m))]) (by simp [results, Tryz.results66, go_sem, s0, s1, s2]) rfl ?_
  have hzz := HZ.out
  have h2 := HS2.out
  have h3 := HQ3.out
  have h4 := HSU.out
  refine ⟨HB4.out.trans (hbV.mono (by omega)), k3, n3, ad3, l3, c3, NN, by rw [HFL.out], fun h => ⟨HFL.out.symm, ?_⟩⟩
  exact HL.out _ _ _ (TyS.on (fun g q => ⟨by omega, by omega⟩) (fun g q => hoth g (by omega)) _ _ _ HT3.out)
set_option maxHeartbeats 16000000 in
set_option maxRecDepth 10000 in
theorem replace_node (E d m : Nat) (F : Tn d → Tn (E + d)) (bv : Value) (k : Int) (hk : k ≠ 2) (n : List UInt8) (ts : List (Tn d)) (ad : Option Addr) (cap : Nat) (w : World) (B : Nat) (hB : B ≤ w.heap.size) (hm : 0 < m) (hm5 : m ≤ 500) (hnl : n.length < 140737488355328) (hN : (flats d ts).length + 1 ≤ 4194304) (h6 : ts.length ≤ 4194304)
    (IH : ∀ (x : Value) (t : Tn d) (w' : World) (m : Nat), Below w.heap.size w w' → TyAt w' B d x t → (flat d t).length ≤ 4194304 → m ≤ 500 → Calls Tryz.prog 66 #[bv, x, .int .i64 m] w' (RpPost w' (E + d) (F t) m))
    (hrow : ts ≠ [] → ∃ g o, ad = some ⟨g, o, none⟩ ∧ ts.length ≤ cap ∧ g < B ∧ ∀ j (h : j < ts.length), ∃ k n ad' len' cap', (∀ w', Below B w w' → w'.cell? ⟨g, o + j * 3, none⟩ = some (.int .i64 k) ∧ w'.cell? ⟨g, o + j * 3 + 1, none⟩ = some (.string n) ∧ w'.cell? ⟨g, o + j * 3 + 2, none⟩ = some (.slice ad' len' cap')) ∧ TyAt w B d (.agg #[.int .i64 k, .string n, .slice ad' len' cap']) ts[j]) :
    Calls Tryz.prog 66 #[bv, .agg #[.int .i64 k, strV n, .slice ad ts.length cap], .int .i64 m] w (RpPost w (E + d + 1) ((k, n), ts.map F) m) := by
  obtain ⟨i0, hi, hz0, hz1, hz2⟩ := info_parts Tryz.info25
  have HFL : Hid ((flat (E + d + 1) ((k, n), ts.map F)).length = (flats (E + d) (ts.map F)).length + 1) := by show _ = _; rw [flat_succ, List.length_cons]
  obtain ⟨W, hW⟩ : ∃ W, W = (w.alloc (Obj.cells #[.int .i64 k, strV n, .slice ad ts.length cap] 25)).alloc (Obj.cells #[.int .i64 0, .string ⟨#[]⟩, .slice none 0 0] 25) := ⟨_, rfl⟩
  have T0 : CpW w (W.alloc (Obj.cells #[.int .i64 k, .string ⟨n.toArray⟩, .slice none 0 0] 25)) w.heap.size (E + d) k n (.slice ad ts.length cap) (ts.map F) 0 (.slice none 0 0) [] := by
    rw [hW]
    refine ⟨(((Below.refl _ _).alloc (Nat.le_refl _) _).alloc (by simp) _).alloc (by simp; omega) _, ?_, ?_, ?_, RowM.nil _ _ _⟩
    · rw [Below.heap_alloc _ _ _ (by simp; omega), Below.heap_alloc _ _ _ (by simp)]
      show (w.heap.push _)[w.heap.size]? = _
      simp
    · rw [Below.heap_alloc _ _ _ (by simp)]
      show ((w.heap.push _).push _)[w.heap.size + 1]? = _
      rw [Array.getElem?_push, if_pos (by simp)]
    · show (((w.heap.push _).push _).push _)[w.heap.size + 2]? = _
      rw [Array.getElem?_push, if_pos (by simp)]
  have hbW : Below w.heap.size w W := by rw [hW]; exact ((Below.refl _ _).alloc (Nat.le_refl _) _).alloc (by simp) _
  have arg : W.heap[w.heap.size]? = some (.cells #[.int .i64 k, strV n, .slice ad ts.length cap] 25 (0, 0)) := by
    rw [hW, Below.heap_alloc _ _ _ (by simp)]
    show (w.heap.push _)[w.heap.size]? = _
    simp
  have hsW : W.heap.size = w.heap.size + 2 := by rw [hW]; simp
  have HR : Hid (ts ≠ [] → ∃ g o, ad = some ⟨g, o, none⟩ ∧ ts.length ≤ cap ∧ g < B ∧ ∀ j (h : j < ts.length), ∃ k n ad' len' cap', (∀ w', Below B w w' → w'.cell? ⟨g, o + j * 3, none⟩ = some (.int .i64 k) ∧ w'.cell? ⟨g, o + j * 3 + 1, none⟩ = some (.string n) ∧ w'.cell? ⟨g, o + j * 3 + 2, none⟩ = some (.slice ad' len' cap')) ∧ TyAt w B d (.agg #[.int .i64 k, .string n, .slice ad' len' cap']) ts[j]) := hrow
  have HN : Hid ((flats d ts).length + 1 ≤ 4194304) := hN
  have HL : Hid (B ≤ w.heap.size) := hB
  have HNL : Hid (n.length < 140737488355328) := hnl
  have HI : Hid (∀ (x : Value) (t : Tn d) (w' : World) (m : Nat), Below w.heap.size w w' → TyAt w' B d x t → (flat d t).length ≤ 4194304 → m ≤ 500 → Calls Tryz.prog 66 #[bv, x, .int .i64 m] w' (RpPost w' (E + d) (F t) m)) := IH
  obtain ⟨x0, x1, x2⟩ := heap_cells arg
  have hm1 : ¬ (m : Int) < 1 := by omega
  have hkb : (k == 2) = false := by simpa using hk
  clear hrow hN hB hnl IH hbW arg
  go_enter Tryz.func66, Tryz.ntmps66
  go_upto_region 1 with fail
  rw [← hW]
  generalize hz : w.heap.size = z at x0 x1 x2 T0 hsW ⊢
  have HZ : Hid (w.heap.size = z) := hz
  clear hW hz
  go_wp2_with fail
  generalize hW0 : W.alloc (Obj.cells #[.int .i64 k, .string ⟨n.toArray⟩, .slice none 0 0] 25) = W0 at T0 ⊢
  clear hW0 x0 x1 x2
  go_loopw [13, 14] (fun c i wr => ∃ (j a : Nat) (u : Value) (es : List El), j ≤ ts.length ∧ i = .int .i64 j ∧ c = .int .i64 a ∧ a ≤ m ∧ Hid (a = (flats (E + d) ((ts.map F).take j)).length + 1) ∧ Hid (CpW w wr z (E + d) k n (.slice ad ts.length cap) (ts.map F) j u es)) (fun _ i _ => ts.length - (intOf i).toNat)
  case atStart => exact ⟨0, 1, _, _, by omega, by go_num, by go_num, by omega, by show _ = _; simp [flats], T0⟩
  case round =>
    obtain ⟨j, a, u, es, hj, rfl, rfl, ham, HA, HT⟩ := hrel
    have T := HT.out
    obtain ⟨x0, x1, x2⟩ := heap_cells T.arg
    obtain ⟨y0, y1, y2⟩ := heap_cells T.box
    have hbz := heap_lt T.box
    obtain ⟨ua, uc, hu⟩ : ∃ ua uc, u = .slice ua es.length uc := by
      rcases T.row.own.2 with ⟨h1, h2⟩ | ⟨g', cap', cur, h1, _⟩
      · exact ⟨none, 0, by rw [h1, h2]⟩
      · exact ⟨_, _, h1⟩
    subst hu
    have hej : es.length = j := by
      rw [T.row.len, List.length_take, List.length_map]
      omega
    have hel : es.length ≤ 4194304 := by omega
    by_cases hlt : j < ts.length
    · have hltM : j < (ts.map F).length := by rw [List.length_map]; exact hlt
      obtain ⟨g, o, had, _, _, hels⟩ := HR.out (by intro e; rw [e] at hlt; simp at hlt)
      obtain ⟨k1, n1, ad1, l1, cp1, hcel, T1⟩ := hels j hlt
      have hL := HL.out
      have hzz := HZ.out
      have hbB : Below B w wr := T.bel.mono (by omega)
      obtain ⟨p0, p1, p2⟩ := hcel wr hbB
      rw [had] at x2
      have CJ := HI.out _ ts[j] wr (m - a) (T.bel.mono (by omega)) (T1.on hbB) (by
        have h2 := flats_take ts j hlt
        have h3 := HN.out
        omega) (by omega)
      have hcast : (m : Int) - (a : Int) = ((m - a : Nat) : Int) := by omega
      have i1 : (0 : Int) ≤ (j : Int) := by omega
      have i2 : (j : Int) < (ts.length : Int) := by omega
      have hjl : j + 1 ≤ ts.length := hlt
      have HBox : Hid (wr.heap[z + 2]? = some (.cells #[.int .i64 k, .string ⟨n.toArray⟩, .slice ua es.length uc] 25 (0, 0))) := T.box
      have HRes : Hid (wr.heap[z + 1]? = some (.cells #[.int .i64 0, .string ⟨#[]⟩, .slice none 0 0] 25 (0, 0))) := T.res
      have HBel : Hid (Below z w wr) := T.bel
      have HOwn : Hid (wr.ownsRow (z + 3) 25 3 (.slice ua es.length uc) es.length (es.flatMap elCells)) := T.row.own
      have hsplit : (flats (E + d) ((ts.map F).take (j + 1))).length = (flats (E + d) ((ts.map F).take j)).length + (flat (E + d) (F ts[j])).length := by
        rw [List.take_succ_eq_append_getElem hltM, flats_app, List.length_append, flats_cons, flats_nil, List.append_nil, List.getElem_map]
      have htot : (flats (E + d) ((ts.map F).take (j + 1))).length ≤ (flats (E + d) (ts.map F)).length := by
        conv => rhs; rw [← List.take_append_drop (j + 1) (ts.map F), flats_app, List.length_append]
        omega
      have HSP : Hid ((flats (E + d) ((ts.map F).take (j + 1))).length = (flats (E + d) ((ts.map F).take j)).length + (flat (E + d) (F ts[j])).length ∧ (flats (E + d) ((ts.map F).take (j + 1))).length ≤ (flats (E + d) (ts.map F)).length) := ⟨hsplit, htot⟩
      clear T1 T hels hcel T0 had hbB y0 y1 hej hL hzz hsplit htot
      go_upto_region 15 with (go_at_call 66; (with_reducible refine Calls.mono CJ ?_); intro e' w1 hpost; obtain ⟨hb1, kd, nm, ad2, len2, cap2, c1, rfl, hT1⟩ := hpost)
      obtain ⟨U, hU, hbU, hsU, c0', c1', c2'⟩ := cells_box w1 (.int .i64 kd) (.string nm) (.slice ad2 len2 cap2) 25
      rw [← hU]
      have HUe : Hid (U = w1.alloc (Obj.cells #[.int .i64 kd, .string nm, .slice ad2 len2 cap2] 25)) := hU
      have hs1 := hb1.size
      by_cases hok : (flat (E + d) (F ts[j])).length ≤ m - a
      · obtain ⟨hc1, hT1⟩ := hT1 hok
        rw [decide_eq_true hok]
        have boxU : U.heap[z + 2]? = some (.cells #[.int .i64 k, .string ⟨n.toArray⟩, .slice ua es.length uc] 25 (0, 0)) := by
          rw [hU, Below.heap_alloc _ _ _ (by omega), hb1.block (z + 2) (by omega)]
          exact HBox.out
        have ownU : U.ownsRow (z + 3) 25 3 (.slice ua es.length uc) es.length (es.flatMap elCells) := own_move HOwn.out fun b hb => by
          have := (HOwn.out.lt b hb).2
          rw [hU, Below.heap_alloc _ _ _ (by omega)]
          exact hb1.block b (by omega)
        have w2 := (heap_cells boxU).2.2
        have hzU : z + 3 ≤ U.heap.size := by omega
        have HB1 : Hid (Below wr.heap.size wr w1) := hb1
        have HT1 : Hid (TyS w1 (fun g => wr.heap.size ≤ g ∧ g < w1.heap.size) (E + d) (.agg #[.int .i64 kd, .string nm, .slice ad2 len2 cap2]) (F ts[j])) := hT1
        have HA2 : Hid (a + c1 ≤ m ∧ a + c1 = (flats (E + d) ((ts.map F).take (j + 1))).length + 1) := by
          have h1 := HSP.out.1
          have h2 := HA.out
          constructor <;> omega
        have hac : a + c1 ≤ m := HA2.out.1
        generalize hq1 : w1.heap.size = q1 at c0' c1' c2' ⊢
        have hq1U : q1 < U.heap.size := by omega
        clear hU hsU hbU CJ x0 x1 x2 y2 p0 p1 p2 hq1 hs1 hb1 hT1 hc1 hok
        go_wp2_with (at_builtin; refine wpList_append_lies _ rfl _ _ 23 rfl (z + 3) 25 i0 _ 3 48 Tryz.underlying23 hi hz0 hz1 hz2 rfl (by decide) (.slice ua es.length uc) es.length (es.flatMap elCells) rfl (ownU.alloc _) ⟨U.heap.size, 0, none⟩ 1 1 [.int .i64 kd, .string nm, .slice ad2 len2 cap2] rfl rfl (World.news_of_block (cs := #[.int .i64 kd, .string nm, .slice ad2 len2 cap2]) (t := 25) (fr := (0, 0)) (heap_alloc_new U _)) (by simp [Value.oneCell']) (by omega) (by unfold maxLen; omega) (by omega) (by simp; omega) (U.heap.size + 1) (by simp) ?_; intro g' cap' w5 hown5 hgrow hat hlt5; have b5 : w5.heap[z + 2]? = some (.cells #[.int .i64 k, .string ⟨n.toArray⟩, .slice ua es.length uc] 25 (0, 0)) := (hgrow.block (z + 2) (by simp; omega) (fun e => by have := (ownU.lt _ e.symm).1; omega)).trans ((Below.heap_alloc _ _ _ (by omega)).trans boxU); have c5 := (heap_cells b5).2.2; have f5 := heap_frozen (o := 2) b5)
        have T2 := HT.out.more hltM HB1.out (by rw [List.getElem_map]; exact HT1.out) HUe.out hown5 hgrow (by simpa using hat)
        go_roundw
        case rel => exact ⟨j + 1, a + c1, _, _, hjl, by go_num, by go_num, hac, HA2.out.2, T2⟩
        case measure => simp [intOf]; omega
      · rw [decide_eq_false hok]
        have resU : U.heap[z + 1]? = some (.cells #[.int .i64 0, .string ⟨#[]⟩, .slice none 0 0] 25 (0, 0)) := by
          rw [hU, Below.heap_alloc _ _ _ (by omega), hb1.block (z + 1) (by omega)]
          exact HRes.out
        obtain ⟨r0, r1, r2⟩ := heap_cells resU
        have g0 := heap_frozen (o := 0) resU
        have g1 := heap_frozen (o := 1) resU
        have g2 := heap_frozen (o := 2) resU
        have HRU : Hid (U.heap[z + 1]? = some (.cells #[.int .i64 0, .string ⟨#[]⟩, .slice none 0 0] 25 (0, 0))) := resU
        have HBU : Hid (Below z w U) := HBel.out.trans ((hb1.trans (hbU.mono hb1.size)).mono (by omega))
        have HNO : Hid (¬ (flat (E + d + 1) ((k, n), ts.map F)).length ≤ m) := by
          show ¬ _
          have h1 := HSP.out
          have h2 := HA.out
          rw [HFL.out]
          omega
        clear hU hsU hbU CJ x0 x1 x2 y2 p0 p1 p2 hs1 hb1 hT1 hok resU
        go_wp2
        obtain ⟨V, hV, hv1, hoth, hszV, hbV⟩ := store3 HRU.out (.int .i64 0) (.string ⟨#[]⟩) (.slice none 0 0)
        rw [← hV]
        obtain ⟨s0, s1, s2⟩ := heap_cells hv1
        refine bodyPost_ret (v := .tuple #[.agg #[.int .i64 0, .string ⟨#[]⟩, .slice none 0 0], .int .i64 0, .bool false]) (by simp [results, Tryz.results66, go_sem, s0, s1, s2]) rfl ?_
        have hzz := HZ.out
        exact ⟨by rw [hzz]; exact HBU.out.trans (hbV.mono (by omega)), 0, ⟨#[]⟩, none, 0, 0, 0, by rw [decide_eq_false HNO.out]; rfl, fun h => (HNO.out h).elim⟩
    · obtain ⟨r0, r1, r2⟩ := heap_cells T.res
      have g0 := heap_frozen (o := 0) T.res
      have g1 := heap_frozen (o := 1) T.res
      have g2 := heap_frozen (o := 2) T.res
      have HJT : Hid (j = ts.length) := by show j = ts.length; omega
      have h1 : ¬ (j : Int) < (ts.length : Int) := by omega
      have HLE : Hid ((flat (E + d + 1) ((k, n), ts.map F)).length = a) := by
        show _ = _
        rw [HFL.out, HA.out, List.take_of_length_le (by rw [List.length_map]; omega)]
      clear T T0 hej hlt hj
      go_wp2
      have T := HT.out
      obtain ⟨W', hW', hz', hoth, hsz, hbz'⟩ := store3 T.res (.int .i64 k) (strV n) (.slice ua es.length uc)
      rw [← hW']
      obtain ⟨s0, s1, s2⟩ := heap_cells hz'
      refine bodyPost_ret (v := .tuple #[.agg #[.int .i64 k, strV n, .slice ua es.length uc], .int .i64 a, .bool true]) (by simp [results, Tryz.results66, go_sem, s0, s1, s2]) rfl ?_
      have hzz := HZ.out
      have hrow := T.row
      rw [List.take_of_length_le (by have := HJT.out; rw [List.length_map]; omega)] at hrow
      refine ⟨by rw [hzz]; exact T.bel.trans (hbz'.mono (by omega)), k, ⟨n.toArray⟩, ua, es.length, uc, a, by rw [HLE.out, decide_eq_true ham], fun _ => ⟨HLE.out.symm, ?_⟩⟩
      exact TyS.on (S := fun g => z + 3 ≤ g ∧ g < wr.heap.size) (fun b q => ⟨by omega, by omega⟩) (fun b q => hoth b (by omega)) _ _ _ (hrow.tree k n HNL.out (by rw [List.length_map]; omega))
set_option maxHeartbeats 16000000 in
set_option maxRecDepth 10000 in
theorem replace_free (E d m : Nat) (F : Tn d → Tn (E + d)) (bs : List Bd) (bv : Value) (n : List UInt8) (hi' : idxN (bs.map (·.1)) n = bs.length) (ts : List (Tn d)) (ad : Option Addr) (cap : Nat) (w : World) (B : Nat) (hB : B ≤ w.heap.size) (hv : BdAt w B bv bs) (hm : 0 < m) (hm5 : m ≤ 500) (hnl : n.length < 140737488355328) (hN : (flats d ts).length + 1 ≤ 4194304) (h6 : ts.length ≤ 4194304)
    (IH : ∀ (x : Value) (t : Tn d) (w' : World) (m : Nat), Below w.heap.size w w' → TyAt w' B d x t → (flat d t).length ≤ 4194304 → m ≤ 500 → Calls Tryz.prog 66 #[bv, x, .int .i64 m] w' (RpPost w' (E + d) (F t) m))
    (hrow : ts ≠ [] → ∃ g o, ad = some ⟨g, o, none⟩ ∧ ts.length ≤ cap ∧ g < B ∧ ∀ j (h : j < ts.length), ∃ k n ad' len' cap', (∀ w', Below B w w' → w'.cell? ⟨g, o + j * 3, none⟩ = some (.int .i64 k) ∧ w'.cell? ⟨g, o + j * 3 + 1, none⟩ = some (.string n) ∧ w'.cell? ⟨g, o + j * 3 + 2, none⟩ = some (.slice ad' len' cap')) ∧ TyAt w B d (.agg #[.int .i64 k, .string n, .slice ad' len' cap']) ts[j]) :
    Calls Tryz.prog 66 #[bv, .agg #[.int .i64 2, strV n, .slice ad ts.length cap], .int .i64 m] w (RpPost w (E + d + 1) ((2, n), ts.map F) m) := by
  obtain ⟨i0, hi, hz0, hz1, hz2⟩ := info_parts Tryz.info25
  have HFL : Hid ((flat (E + d + 1) ((2, n), ts.map F)).length = (flats (E + d) (ts.map F)).length + 1) := by show _ = _; rw [flat_succ, List.length_cons]
  obtain ⟨W, hW⟩ : ∃ W, W = (w.alloc (Obj.cells #[.int .i64 2, strV n, .slice ad ts.length cap] 25)).alloc (Obj.cells #[.int .i64 0, .string ⟨#[]⟩, .slice none 0 0] 25) := ⟨_, rfl⟩
  have T0 : CpW w (W.alloc (Obj.cells #[.int .i64 2, .string ⟨n.toArray⟩, .slice none 0 0] 25)) w.heap.size (E + d) 2 n (.slice ad ts.length cap) (ts.map F) 0 (.slice none 0 0) [] := by
    rw [hW]
    refine ⟨(((Below.refl _ _).alloc (Nat.le_refl _) _).alloc (by simp) _).alloc (by simp; omega) _, ?_, ?_, ?_, RowM.nil _ _ _⟩
    · rw [Below.heap_alloc _ _ _ (by simp; omega), Below.heap_alloc _ _ _ (by simp)]
      show (w.heap.push _)[w.heap.size]? = _
      simp
    · rw [Below.heap_alloc _ _ _ (by simp)]
      show ((w.heap.push _).push _)[w.heap.size + 1]? = _
      rw [Array.getElem?_push, if_pos (by simp)]
    · show (((w.heap.push _).push _).push _)[w.heap.size + 2]? = _
      rw [Array.getElem?_push, if_pos (by simp)]
  have hbW : Below w.heap.size w W := by rw [hW]; exact ((Below.refl _ _).alloc (Nat.le_refl _) _).alloc (by simp) _
  have arg : W.heap[w.heap.size]? = some (.cells #[.int .i64 2, strV n, .slice ad ts.length cap] 25 (0, 0)) := by
    rw [hW, Below.heap_alloc _ _ _ (by simp)]
    show (w.heap.push _)[w.heap.size]? = _
    simp
  have hsW : W.heap.size = w.heap.size + 2 := by rw [hW]; simp
  have HR : Hid (ts ≠ [] → ∃ g o, ad = some ⟨g, o, none⟩ ∧ ts.length ≤ cap ∧ g < B ∧ ∀ j (h : j < ts.length), ∃ k n ad' len' cap', (∀ w', Below B w w' → w'.cell? ⟨g, o + j * 3, none⟩ = some (.int .i64 k) ∧ w'.cell? ⟨g, o + j * 3 + 1, none⟩ = some (.string n) ∧ w'.cell? ⟨g, o + j * 3 + 2, none⟩ = some (.slice ad' len' cap')) ∧ TyAt w B d (.agg #[.int .i64 k, .string n, .slice ad' len' cap']) ts[j]) := hrow
  have HN : Hid ((flats d ts).length + 1 ≤ 4194304) := hN
  have HL : Hid (B ≤ w.heap.size) := hB
  have HNL : Hid (n.length < 140737488355328) := hnl
  have HI : Hid (∀ (x : Value) (t : Tn d) (w' : World) (m : Nat), Below w.heap.size w w' → TyAt w' B d x t → (flat d t).length ≤ 4194304 → m ≤ 500 → Calls Tryz.prog 66 #[bv, x, .int .i64 m] w' (RpPost w' (E + d) (F t) m)) := IH
  obtain ⟨x0, x1, x2⟩ := heap_cells arg
  have hm1 : ¬ (m : Int) < 1 := by omega
  have CF := (hv.below (hbW.mono hB) (Nat.le_refl _)).find n
  have hfi : findI (bs.map (·.1)) n = -1 := by unfold findI; rw [hi', if_neg (by simp)]
  rw [hfi] at CF
  clear hrow hN hB hnl IH hbW arg hv
  go_enter Tryz.func66, Tryz.ntmps66
  go_upto_region 1 with fail
  rw [← hW]
  generalize hz : w.heap.size = z at x0 x1 x2 T0 hsW ⊢
  have HZ : Hid (w.heap.size = z) := hz
  clear hW hz
  go_upto_region 5 with (go_at_call 58; (with_reducible refine Calls.mono CF ?_); rintro e' w1 ⟨rfl, rfl⟩)
  clear CF
  go_wp2_with fail
  generalize hW0 : w1.alloc (Obj.cells #[.int .i64 2, .string ⟨n.toArray⟩, .slice none 0 0] 25) = W0 at T0 ⊢
  clear hW0 x0 x1 x2
  go_loopw [13, 14] (fun c i wr => ∃ (j a : Nat) (u : Value) (es : List El), j ≤ ts.length ∧ i = .int .i64 j ∧ c = .int .i64 a ∧ a ≤ m ∧ Hid (a = (flats (E + d) ((ts.map F).take j)).length + 1) ∧ Hid (CpW w wr z (E + d) 2 n (.slice ad ts.length cap) (ts.map F) j u es)) (fun _ i _ => ts.length - (intOf i).toNat)
  case atStart => exact ⟨0, 1, _, _, by omega, by go_num, by go_num, by omega, by show _ = _; simp [flats], T0⟩
  case round =>
    obtain ⟨j, a, u, es, hj, rfl, rfl, ham, HA, HT⟩ := hrel
    have T := HT.out
    obtain ⟨x0, x1, x2⟩ := heap_cells T.arg
    obtain ⟨y0, y1, y2⟩ := heap_cells T.box
    have hbz := heap_lt T.box
    obtain ⟨ua, uc, hu⟩ : ∃ ua uc, u = .slice ua es.length uc := by
      rcases T.row.own.2 with ⟨h1, h2⟩ | ⟨g', cap', cur, h1, _⟩
      · exact ⟨none, 0, by rw [h1, h2]⟩
      · exact ⟨_, _, h1⟩
    subst hu
    have hej : es.length = j := by
      rw [T.row.len, List.length_take, List.length_map]
      omega
    have hel : es.length ≤ 4194304 := by omega
    by_cases hlt : j < ts.length
    · have hltM : j < (ts.map F).length := by rw [List.length_map]; exact hlt
      obtain ⟨g, o, had, _, _, hels⟩ := HR.out (by intro e; rw [e] at hlt; simp at hlt)
      obtain ⟨k1, n1, ad1, l1, cp1, hcel, T1⟩ := hels j hlt
      have hL := HL.out
      have hzz := HZ.out
      have hbB : Below B w wr := T.bel.mono (by omega)
      obtain ⟨p0, p1, p2⟩ := hcel wr hbB
      rw [had] at x2
      have CJ := HI.out _ ts[j] wr (m - a) (T.bel.mono (by omega)) (T1.on hbB) (by
        have h2 := flats_take ts j hlt
        have h3 := HN.out
        omega) (by omega)
      have hcast : (m : Int) - (a : Int) = ((m - a : Nat) : Int) := by omega
      have i1 : (0 : Int) ≤ (j : Int) := by omega
      have i2 : (j : Int) < (ts.length : Int) := by omega
      have hjl : j + 1 ≤ ts.length := hlt
      have HBox : Hid (wr.heap[z + 2]? = some (.cells #[.int .i64 2, .string ⟨n.toArray⟩, .slice ua es.length uc] 25 (0, 0))) := T.box
      have HRes : Hid (wr.heap[z + 1]? = some (.cells #[.int .i64 0, .string ⟨#[]⟩, .slice none 0 0] 25 (0, 0))) := T.res
      have HBel : Hid (Below z w wr) := T.bel
      have HOwn : Hid (wr.ownsRow (z + 3) 25 3 (.slice ua es.length uc) es.length (es.flatMap elCells)) := T.row.own
      have hsplit : (flats (E + d) ((ts.map F).take (j + 1))).length = (flats (E + d) ((ts.map F).take j)).length + (flat (E + d) (F ts[j])).length := by
        rw [List.take_succ_eq_append_getElem hltM, flats_app, List.length_append, flats_cons, flats_nil, List.append_nil, List.getElem_map]
      have htot : (flats (E + d) ((ts.map F).take (j + 1))).length ≤ (flats (E + d) (ts.map F)).length := by
        conv => rhs; rw [← List.take_append_drop (j + 1) (ts.map F), flats_app, List.length_append]
        omega
      have HSP : Hid ((flats (E + d) ((ts.map F).take (j + 1))).length = (flats (E + d) ((ts.map F).take j)).length + (flat (E + d) (F ts[j])).length ∧ (flats (E + d) ((ts.map F).take (j + 1))).length ≤ (flats (E + d) (ts.map F)).length) := ⟨hsplit, htot⟩
      clear T1 T hels hcel T0 had hbB y0 y1 hej hL hzz hsplit htot
      go_upto_region 15 with (go_at_call 66; (with_reducible refine Calls.mono CJ ?_); intro e' w1 hpost; obtain ⟨hb1, kd, nm, ad2, len2, cap2, c1, rfl, hT1⟩ := hpost)
      obtain ⟨U, hU, hbU, hsU, c0', c1', c2'⟩ := cells_box w1 (.int .i64 kd) (.string nm) (.slice ad2 len2 cap2) 25
      rw [← hU]
      have HUe : Hid (U = w1.alloc (Obj.cells #[.int .i64 kd, .string nm, .slice ad2 len2 cap2] 25)) := hU
      have hs1 := hb1.size
      by_cases hok : (flat (E + d) (F ts[j])).length ≤ m - a
      · obtain ⟨hc1, hT1⟩ := hT1 hok
        rw [decide_eq_true hok]
        have boxU : U.heap[z + 2]? = some (.cells #[.int .i64 2, .string ⟨n.toArray⟩, .slice ua es.length uc] 25 (0, 0)) := by
          rw [hU, Below.heap_alloc _ _ _ (by omega), hb1.block (z + 2) (by omega)]
          exact HBox.out
        have ownU : U.ownsRow (z + 3) 25 3 (.slice ua es.length uc) es.length (es.flatMap elCells) := own_move HOwn.out fun b hb => by
          have := (HOwn.out.lt b hb).2
          rw [hU, Below.heap_alloc _ _ _ (by omega)]
          exact hb1.block b (by omega)
        have w2 := (heap_cells boxU).2.2
        have hzU : z + 3 ≤ U.heap.size := by omega
        have HB1 : Hid (Below wr.heap.size wr w1) := hb1
        have HT1 : Hid (TyS w1 (fun g => wr.heap.size ≤ g ∧ g < w1.heap.size) (E + d) (.agg #[.int .i64 kd, .string nm, .slice ad2 len2 cap2]) (F ts[j])) := hT1
        have HA2 : Hid (a + c1 ≤ m ∧ a + c1 = (flats (E + d) ((ts.map F).take (j + 1))).length + 1) := by
          have h1 := HSP.out.1
          have h2 := HA.out
          constructor <;> omega
        have hac : a + c1 ≤ m := HA2.out.1
        generalize hq1 : w1.heap.size = q1 at c0' c1' c2' ⊢
        have hq1U : q1 < U.heap.size := by omega
        clear hU hsU hbU CJ x0 x1 x2 y2 p0 p1 p2 hq1 hs1 hb1 hT1 hc1 hok
        go_wp2_with (at_builtin; refine wpList_append_lies _ rfl _ _ 23 rfl (z + 3) 25 i0 _ 3 48 Tryz.underlying23 hi hz0 hz1 hz2 rfl (by decide) (.slice ua es.length uc) es.length (es.flatMap elCells) rfl (ownU.alloc _) ⟨U.heap.size, 0, none⟩ 1 1 [.int .i64 kd, .string nm, .slice ad2 len2 cap2] rfl rfl (World.news_of_block (cs := #[.int .i64 kd, .string nm, .slice ad2 len2 cap2]) (t := 25) (fr := (0, 0)) (heap_alloc_new U _)) (by simp [Value.oneCell']) (by omega) (by unfold maxLen; omega) (by omega) (by simp; omega) (U.heap.size + 1) (by simp) ?_; intro g' cap' w5 hown5 hgrow hat hlt5; have b5 : w5.heap[z + 2]? = some (.cells #[.int .i64 2, .string ⟨n.toArray⟩, .slice ua es.length uc] 25 (0, 0)) := (hgrow.block (z + 2) (by simp; omega) (fun e => by have := (ownU.lt _ e.symm).1; omega)).trans ((Below.heap_alloc _ _ _ (by omega)).trans boxU); have c5 := (heap_cells b5).2.2; have f5 := heap_frozen (o := 2) b5)
        have T2 := HT.out.more hltM HB1.out (by rw [List.getElem_map]; exact HT1.out) HUe.out hown5 hgrow (by simpa using hat)
        go_roundw
        case rel => exact ⟨j + 1, a + c1, _, _, hjl, by go_num, by go_num, hac, HA2.out.2, T2⟩
        case measure => simp [intOf]; omega
      · rw [decide_eq_false hok]
        have resU : U.heap[z + 1]? = some (.cells #[.int .i64 0, .string ⟨#[]⟩, .slice none 0 0] 25 (0, 0)) := by
          rw [hU, Below.heap_alloc _ _ _ (by omega), hb1.block (z + 1) (by omega)]
          exact HRes.out
        obtain ⟨r0, r1, r2⟩ := heap_cells resU
        have g0 := heap_frozen (o := 0) resU
        have g1 := heap_frozen (o := 1) resU
        have g2 := heap_frozen (o := 2) resU
        have HRU : Hid (U.heap[z + 1]? = some (.cells #[.int .i64 0, .string ⟨#[]⟩, .slice none 0 0] 25 (0, 0))) := resU
        have HBU : Hid (Below z w U) := HBel.out.trans ((hb1.trans (hbU.mono hb1.size)).mono (by omega))
        have HNO : Hid (¬ (flat (E + d + 1) ((2, n), ts.map F)).length ≤ m) := by
          show ¬ _
          have h1 := HSP.out
          have h2 := HA.out
          rw [HFL.out]
          omega
        clear hU hsU hbU CJ x0 x1 x2 y2 p0 p1 p2 hs1 hb1 hT1 hok resU
        go_wp2
        obtain ⟨V, hV, hv1, hoth, hszV, hbV⟩ := store3 HRU.out (.int .i64 0) (.string ⟨#[]⟩) (.slice none 0 0)
        rw [← hV]
        obtain ⟨s0, s1, s2⟩ := heap_cells hv1
        refine bodyPost_ret (v := .tuple #[.agg #[.int .i64 0, .string ⟨#[]⟩, .slice none 0 0], .int .i64 0, .bool false]) (by simp [results, Tryz.results66, go_sem, s0, s1, s2]) rfl ?_
        have hzz := HZ.out
        exact ⟨by rw [hzz]; exact HBU.out.trans (hbV.mono (by omega)), 0, ⟨#[]⟩, none, 0, 0, 0, by rw [decide_eq_false HNO.out]; rfl, fun h => (HNO.out h).elim⟩
    · obtain ⟨r0, r1, r2⟩ := heap_cells T.res
      have g0 := heap_frozen (o := 0) T.res
      have g1 := heap_frozen (o := 1) T.res
      have g2 := heap_frozen (o := 2) T.res
      have HJT : Hid (j = ts.length) := by show j = ts.length; omega
      have h1 : ¬ (j : Int) < (ts.length : Int) := by omega
      have HLE : Hid ((flat (E + d + 1) ((2, n), ts.map F)).length = a) := by
        show _ = _
        rw [HFL.out, HA.out, List.take_of_length_le (by rw [List.length_map]; omega)]
      clear T T0 hej hlt hj
      go_wp2
      have T := HT.out
      obtain ⟨W', hW', hz', hoth, hsz, hbz'⟩ := store3 T.res (.int .i64 2) (strV n) (.slice ua es.length uc)
      rw [← hW']
      obtain ⟨s0, s1, s2⟩ := heap_cells hz'
      refine bodyPost_ret (v := .tuple #[.agg #[.int .i64 2, strV n, .slice ua es.length uc], .int .i64 a, .bool true]) (by simp [results, Tryz.results66, go_sem, s0, s1, s2]) rfl ?_
      have hzz := HZ.out
      have hrow := T.row
      rw [List.take_of_length_le (by have := HJT.out; rw [List.length_map]; omega)] at hrow
      refine ⟨by rw [hzz]; exact T.bel.trans (hbz'.mono (by omega)), 2, ⟨n.toArray⟩, ua, es.length, uc, a, by rw [HLE.out, decide_eq_true ham], fun _ => ⟨HLE.out.symm, ?_⟩⟩
      exact TyS.on (S := fun g => z + 3 ≤ g ∧ g < wr.heap.size) (fun b q => ⟨by omega, by omega⟩) (fun b q => hoth b (by omega)) _ _ _ (hrow.tree 2 n HNL.out (by rw [List.length_map]; omega))
theorem replace_any (bs : List Bd) (E : Nat) (hE : ∀ n u, bdSays bs n = some u → u.1 ≤ E ∧ (flat u.1 u.2).length ≤ 4194304) : ∀ (d : Nat) (x : Value) (t : Tn d) (w : World) (B : Nat) (bv : Value) (m : Nat), B ≤ w.heap.size → BdAt w B bv bs → TyAt w B d x t → (flat d t).length ≤ 4194304 → m ≤ 500 →
    Calls Tryz.prog 66 #[bv, x, .int .i64 m] w (RpPost w (E + d) (subT E (bdLift bs E) d t) m)
  | 0, _, _, _, _, _, _, _, _, h, _, _ => h.elim
  | d + 1, x, ((k, n), ts), w, B, bv, m, hB, hv, hx, hN, hm5 => by
    by_cases hm : 0 < m
    · obtain ⟨v, hx, h1, h2, hr⟩ := hx
      simp only at hx h1 h2 hr
      obtain ⟨ad, cap, rfl, hrow⟩ := hr.cells
      subst hx
      have hN : (flats d ts).length + 1 ≤ 4194304 := hN
      have h6 := flats_many ts
      have IH : ∀ (x : Value) (t : Tn d) (w' : World) (m : Nat), Below w.heap.size w w' → TyAt w' B d x t → (flat d t).length ≤ 4194304 → m ≤ 500 → Calls Tryz.prog 66 #[bv, x, .int .i64 m] w' (RpPost w' (E + d) (subT E (bdLift bs E) d t) m) :=
        fun x t w' m hb hT hl hm => replace_any bs E hE d x t w' B bv m (Nat.le_trans hB hb.size) (hv.below (hb.mono hB) (Nat.le_refl _)) hT hl hm
      by_cases hk : k = 2
      · subst hk
        rcases find_says bs n with ⟨e1, e2⟩ | ⟨j, hj, e1, e2⟩
        · rw [subT_free (by unfold bdLift; rw [e1]; rfl)]
          exact replace_free E d m (subT E (bdLift bs E) d) bs bv n e2 ts ad cap w B hB hv hm hm5 h1 hN (by omega) IH hrow
        · exact replace_found E d m bs bv n ts ad ts.length cap w B hB hv hm hm5 hE j hj e1 e2
      · rw [subT_node hk]
        exact replace_node E d m (subT E (bdLift bs E) d) bv k hk n ts ad cap w B hB hm hm5 h1 hN (by omega) IH hrow
    · have e : m = 0 := by omega
      subst e
      exact replace_none bv x (d + 1) ((k, n), ts) _ _ w (TyAt.below (Below.refl _ _) hB _ _ _ hx)
end Go.Proofs.YthcejnpknjepfaaGreat

namespace Go.Proofs.YthcejnpknjepfaaGreat
open Go.RowKit

/-- What is wrong with a bound, those ahead of it being right. -/
def badAt (bs : List Bd) (j : Nat) : Int := match bs[j]? with
  | some b => if varB b.1 = true ∧ b.1 ∉ (bs.take j).map (·.1) then wrongT b.2.1 b.2.2 else 53
  | none => 0
/-- What is wrong with the first of so many bounds with which something is. -/
def valE (bs : List Bd) : Nat → Int
  | 0 => 0
  | n + 1 => if valE bs n = 0 then badAt bs n else valE bs n
theorem valE_stay {bs : List Bd} {j : Nat} (h : valE bs j ≠ 0) : ∀ k, valE bs (j + k) = valE bs j
  | 0 => rfl
  | k + 1 => by
    have := valE_stay h k
    show (if valE bs (j + k) = 0 then badAt bs (j + k) else valE bs (j + k)) = _
    rw [this, if_neg h]
theorem valE_bad {bs : List Bd} {j N : Nat} (h0 : valE bs j = 0) (h : badAt bs j ≠ 0) (hj : j < N) : valE bs N = badAt bs j := by
  have e : valE bs (j + 1) = badAt bs j := by rw [valE, if_pos h0]
  obtain ⟨k, rfl⟩ : ∃ k, N = j + 1 + k := ⟨N - (j + 1), by omega⟩
  rw [valE_stay (by rw [e]; exact h) k, e]
theorem valE_next {bs : List Bd} {j : Nat} (h0 : valE bs j = 0) (h : badAt bs j = 0) : valE bs (j + 1) = 0 := by rw [valE, if_pos h0, h]
theorem badAt_of {bs : List Bd} {j : Nat} (hj : j < bs.length) : badAt bs j = if varB bs[j].1 = true ∧ bs[j].1 ∉ (bs.take j).map (·.1) then wrongT bs[j].2.1 bs[j].2.2 else 53 := by
  unfold badAt
  rw [List.getElem?_eq_getElem hj]
theorem valE_good {bs : List Bd} : ∀ {j : Nat}, j ≤ bs.length → valE bs j = 0 → ((bs.take j).map (·.1)).Nodup ∧ ∀ x ∈ bs.take j, varB x.1 = true ∧ wrongT x.2.1 x.2.2 = 0
  | 0, _, _ => by simp
  | j + 1, hj, h => by
    have hj : j < bs.length := hj
    rw [valE] at h
    split at h
    · rename_i h0
      obtain ⟨h1, h2⟩ := valE_good (Nat.le_of_lt hj) h0
      rw [badAt_of hj] at h
      split at h
      · rename_i h3
        rw [List.take_succ_eq_append_getElem hj, List.map_append, List.nodup_append]
        refine ⟨⟨h1, by simp, fun a ha b hb e => ?_⟩, fun x hx => ?_⟩
        · simp at hb
          rw [e, hb] at ha
          exact h3.2 ha
        · rcases List.mem_append.1 hx with hx | hx
          · exact h2 x hx
          · simp at hx
            rw [hx]
            exact ⟨h3.1, h⟩
      · omega
    · rename_i h0; exact absurd h h0
/-- Which error Apply answers. -/
def applyE (bs : List Bd) (d : Nat) (t : Tn d) : Int :=
  if 100000 < bs.length then 2 else if valE bs bs.length = 0 then (if wrongT d t = 0 then (if (subF (bdRow bs) (flat d t)).length ≤ 500 then 0 else 4) else wrongT d t) else valE bs bs.length
/-- Which row of nodes. -/
def applyF (bs : List Bd) (d : Nat) (t : Tn d) : List Nd := if applyE bs d t = 0 then subF (bdRow bs) (flat d t) else [(0, [], 0)]
/-- What Apply answers, to be read. -/
def ApPost (bs : List Bd) (d : Nat) (t : Tn d) (w : World) (r : Ending) (w' : World) : Prop :=
  Below w.heap.size w w' ∧ ∃ (k : Int) (n : ByteArray) (ad : Option Addr) (len cap D : Nat) (tt : Tn D), r = .returned (.tuple #[.agg #[.int .i64 k, .string n, .slice ad len cap], .int .i64 (applyE bs d t)]) ∧ TyAt w' w'.heap.size D (.agg #[.int .i64 k, .string n, .slice ad len cap]) tt ∧ flat D tt = applyF bs d t
theorem ApPost.bad {bs : List Bd} {d : Nat} {t : Tn d} {w w' : World} (hb : Below w.heap.size w w') (c : Int) (h : applyE bs d t = c) (h0 : c ≠ 0) : ApPost bs d t w (.returned (.tuple #[.agg #[.int .i64 0, .string ⟨#[]⟩, .slice none 0 0], .int .i64 c])) w' :=
  ⟨hb, 0, ⟨#[]⟩, none, 0, 0, 1, ((0, []), []), by rw [h], zero_at _ _ none 0, by unfold applyF; rw [h, if_neg h0]; rfl⟩
/-- What the bounds' trees are bounded by. -/
def bdLev (bs : List Bd) : Nat := (bs.map fun x => x.2.1).sum
theorem bdLev_le {bs : List Bd} {n : List UInt8} {u : Sigma Tn} {M : Nat} (hM : ∀ x ∈ bs, (flat x.2.1 x.2.2).length ≤ M) (h : bdSays bs n = some u) : u.1 ≤ bdLev bs ∧ (flat u.1 u.2).length ≤ M := by
  obtain ⟨y, hy, _, e⟩ := says_mem h
  rw [← e]
  exact ⟨sum_le (List.mem_map.2 ⟨y, hy, rfl⟩), hM y hy⟩
theorem sub_lev {bs : List Bd} {d : Nat} {t : Tn d} (hf : formB d t = true) : flat (bdLev bs + d) (subT (bdLev bs) (bdLift bs (bdLev bs)) d t) = subF (bdRow bs) (flat d t) := by
  rw [sub_flat _ _ d t hf, bdLift_row fun n u h => by
    obtain ⟨y, hy, _, e⟩ := says_mem h
    rw [← e]
    exact sum_le (List.mem_map.2 ⟨y, hy, rfl⟩)]
end Go.Proofs.YthcejnpknjepfaaGreat

namespace Go.Proofs.YthcejnpknjepfaaGreat
open Go.RowKit

theorem says_none {bs : List Bd} {n : List UInt8} (h : bdSays bs n = none) : n ∉ bs.map (·.1) := by
  unfold bdSays at h
  rw [Option.map_eq_none_iff, List.find?_eq_none] at h
  intro hm
  obtain ⟨x, hx, e⟩ := List.mem_map.1 hm
  exact h x hx (by simpa using e)
set_option maxHeartbeats 16000000 in
set_option maxRecDepth 10000 in
theorem values_any (v : Value) (bs : List Bd) (w : World) (B : Nat) (hB : B ≤ w.heap.size) (h : BdAt w B v bs) (hl : bs.length ≤ 100000) (hM : ∀ x ∈ bs, (flat x.2.1 x.2.2).length ≤ 4194304) :
    Calls Tryz.prog 67 #[v] w fun r w' => Below w.heap.size w w' ∧ ((valE bs bs.length = 0 ∧ r = .returned (.tuple #[.map (some w.heap.size), .int .i64 0]) ∧ w.heap.size < w'.heap.size ∧ Vs w' w.heap.size B bs) ∨ (valE bs bs.length ≠ 0 ∧ r = .returned (.tuple #[.map none, .int .i64 (valE bs bs.length)]))) := by
  obtain ⟨ad, cap, rfl, hlb, hcl⟩ := h
  have HCL : Hid (bs ≠ [] → ∃ g o, ad = some ⟨g, o, none⟩ ∧ bs.length ≤ cap ∧ g < B ∧ ∀ j (h : j < bs.length), bs[j].1.length < 140737488355328 ∧ ∃ k n ad' len' cap', (∀ w', Below B w w' → w'.cell? ⟨g, o + j * 4, none⟩ = some (.string ⟨bs[j].1.toArray⟩) ∧ w'.cell? ⟨g, o + j * 4 + 1, none⟩ = some (.int .i64 k) ∧ w'.cell? ⟨g, o + j * 4 + 2, none⟩ = some (.string n) ∧ w'.cell? ⟨g, o + j * 4 + 3, none⟩ = some (.slice ad' len' cap')) ∧ TyAt w B bs[j].2.1 (.agg #[.int .i64 k, .string n, .slice ad' len' cap']) bs[j].2.2) := hcl
  have hmm := makeMap_hint bs.length w
  have hb0 : Below w.heap.size w (w.alloc (Obj.map #[] 0)) := (Below.refl _ _).alloc (Nat.le_refl _) _
  have H0 : Hid (w.grownBy (w.alloc (Obj.map #[] 0)) (some w.heap.size) ∧ Vs (w.alloc (Obj.map #[] 0)) w.heap.size B (bs.take 0)) := ⟨grown_of_below hb0, _, Mv.made w, fun n => .inl ⟨rfl, rfl⟩⟩
  have HM : Hid (∀ x ∈ bs, (flat x.2.1 x.2.2).length ≤ 4194304) := hM
  clear hcl hM hb0
  go_enter Tryz.func67, Tryz.ntmps67
  go_wp2
  clear hmm
  go_loopw [15] (fun i wr => ∃ j : Nat, j ≤ bs.length ∧ i = .int .i64 j ∧ Hid (w.grownBy wr (some w.heap.size) ∧ Vs wr w.heap.size B (bs.take j)) ∧ Hid (valE bs j = 0)) (fun i _ => bs.length - (intOf i).toNat)
  case atStart => exact ⟨0, by omega, by go_num, H0.out, rfl⟩
  case round =>
    obtain ⟨j, hj, rfl, HP, HE0⟩ := hrel
    by_cases hlt : j < bs.length
    · have hlt' : (j : Int) < (bs.length : Int) := by omega
      obtain ⟨g0, o0, hadr, hcapt, hgB, hel⟩ := HCL.out (by intro e; rw [e] at hlt; simp at hlt)
      subst hadr
      obtain ⟨hnl, k1, n1, ad1, l1, cp1, hcel, T1⟩ := hel j hlt
      obtain ⟨hgw, hVs⟩ := HP.out
      have hbw : Below w.heap.size w wr := ⟨hgw.os, hgw.tape, hgw.output, hgw.size, fun g hg => hgw.block g hg (fun e => by cases e; omega)⟩
      have hszw := hbw.size
      have hlV := hVs.lt
      obtain ⟨p0, p1, p2, p3⟩ := hcel wr (hbw.mono hB)
      have hbad := badAt_of hlt
      have HE1 : Hid (∀ c, badAt bs j = c → c ≠ 0 → valE bs bs.length = c) := fun c hc h0 => by rw [valE_bad HE0.out (by rw [hc]; exact h0) hlt, hc]
      have HBG : Hid (Below w.heap.size w wr) := hbw
      have hS5 := HM.out bs[j] (List.getElem_mem hlt)
      obtain ⟨U, hU⟩ : ∃ U, U = wr.alloc (Obj.cells #[.string ⟨bs[j].1.toArray⟩, .int .i64 k1, .string n1, .slice ad1 l1 cp1] 47) := ⟨_, rfl⟩
      obtain ⟨V, hV⟩ : ∃ V, V = U.alloc (Obj.cells #[.int .i64 0, .string ⟨#[]⟩, .slice none 0 0] 25) := ⟨_, rfl⟩
      obtain ⟨Y, hY⟩ : ∃ Y, Y = V.alloc (Obj.cells #[.int .i64 k1, .string n1, .slice ad1 l1 cp1] 25) := ⟨_, rfl⟩
      have bU : Below wr.heap.size wr U := by rw [hU]; exact (Below.refl _ _).alloc (Nat.le_refl _) _
      have sU : U.heap.size = wr.heap.size + 1 := by rw [hU]; simp
      have bV : Below wr.heap.size wr V := by rw [hV]; exact bU.alloc bU.size _
      have sV : V.heap.size = wr.heap.size + 2 := by rw [hV]; simp [sU]
      have bY : Below wr.heap.size wr Y := by rw [hY]; exact bV.alloc bV.size _
      have sY : Y.heap.size = wr.heap.size + 3 := by rw [hY]; simp [sV]
      have xU : U.heap[wr.heap.size]? = some (.cells #[.string ⟨bs[j].1.toArray⟩, .int .i64 k1, .string n1, .slice ad1 l1 cp1] 47 (0, 0)) := by
        rw [hU]
        show (wr.heap.push _)[wr.heap.size]? = _
        simp
      have xV : V.heap[wr.heap.size]? = some (.cells #[.string ⟨bs[j].1.toArray⟩, .int .i64 k1, .string n1, .slice ad1 l1 cp1] 47 (0, 0)) := by rw [hV, Below.heap_alloc _ _ _ (by omega)]; exact xU
      have xY : Y.heap[wr.heap.size]? = some (.cells #[.string ⟨bs[j].1.toArray⟩, .int .i64 k1, .string n1, .slice ad1 l1 cp1] 47 (0, 0)) := by rw [hY, Below.heap_alloc _ _ _ (by omega)]; exact xV
      have yY : Y.heap[V.heap.size]? = some (.cells #[.int .i64 k1, .string n1, .slice ad1 l1 cp1] 25 (0, 0)) := by
        rw [hY]
        show (V.heap.push _)[V.heap.size]? = _
        simp
      obtain ⟨a0, a1, a2⟩ := heap_cells yY
      by_cases hnew : bs[j].1 ∉ (bs.take j).map (·.1)
      · have hlk := (hVs.on (bU.block _ hlV) (bU.mono (by omega))).look bs[j].1 hnl hnew
        simp only [zeroT] at hlk
        have CV := isVariable_any ⟨bs[j].1.toArray⟩ V (by show bs[j].1.toArray.size < _; simpa using hnl)
        rw [show (⟨bs[j].1.toArray⟩ : ByteArray).data.toList = bs[j].1 from rfl] at CV
        obtain ⟨u0, u1, u2, u3⟩ := cells_four xU
        obtain ⟨v0, v1, v2, v3⟩ := cells_four xV
        have hj5 : j ≤ 100000 := by omega
        have HBV : Hid (Below w.heap.size w V) := hbw.trans (bV.mono hbw.size)
        cases hvar : varB bs[j].1 with
        | false =>
          rw [hvar] at CV
          have HF : Hid (valE bs bs.length = 53) := HE1.out 53 (by rw [hbad, if_neg (fun h => by rw [hvar] at h; cases h.1)]) (by omega)
          generalize bs[j].1 = nj at *
          clear hel hcel T1 HP hgw hVs hbw hszw hlV hnew hS5 bU sU bV sV bY sY xU xV xY yY a0 a1 a2 HCL H0 HM hnl hbad HE0 hY
          go_upto_region 5 with fail
          rw [← hU]
          clear hU p0 p1 p2 p3
          go_upto_region 6 with fail
          rw [← hV]
          clear hV u0 u1 u2 u3 hlk
          go_wp2_with (go_at_call 83; (with_reducible refine Calls.mono CV ?_); rintro e' w4 ⟨rfl, rfl⟩)
          refine bodyPost_ret (v := .tuple #[.map none, .int .i64 53]) (by simp [results, Tryz.results67, go_sem]) rfl ?_
          exact ⟨HBV.out, .inr ⟨by rw [HF.out]; omega, by rw [HF.out]⟩⟩
        | true =>
          rw [hvar] at CV
          have hbc : badAt bs j = wrongT bs[j].2.1 bs[j].2.2 := by rw [hbad, if_pos ⟨hvar, hnew⟩]
          have CW := wrong_one bs[j].2.1 k1 n1 ad1 l1 cp1 bs[j].2.2 w Y B V.heap.size (by omega) (by omega) T1 ((hbw.trans (bY.mono hbw.size)).mono hB) (by omega) a0 a1 a2
          have HBY : Hid (∀ w5, Below Y.heap.size Y w5 → Below w.heap.size w w5) := fun w5 hb5 => hbw.trans ((bY.trans (hb5.mono (by omega))).mono hbw.size)
          have HUP : Hid (∀ w5, Below Y.heap.size Y w5 → (w5.cell? ⟨wr.heap.size, 0, none⟩ = some (.string ⟨bs[j].1.toArray⟩) ∧ w5.cell? ⟨wr.heap.size, 1, none⟩ = some (.int .i64 k1) ∧ w5.cell? ⟨wr.heap.size, 2, none⟩ = some (.string n1) ∧ w5.cell? ⟨wr.heap.size, 3, none⟩ = some (.slice ad1 l1 cp1)) ∧ ∃ w6, (Instr.mapUpdate 71 (.map (some w.heap.size)) (.string ⟨bs[j].1.toArray⟩) (.agg #[.int .i64 k1, .string n1, .slice ad1 l1 cp1])).run Tryz.prog w5 = .ok () w6 ∧ w.grownBy w6 (some w.heap.size) ∧ Vs w6 w.heap.size B (bs.take (j + 1))) := fun w5 hb5 => by
            have b5 : Below wr.heap.size wr w5 := bY.trans (hb5.mono (by omega))
            obtain ⟨w6, r1, r2, r3⟩ := (hVs.on (b5.block _ hlV) (b5.mono (by omega))).put (x := bs[j]) hB (by rw [List.length_take]; omega) hnl hnew (T1.on ((hbw.trans (b5.mono hbw.size)).mono hB))
            refine ⟨cells_four ((hb5.block _ (lt_of_heap xY)).trans xY), w6, r1, grown_trans hgw (grown_trans (grown_of_below b5) r3), ?_⟩
            rw [List.take_succ_eq_append_getElem hlt]
            exact r2
          by_cases hwr : wrongT bs[j].2.1 bs[j].2.2 = 0
          · rw [hwr] at CW hbc
            have HE2 : Hid (valE bs (j + 1) = 0) := valE_next HE0.out hbc
            generalize bs[j].1 = nj at *
            clear hel hcel T1 HP hgw hVs hbw hszw hlV hnew hS5 bU sU bV sV bY sY xU xV xY yY a0 a1 a2 HCL H0 HM hnl hbad HE0 hwr hbc
            go_upto_region 5 with fail
            rw [← hU]
            clear hU p0 p1 p2 p3
            go_upto_region 6 with fail
            rw [← hV]
            clear hV u0 u1 u2 u3 hlk
            go_wp2_with (first
              | (go_at_call 83; (with_reducible refine Calls.mono CV ?_); rintro e' w4 ⟨rfl, rfl⟩)
              | (rw [← hY]; go_at_call 31; (with_reducible refine Calls.mono CW ?_); rintro e' w5 ⟨rfl, hb5⟩; obtain ⟨⟨s0, s1, s2, s3⟩, w6, hup, HG6⟩ := HUP.out w5 hb5; have HG6 : Hid (w.grownBy w6 (some w.heap.size) ∧ Vs w6 w.heap.size B (bs.take (j + 1))) := HG6))
            go_roundw
            case rel => exact ⟨j + 1, by omega, by go_num, HG6.out, HE2.out⟩
            case measure => simp [intOf]; omega
          · have HF : Hid (valE bs bs.length = wrongT bs[j].2.1 bs[j].2.2 ∧ wrongT bs[j].2.1 bs[j].2.2 ≠ 0) := ⟨HE1.out _ hbc hwr, hwr⟩
            have hcb : (wrongT bs[j].2.1 bs[j].2.2 != 0) = true := by simpa using hwr
            generalize wrongT bs[j].2.1 bs[j].2.2 = c at *
            generalize bs[j].1 = nj at *
            clear hel hcel T1 HP hgw hVs hbw hszw hlV hnew hS5 bU sU bV sV bY sY xU xV xY yY a0 a1 a2 HCL H0 HM hnl hbad HE0 hwr hbc
            go_upto_region 5 with fail
            rw [← hU]
            clear hU p0 p1 p2 p3
            go_upto_region 6 with fail
            rw [← hV]
            clear hV u0 u1 u2 u3 hlk
            go_wp2_with (first
              | (go_at_call 83; (with_reducible refine Calls.mono CV ?_); rintro e' w4 ⟨rfl, rfl⟩)
              | (rw [← hY]; go_at_call 31; (with_reducible refine Calls.mono CW ?_); rintro e' w5 ⟨rfl, hb5⟩))
            refine bodyPost_ret (v := .tuple #[.map none, .int .i64 c]) (by simp [results, Tryz.results67, go_sem]) rfl ?_
            exact ⟨HBY.out _ hb5, .inr ⟨by rw [HF.out.1]; exact HF.out.2, by rw [HF.out.1]⟩⟩
      · have hmem := Decidable.not_not.1 hnew
        have HF : Hid (valE bs bs.length = 53) := HE1.out 53 (by rw [hbad, if_neg (fun h => h.2 hmem)]) (by omega)
        obtain ⟨s, hMv, hsay⟩ := hVs.on (bU.block _ hlV) (bU.mono (by omega))
        have hlk := hMv.look bs[j].1 hnl
        rcases hsay bs[j].1 with ⟨_, e2⟩ | ⟨v, u, e1, e2, hTv⟩
        · exact absurd hmem (says_none e2)
        · rw [e1] at hlk
          simp only [Option.getD_some, Option.isSome_some] at hlk
          obtain ⟨k9, n9, ad9, l9, c9, rfl⟩ := tree_form hTv
          obtain ⟨u0, u1, u2, u3⟩ := cells_four xU
          have HBU : Hid (∀ o, Below w.heap.size w (U.alloc o)) := fun o => hbw.trans ((bU.alloc bU.size o).mono hbw.size)
          generalize bs[j].1 = nj at *
          clear hel hcel T1 HP hgw hVs hbw hszw hlV hnew hS5 bU sU bV sV bY sY xU xV xY yY a0 a1 a2 HCL H0 HM hnl hbad HE0 hmem hMv hsay e1 e2 hTv hV hY
          go_upto_region 5 with fail
          rw [← hU]
          clear hU p0 p1 p2 p3
          go_wp2_with fail
          refine bodyPost_ret (v := .tuple #[.map none, .int .i64 53]) (by simp [results, Tryz.results67, go_sem]) rfl ?_
          exact ⟨HBU.out _, .inr ⟨by rw [HF.out]; omega, by rw [HF.out]⟩⟩
    · have h1 : ¬ (j : Int) < (bs.length : Int) := by omega
      have HE : Hid (w.grownBy wr (some w.heap.size) ∧ Vs wr w.heap.size B bs) := by
        have := HP.out
        rw [List.take_of_length_le (by omega)] at this
        exact this
      have HV0 : Hid (valE bs bs.length = 0) := by have := HE0.out; rw [show j = bs.length by omega] at this; exact this
      clear HP H0 HCL HM HE0
      go_wp2
      obtain ⟨hg, hV⟩ := HE.out
      refine bodyPost_ret (v := .tuple #[.map (some w.heap.size), .int .i64 0]) (by simp [results, Tryz.results67, go_sem]) rfl ?_
      exact ⟨⟨hg.os, hg.tape, hg.output, hg.size, fun g hg' => hg.block g hg' (fun e => by cases e; omega)⟩, .inl ⟨HV0.out, rfl, hV.lt, hV⟩⟩
end Go.Proofs.YthcejnpknjepfaaGreat

namespace Go.Proofs.YthcejnpknjepfaaGreat
open Go.RowKit

/-- A bound's type is stored. -/
theorem storeB_at {U : World} {G j N : Nat} {cur : Array Value} (h : U.heap[G]? = some (.cells cur 47 (0, 0))) (hs : cur.size = N * 4) (hj : j < N) (a b c : Value) : ∃ W cur', W = ((U.setCell ⟨G, j * 4 + 1, none⟩ a).setCell ⟨G, j * 4 + 2, none⟩ b).setCell ⟨G, j * 4 + 3, none⟩ c ∧ W.heap[G]? = some (.cells cur' 47 (0, 0)) ∧ cur'.size = N * 4 ∧
    (W.cell? ⟨G, j * 4 + 1, none⟩ = some a ∧ W.cell? ⟨G, j * 4 + 2, none⟩ = some b ∧ W.cell? ⟨G, j * 4 + 3, none⟩ = some c) ∧ (∀ x, x < j * 4 + 1 ∨ j * 4 + 3 < x → W.cell? ⟨G, x, none⟩ = U.cell? ⟨G, x, none⟩) ∧ (∀ g, g ≠ G → W.heap[g]? = U.heap[g]?) ∧ W.heap.size = U.heap.size ∧ Below G U W := by
  have h3 := setCell_block (i := j * 4 + 3) (v := c) (setCell_block (i := j * 4 + 2) (v := b) (setCell_block (i := j * 4 + 1) (v := a) h))
  refine ⟨_, _, rfl, h3, by simpa using hs, ⟨?_, ?_, ?_⟩, fun x hx => ?_, fun g hg => ?_, by simp [World.setCell], (((Below.refl G U).setCell (Nat.le_refl _) a).setCell (Nat.le_refl _) b).setCell (Nat.le_refl _) c⟩
  · rw [cell_block h3, Array.getElem?_setIfInBounds_ne (by omega), Array.getElem?_setIfInBounds_ne (by omega), Array.getElem?_setIfInBounds_self_of_lt (by omega)]
  · rw [cell_block h3, Array.getElem?_setIfInBounds_ne (by omega), Array.getElem?_setIfInBounds_self_of_lt (by simp; omega)]
  · rw [cell_block h3, Array.getElem?_setIfInBounds_self_of_lt (by simp; omega)]
  · rw [cell_block h3, cell_block h, Array.getElem?_setIfInBounds_ne (by omega), Array.getElem?_setIfInBounds_ne (by omega), Array.getElem?_setIfInBounds_ne (by omega)]
  · rw [Below.heap_setCell _ _ _ _ hg, Below.heap_setCell _ _ _ _ hg, Below.heap_setCell _ _ _ _ hg]
/-- A bound's name is stored. -/
theorem nameB_at {U : World} {G j N : Nat} {cur : Array Value} (h : U.heap[G]? = some (.cells cur 47 (0, 0))) (hs : cur.size = N * 4) (hj : j < N) (a : Value) : ∃ W cur', W = U.setCell ⟨G, j * 4, none⟩ a ∧ W.heap[G]? = some (.cells cur' 47 (0, 0)) ∧ cur'.size = N * 4 ∧
    W.cell? ⟨G, j * 4, none⟩ = some a ∧ (∀ x, x ≠ j * 4 → W.cell? ⟨G, x, none⟩ = U.cell? ⟨G, x, none⟩) ∧ (∀ g, g ≠ G → W.heap[g]? = U.heap[g]?) ∧ W.heap.size = U.heap.size ∧ Below G U W := by
  have h3 := setCell_block (i := j * 4) (v := a) h
  refine ⟨_, _, rfl, h3, by simpa using hs, ?_, fun x hx => ?_, fun g hg => ?_, by simp [World.setCell], (Below.refl G U).setCell (Nat.le_refl _) a⟩
  · rw [cell_block h3, Array.getElem?_setIfInBounds_self_of_lt (by omega)]
  · rw [cell_block h3, cell_block h, Array.getElem?_setIfInBounds_ne (by omega)]
  · rw [Below.heap_setCell _ _ _ _ hg]
/-- So many bounds of a row that was lent: names, lent trees; marks behind. -/
structure LbW (w wr : World) (G : Nat) (bs : List Bd) (j : Nat) (E : Nat → El) : Prop where
  bel : Below G w wr
  row : ∃ cur, wr.heap[G]? = some (.cells cur 47 (0, 0)) ∧ cur.size = (bs.length + 3) * 4
  cel : ∀ i, i < j → wr.cell? ⟨G, i * 4 + 1, none⟩ = some (.int .i64 (E i).1) ∧ wr.cell? ⟨G, i * 4 + 2, none⟩ = some (.string (E i).2.1) ∧ wr.cell? ⟨G, i * 4 + 3, none⟩ = some (E i).2.2
  nam : ∀ i (h : i < bs.length), i < j → wr.cell? ⟨G, i * 4, none⟩ = some (.string ⟨bs[i].1.toArray⟩)
  tre : ∀ i (h : i < bs.length), i < j → TyL wr (fun g => G < g ∧ g < wr.heap.size) bs[i].2.1 (elV (E i)) bs[i].2.2
  mrk : ∀ i, bs.length ≤ i → i < j → E i = markE
theorem LbW.below {w wr w' : World} {G : Nat} {bs : List Bd} {j : Nat} {E : Nat → El} (h : LbW w wr G bs j E) (hb : Below wr.heap.size wr w') : LbW w w' G bs j E := by
  obtain ⟨cur, hr, hs⟩ := h.row
  have hG := heap_lt hr
  refine ⟨h.bel.trans (hb.mono (by omega)), ⟨cur, (hb.block _ hG).trans hr, hs⟩, fun i hi => ?_, fun i hi hij => (hb.cell (p := ⟨G, i * 4, none⟩) hG).trans (h.nam i hi hij), fun i hi hij => TyL.on (fun g q => ⟨q.1, Nat.lt_of_lt_of_le q.2 hb.size⟩) (fun g q => hb.block g q.2) _ _ _ (h.tre i hi hij), h.mrk⟩
  obtain ⟨a, b, c⟩ := h.cel i hi
  exact ⟨(hb.cell (p := ⟨G, i * 4 + 1, none⟩) hG).trans a, (hb.cell (p := ⟨G, i * 4 + 2, none⟩) hG).trans b, (hb.cell (p := ⟨G, i * 4 + 3, none⟩) hG).trans c⟩
theorem LbW.spoil {w wr W : World} {G : Nat} {bs : List Bd} {j : Nat} {E : Nat → El} (h : LbW w wr G bs j E) (hj : j < bs.length + 3) (a b c : Value)
    (hW : W = ((wr.setCell ⟨G, j * 4 + 1, none⟩ a).setCell ⟨G, j * 4 + 2, none⟩ b).setCell ⟨G, j * 4 + 3, none⟩ c) : LbW w W G bs j E := by
  obtain ⟨cur, hr, hs⟩ := h.row
  obtain ⟨W', cur', hW', hr', hs', _, hfar, hoth, hsz, hb⟩ := storeB_at hr hs hj a b c
  rw [← hW'] at hW
  subst hW
  refine ⟨h.bel.trans hb, ⟨cur', hr', hs'⟩, fun i hi => ?_, fun i hi hij => (hfar _ (by omega)).trans (h.nam i hi hij), fun i hi hij => TyL.on (fun g q => ⟨q.1, by rw [hsz]; exact q.2⟩) (fun g q => hoth g (by omega)) _ _ _ (h.tre i hi hij), h.mrk⟩
  obtain ⟨a, b, c⟩ := h.cel i hi
  exact ⟨(hfar _ (by omega)).trans a, (hfar _ (by omega)).trans b, (hfar _ (by omega)).trans c⟩
theorem LbW.name {w wr W : World} {G : Nat} {bs : List Bd} {j : Nat} {E : Nat → El} (h : LbW w wr G bs j E) (hj : j < bs.length + 3) (a : Value) (hW : W = wr.setCell ⟨G, j * 4, none⟩ a) : LbW w W G bs j E ∧ W.cell? ⟨G, j * 4, none⟩ = some a := by
  obtain ⟨cur, hr, hs⟩ := h.row
  obtain ⟨W', cur', hW', hr', hs', h0, hfar, hoth, hsz, hb⟩ := nameB_at hr hs hj a
  rw [← hW'] at hW
  subst hW
  refine ⟨⟨h.bel.trans hb, ⟨cur', hr', hs'⟩, fun i hi => ?_, fun i hi hij => (hfar _ (by omega)).trans (h.nam i hi hij), fun i hi hij => TyL.on (fun g q => ⟨q.1, by rw [hsz]; exact q.2⟩) (fun g q => hoth g (by omega)) _ _ _ (h.tre i hi hij), h.mrk⟩, h0⟩
  obtain ⟨a, b, c⟩ := h.cel i hi
  exact ⟨(hfar _ (by omega)).trans a, (hfar _ (by omega)).trans b, (hfar _ (by omega)).trans c⟩
theorem LbW.put {w wr W : World} {G : Nat} {bs : List Bd} {j : Nat} {E : Nat → El} (h : LbW w wr G bs j E) (hj : j < bs.length + 3) (e : El) (hn : ∀ (h : j < bs.length), wr.cell? ⟨G, j * 4, none⟩ = some (.string ⟨bs[j].1.toArray⟩)) (he : ∀ (h : j < bs.length), TyL wr (fun g => G < g ∧ g < wr.heap.size) bs[j].2.1 (elV e) bs[j].2.2) (hm : bs.length ≤ j → e = markE)
    (hW : W = ((wr.setCell ⟨G, j * 4 + 1, none⟩ (.int .i64 e.1)).setCell ⟨G, j * 4 + 2, none⟩ (.string e.2.1)).setCell ⟨G, j * 4 + 3, none⟩ e.2.2) : LbW w W G bs (j + 1) (fun i => if i = j then e else E i) := by
  obtain ⟨cur, hr, hs⟩ := h.row
  obtain ⟨W', cur', hW', hr', hs', ⟨c0, c1, c2⟩, hfar, hoth, hsz, hb⟩ := storeB_at hr hs hj (.int .i64 e.1) (.string e.2.1) e.2.2
  rw [← hW'] at hW
  subst hW
  have mv : ∀ (d : Nat) (x : Value) (t : Tn d), TyL wr (fun g => G < g ∧ g < wr.heap.size) d x t → TyL W (fun g => G < g ∧ g < W.heap.size) d x t := fun d x t ht => TyL.on (fun g q => ⟨q.1, by rw [hsz]; exact q.2⟩) (fun g q => hoth g (by omega)) _ _ _ ht
  refine ⟨h.bel.trans hb, ⟨cur', hr', hs'⟩, fun i hi => ?_, fun i hi hij => ?_, fun i hi hij => ?_, fun i hi hij => ?_⟩
  · by_cases q : i = j
    · subst q
      simp only [if_pos]
      exact ⟨c0, c1, c2⟩
    · simp only [if_neg q]
      obtain ⟨a, b, c⟩ := h.cel i (by omega)
      exact ⟨(hfar _ (by omega)).trans a, (hfar _ (by omega)).trans b, (hfar _ (by omega)).trans c⟩
  · by_cases q : i = j
    · subst q
      exact (hfar _ (by omega)).trans (hn hi)
    · exact (hfar _ (by omega)).trans (h.nam i hi (by omega))
  · by_cases q : i = j
    · subst q
      simp only [if_pos]
      exact mv _ _ _ (he hi)
    · simp only [if_neg q]
      exact mv _ _ _ (h.tre i hi (by omega))
  · by_cases q : i = j
    · subst q
      simp only [if_pos]
      exact hm hi
    · simp only [if_neg q]
      exact h.mrk i hi (by omega)
theorem LbW.cells {w wr : World} {G : Nat} {bs : List Bd} {j : Nat} {E : Nat → El} (h : LbW w wr G bs j E) {i : Nat} (hi : i < bs.length + 3) : (∃ a b c d, wr.cell? ⟨G, i * 4, none⟩ = some a ∧ wr.cell? ⟨G, i * 4 + 1, none⟩ = some b ∧ wr.cell? ⟨G, i * 4 + 2, none⟩ = some c ∧ wr.cell? ⟨G, i * 4 + 3, none⟩ = some d) ∧ ∀ x, wr.frozen? ⟨G, x, none⟩ = false := by
  obtain ⟨cur, hr, hs⟩ := h.row
  exact ⟨⟨cur[i * 4], cur[i * 4 + 1], cur[i * 4 + 2], cur[i * 4 + 3], (cell_block hr).trans (Array.getElem?_eq_getElem (by omega)), (cell_block hr).trans (Array.getElem?_eq_getElem (by omega)), (cell_block hr).trans (Array.getElem?_eq_getElem (by omega)), (cell_block hr).trans (Array.getElem?_eq_getElem (by omega))⟩, fun x => frozen_block hr⟩
set_option maxHeartbeats 16000000 in
set_option maxRecDepth 10000 in
theorem lentB_any (bs : List Bd) (v : Value) (w : World) (B : Nat) (hB : B ≤ w.heap.size) (hv : BdAt w B v bs) (hl : bs.length ≤ 4194304) (hM : ∀ x ∈ bs, (flat x.2.1 x.2.2).length ≤ 4194304) :
    Calls Tryz.prog 20 #[v] w fun r w' => r = .returned (.slice (some ⟨w.heap.size, 0, none⟩) (bs.length + 3) (bs.length + 3)) ∧ ∃ E, LbW w w' w.heap.size bs (bs.length + 3) E := by
  obtain ⟨i0, hi, hz0, hz1, hz2⟩ := info_parts Tryz.infoB47
  obtain ⟨adv, capv, rfl, _, _⟩ := id hv
  have HV : Hid (BdAt w B (.slice adv bs.length capv) bs) := hv
  have HM : Hid (∀ x ∈ bs, (flat x.2.1 x.2.2).length ≤ 4194304) := hM
  have HB : Hid (B ≤ w.heap.size) := hB
  have hb64 : i0.bytes * (bs.length + 3) ≤ 281474976710656 := by rw [hz2]; omega
  clear hv hM hB
  go_enter Tryz.func20, Tryz.ntmps20
  go_wp2_with (refine wpList_make_room _ rfl _ _ 36 rfl 47 i0 _ 4 Tryz.underlying36 hi hz0 hz1 .i64 .i64 ((bs.length : Int) + 3) ((bs.length : Int) + 3) (bs.length + 3) (bs.length + 3) rfl rfl (by omega) (by omega) (Nat.le_refl _) hb64 (by unfold maxLen; omega) ?_; intro w' G hG hsz' hbG hcur)
  subst hG
  have T0 : LbW w w' w.heap.size bs 0 (fun _ => markE) := ⟨hbG, hcur, fun i hi => by omega, fun i _ hi => by omega, fun i _ hi => by omega, fun i _ hi => by omega⟩
  clear hcur hbG hsz'
  generalize hz : w.heap.size = G at T0 ⊢
  have HG : Hid (w.heap.size = G) := hz
  clear hz
  go_loopw [4] (fun iv wr => ∃ (j : Nat) (E : Nat → El), j ≤ bs.length + 3 ∧ iv = .int .i64 j ∧ LbW w wr G bs j E) (fun iv _ => bs.length + 3 - (intOf iv).toNat)
  case atStart => exact ⟨0, _, by omega, by go_num, T0⟩
  case round =>
    obtain ⟨j, E, hj, rfl, T⟩ := hrel
    clear T0
    have hjb : (j : Int) ≤ 5000000 := by omega
    have j0 : (0 : Int) ≤ (j : Int) := by omega
    by_cases hlt : j < bs.length + 3
    · have hlt' : (j : Int) < (bs.length : Int) + 3 := by omega
      have hlt2 : (j : Int) < ((bs.length + 3 : Nat) : Int) := by omega
      have M1 := mark_any wr
      have hjl : j + 1 ≤ bs.length + 3 := hlt
      by_cases hin : j < bs.length
      · have hin' : (j : Int) < (bs.length : Int) := by omega
        go_upto_region 6 with (first
          | (go_at_call 33; (with_reducible refine Calls.mono M1 ?_); rintro e' w1 ⟨rfl, hb1⟩; have T1 := T.below hb1; obtain ⟨⟨x0, x1, x2, x3, y0, y1, y2, y3⟩, fz⟩ := T1.cells hlt; have f1 := fz (j * 4 + 1); have f2 := fz (j * 4 + 2); have f3 := fz (j * 4 + 3); clear fz))
        obtain ⟨W2, hW2⟩ : ∃ W2, W2 = ((w1.setCell ⟨G, j * 4 + 1, none⟩ (.int .i64 (-77))).setCell ⟨G, j * 4 + 1 + 1, none⟩ (.string ⟨#[98, 101, 104, 105, 110, 100]⟩)).setCell ⟨G, j * 4 + 1 + 2, none⟩ (.slice none 0 0) := ⟨_, rfl⟩
        have T2 := T1.spoil hlt _ _ _ hW2
        rw [← hW2]
        clear hW2 T1 T y0 y1 y2 y3 f1 f2 f3 M1 hb1
        have hGz := HG.out
        obtain ⟨g, o, cap', k1, n1, ad1, l1, cp1, hve, hbl, hgB, hnl, hc, hT⟩ := HV.out.type j hin
        simp only [Value.slice.injEq, true_and] at hve
        obtain ⟨rfl, rfl⟩ := hve
        have hBG : B ≤ G := by have := HB.out; omega
        obtain ⟨c0, c1, c2, c3⟩ := hc W2 (T2.bel.mono hBG)
        obtain ⟨⟨x0, x1, x2, x3, y0, y1, y2, y3⟩, fz⟩ := T2.cells hlt
        have f0 := fz (j * 4)
        obtain ⟨W3, hW3⟩ : ∃ W3, W3 = W2.setCell ⟨G, j * 4, none⟩ (.string ⟨bs[j].1.toArray⟩) := ⟨_, rfl⟩
        obtain ⟨T3, N3⟩ := T2.name hlt _ hW3
        obtain ⟨_, d1, d2, d3⟩ := hc W3 (T3.bel.mono hBG)
        have hGW : G < W3.heap.size := by obtain ⟨cur, hr, _⟩ := T3.row; exact heap_lt hr
        have CJ := lent_any _ _ bs[j].2.2 W3 B (by omega) (hT.on (T3.bel.mono hBG)) (HM.out _ (List.getElem_mem hin))
        have HT3 : Hid (LbW w W3 G bs j E ∧ W3.cell? ⟨G, j * 4, none⟩ = some (.string ⟨bs[j].1.toArray⟩)) := ⟨T3, N3⟩
        clear hc hT T2 T3 N3 y1 y2 y3 fz c1 c2 c3
        go_upto_region 8 with fail
        rw [← hW3]
        clear hW3 y0 f0 c0
        go_wp2_with (first
          | (go_at_call 13; (with_reducible refine Calls.mono CJ ?_); intro e' w3 hpost; obtain ⟨hb3, k3, n3, ad3, l3, c3', rfl, L3⟩ := hpost; have T4 := HT3.out.1.below hb3; obtain ⟨⟨x0, x1, x2, x3, y0, y1, y2, y3⟩, fz⟩ := T4.cells hlt; have f1 := fz (j * 4 + 1); have f2 := fz (j * 4 + 2); have f3 := fz (j * 4 + 3); clear fz))
        have T5 := T4.put hlt (k3, n3, .slice ad3 l3 c3') (fun h => (hb3.cell (p := ⟨G, j * 4, none⟩) hGW).trans HT3.out.2) (fun h => TyL.on (S := fun g => W3.heap.size ≤ g ∧ g < w3.heap.size) (fun g q => ⟨by omega, q.2⟩) (fun _ _ => rfl) _ _ _ L3) (fun h => by omega) rfl
        go_roundw
        case rel => exact ⟨j + 1, _, hjl, by go_num, T5⟩
        case measure => simp [intOf]; omega
      · have hin' : ¬ (j : Int) < (bs.length : Int) := by omega
        go_upto_region 6 with (first
          | (go_at_call 33; (with_reducible refine Calls.mono M1 ?_); rintro e' w1 ⟨rfl, hb1⟩; have T1 := T.below hb1; obtain ⟨⟨x0, x1, x2, x3, y0, y1, y2, y3⟩, fz⟩ := T1.cells hlt; have f1 := fz (j * 4 + 1); have f2 := fz (j * 4 + 2); have f3 := fz (j * 4 + 3); clear fz))
        obtain ⟨W2, hW2⟩ : ∃ W2, W2 = ((w1.setCell ⟨G, j * 4 + 1, none⟩ (.int .i64 (-77))).setCell ⟨G, j * 4 + 1 + 1, none⟩ (.string ⟨#[98, 101, 104, 105, 110, 100]⟩)).setCell ⟨G, j * 4 + 1 + 2, none⟩ (.slice none 0 0) := ⟨_, rfl⟩
        have T2 := T1.put hlt markE (fun h => absurd h hin) (fun h => absurd h hin) (fun _ => rfl) hW2
        rw [← hW2]
        clear hW2 T1 T y0 y1 y2 y3 f1 f2 f3 M1 hb1
        go_wp2
        go_roundw
        case rel => exact ⟨j + 1, _, hjl, by go_num, T2⟩
        case measure => simp [intOf]; omega
    · have ej : j = bs.length + 3 := by omega
      have hlt2 : ¬ (j : Int) < (bs.length : Int) + 3 := by omega
      have hlt3 : ¬ (j : Int) < ((bs.length + 3 : Nat) : Int) := by omega
      rw [ej] at T
      have HT : Hid (LbW w wr G bs (bs.length + 3) E) := T
      have HEJ : Hid (j = bs.length + 3) := ej
      clear T ej
      go_wp2
      refine bodyPost_ret (v := .slice (some ⟨G, 0, none⟩) (bs.length + 3) (bs.length + 3)) (by simp [results, Tryz.results20, go_sem]) rfl ?_
      rw [HG.out]
      exact ⟨rfl, E, HT.out⟩
end Go.Proofs.YthcejnpknjepfaaGreat
