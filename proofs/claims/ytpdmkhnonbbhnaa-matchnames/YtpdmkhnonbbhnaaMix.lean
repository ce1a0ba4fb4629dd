/- The first column that has a row: the closure, slices.IndexFunc. Trees of switches in memory; what a call of tree does. -/
import Derived.Test.YtpdmkhnonbbhnaaMhx
namespace Go.Proofs.Ytpdmkhnonbbhnaa
open Go.RowKit Go.Maps

set_option maxHeartbeats 4000000 in
set_option maxRecDepth 10000 in
theorem has_any {w : World} {S : Nat → Prop} (cb Rb g o n cap r : Nat) (c : Col) (hc : ColP w S cb c) (hb : w.cell? ⟨Rb, 0, none⟩ = some (.slice (some ⟨g, o, none⟩) n cap)) (hr : w.cell? ⟨g, o, none⟩ = some (.int .i64 r)) (hn : 0 < n) (hlt : r < 200) :
    Calls Try.prog 34 #[.pointer (some ⟨cb, 0, none⟩), .pointer (some ⟨Rb, 0, none⟩)] w fun e w' => e = .returned (.bool (hasRow r c)) ∧ ∃ q, w' = w.drewN q := by
  obtain ⟨_, _, _, _, hh⟩ := hc
  have hh2 := hh r hlt
  clear hh
  have n1 : (0 : Int) < (n : Int) := by omega
  have r1 : (0 : Int) ≤ (r : Int) := by omega
  have r2 : (r : Int) < 200 := by omega
  generalize hasRow r c = R at hh2 ⊢
  go_enter Try.func34, Try.ntmps34
  go_wp2
  go_quiet (fail)
  all_goals
    go_wp2
    go_ret
    exact ⟨rfl, _, rfl⟩
def idx (o : Option Nat) : Int := match o with
  | some i => i
  | none => -1
set_option maxHeartbeats 4000000 in
set_option maxRecDepth 10000 in
theorem index_any {w : World} {S : Nat → Prop} (cv : Value) (cols : List Col) (Rb g o n cap r : Nat) (hc : Cols w S cv cols) (hb : w.cell? ⟨Rb, 0, none⟩ = some (.slice (some ⟨g, o, none⟩) n cap)) (hr : w.cell? ⟨g, o, none⟩ = some (.int .i64 r)) (hn : 0 < n) (hlt : r < 200) (hl : cols.length ≤ 100000) :
    Calls Try.prog 33 #[cv, .func (.func 34) #[] #[.pointer (some ⟨Rb, 0, none⟩)]] w fun e w' => e = .returned (.int .i64 (idx (cols.findIdx? (hasRow r)))) ∧ ∃ q, w' = w.drewN q := by
  obtain ⟨ad, cc, rfl, hcol⟩ := RowP.open hc
  have HC : Hid (cols ≠ [] → ∃ g o, ad = some ⟨g, o, none⟩ ∧ cols.length ≤ cc ∧ ∀ j (h : j < cols.length), S g ∧ ∃ cb, w.cell? ⟨g, o + j * 1, none⟩ = some (.pointer (some ⟨cb, 0, none⟩)) ∧ ColP w S cb cols[j]) := hcol
  have HF : Hid (∀ i (h : i < cols.length), (∀ j, j < i → ∀ (hj : j < cols.length), hasRow r cols[j] = false) → hasRow r cols[i] = true → cols.findIdx? (hasRow r) = some i) := fun i h h1 h2 => by
    rw [List.findIdx?_eq_some_iff_getElem]
    exact ⟨h, h2, fun j hj => by simpa using h1 j hj (by omega)⟩
  have HN : Hid ((∀ j (hj : j < cols.length), hasRow r cols[j] = false) → cols.findIdx? (hasRow r) = none) := fun h => by
    rw [List.findIdx?_eq_none_iff]
    intro x hx
    obtain ⟨j, hj, rfl⟩ := List.getElem_of_mem hx
    exact h j hj
  have HA : Hid (w.cell? ⟨Rb, 0, none⟩ = some (.slice (some ⟨g, o, none⟩) n cap) ∧ w.cell? ⟨g, o, none⟩ = some (.int .i64 r)) := ⟨hb, hr⟩
  clear hc hcol hb hr
  go_enter Try.func33, Try.ntmps33
  go_wp2
  go_loopw [8] (fun iv wr => ∃ (i q : Nat), i ≤ cols.length ∧ iv = .int .i64 i ∧ wr = w.drewN q ∧ Hid (∀ j, j < i → ∀ (hj : j < cols.length), hasRow r cols[j] = false)) (fun iv _ => cols.length - (intOf iv).toNat)
  case atStart => exact ⟨0, 0, by omega, by go_num, rfl, fun j h => by omega⟩
  case round =>
    obtain ⟨i, q, hi, rfl, rfl, HJ⟩ := hrel
    by_cases hil : i < cols.length
    · obtain ⟨gg, oo, rfl, hcc, hj⟩ := HC.out (fun e => by rw [e] at hil; simp at hil)
      obtain ⟨_, cb, p, hcol⟩ := hj i hil
      rw [Nat.mul_one] at p
      have p : (w.drewN q).cell? ⟨gg, oo + i, none⟩ = some (.pointer (some ⟨cb, 0, none⟩)) := p
      have CH := has_any (w := w.drewN q) cb Rb g o n cap r cols[i] (hcol.on fun _ _ => rfl) HA.out.1 HA.out.2 hn hlt
      have i1 : (0 : Int) ≤ (i : Int) := by omega
      have i2 : (i : Int) < (cols.length : Int) := by omega
      have HT : Hid (hasRow r cols[i] = true → cols.findIdx? (hasRow r) = some i) := HF.out i hil HJ.out
      have HE : Hid (hasRow r cols[i] = false → ∀ j, j < i + 1 → ∀ (hj : j < cols.length), hasRow r cols[j] = false) := fun h j hj hjl => by
        by_cases e : j = i
        · subst e; exact h
        · exact HJ.out j (by omega) hjl
      generalize hasRow r cols[i] = R at *
      clear hj hcol
      cases R with
      | true =>
        have HT2 : Hid (cols.findIdx? (hasRow r) = some i) := HT.out rfl
        go_wp2_with (go_at_call 34; (with_reducible refine Calls.mono CH ?_); rintro e' w1 ⟨rfl, q1, rfl⟩)
        go_ret
        exact ⟨by rw [HT2.out]; rfl, q + q1, by simp [World.drewN]⟩
      | false =>
        have HE2 : Hid (∀ j, j < i + 1 → ∀ (hj : j < cols.length), hasRow r cols[j] = false) := HE.out rfl
        go_wp2_with (go_at_call 34; (with_reducible refine Calls.mono CH ?_); rintro e' w1 ⟨rfl, q1, rfl⟩)
        go_roundw
        case rel => exact ⟨i + 1, q + q1, hil, by go_num, by simp [World.drewN], HE2.out⟩
        case measure => simp [intOf]; omega
    · have HT2 : Hid (cols.findIdx? (hasRow r) = none) := HN.out (fun j hj => HJ.out j (by omega) hj)
      go_wp2
      go_ret
      exact ⟨by rw [HT2.out]; rfl, q, rfl⟩
end Go.Proofs.Ytpdmkhnonbbhnaa

namespace Go.Proofs.Ytpdmkhnonbbhnaa
open Go.RowKit Go.Maps

/-- The value x is the tree t; the blocks that it leads to are of S. -/
def TrV (w : World) (S : Nat → Prop) : (f : Nat) → Value → Tr f → Prop
  | 0, x, _ => x = .agg #[.int .i64 0, .int .i64 0, .slice none 0 0, .slice none 0 0, .slice none 0 0]
  | f + 1, x, t => ∃ pa pc ca cc ea ec, x = .agg #[.int .i64 t.1.1, .int .i64 t.1.2.1, .slice pa t.1.2.2.length pc, .slice ca t.2.1.length cc, .slice ea t.2.2.length ec] ∧ Nats w S (.slice pa t.1.2.2.length pc) t.1.2.2 ∧
    RowP 7 (fun g o (c : Cs × Tr f) => S g ∧ w.cell? ⟨g, o, none⟩ = some (.string ⟨c.1.1.toArray⟩) ∧ w.cell? ⟨g, o + 1, none⟩ = some (.int .i64 c.1.2) ∧ c.1.1.length < 140737488355328 ∧ ∃ v0 v1 v2 v3 v4, w.cell? ⟨g, o + 2, none⟩ = some v0 ∧ w.cell? ⟨g, o + 3, none⟩ = some v1 ∧ w.cell? ⟨g, o + 4, none⟩ = some v2 ∧ w.cell? ⟨g, o + 5, none⟩ = some v3 ∧ w.cell? ⟨g, o + 6, none⟩ = some v4 ∧ TrV w S f (.agg #[v0, v1, v2, v3, v4]) c.2) (.slice ca t.2.1.length cc) t.2.1 ∧
    RowP 5 (fun g o (e : Tr f) => S g ∧ ∃ v0 v1 v2 v3 v4, w.cell? ⟨g, o, none⟩ = some v0 ∧ w.cell? ⟨g, o + 1, none⟩ = some v1 ∧ w.cell? ⟨g, o + 2, none⟩ = some v2 ∧ w.cell? ⟨g, o + 3, none⟩ = some v3 ∧ w.cell? ⟨g, o + 4, none⟩ = some v4 ∧ TrV w S f (.agg #[v0, v1, v2, v3, v4]) e) (.slice ea t.2.2.length ec) t.2.2
theorem TrV.below {w w' : World} {S S' : Nat → Prop} (hb : Keeps S w w') (hS : ∀ b, S b → S' b) : ∀ (f : Nat) (x : Value) (t : Tr f), TrV w S f x t → TrV w' S' f x t
  | 0, _, _, h => h
  | f + 1, _, _, ⟨pa, pc, ca, cc, ea, ec, h1, h2, h3, h4⟩ => by
    refine ⟨pa, pc, ca, cc, ea, ec, h1, (h2.on hb).up hS, h3.mono fun g o c _ => ?_, h4.mono fun g o e _ => ?_⟩
    · rintro ⟨k0, k1, k2, k3, v0, v1, v2, v3, v4, c0, c1, c2, c3, c4, ht⟩
      exact ⟨hS _ k0, (hb.cell (p := ⟨g, o, none⟩) k0).trans k1, (hb.cell (p := ⟨g, o + 1, none⟩) k0).trans k2, k3, v0, v1, v2, v3, v4, (hb.cell (p := ⟨g, o + 2, none⟩) k0).trans c0, (hb.cell (p := ⟨g, o + 3, none⟩) k0).trans c1, (hb.cell (p := ⟨g, o + 4, none⟩) k0).trans c2, (hb.cell (p := ⟨g, o + 5, none⟩) k0).trans c3, (hb.cell (p := ⟨g, o + 6, none⟩) k0).trans c4, TrV.below hb hS f _ _ ht⟩
    · rintro ⟨k0, v0, v1, v2, v3, v4, c0, c1, c2, c3, c4, ht⟩
      exact ⟨hS _ k0, v0, v1, v2, v3, v4, (hb.cell (p := ⟨g, o, none⟩) k0).trans c0, (hb.cell (p := ⟨g, o + 1, none⟩) k0).trans c1, (hb.cell (p := ⟨g, o + 2, none⟩) k0).trans c2, (hb.cell (p := ⟨g, o + 3, none⟩) k0).trans c3, (hb.cell (p := ⟨g, o + 4, none⟩) k0).trans c4, TrV.below hb hS f _ _ ht⟩
/-- A tree's value has five parts of one cell. -/
theorem TrV.parts {w : World} {S : Nat → Prop} : ∀ {f : Nat} {x : Value} {t : Tr f}, TrV w S f x t → ∃ a b pa pl pc ca cl cc ea el ec, x = .agg #[.int .i64 a, .int .i64 b, .slice pa pl pc, .slice ca cl cc, .slice ea el ec]
  | 0, _, _, h => ⟨0, 0, none, 0, 0, none, 0, 0, none, 0, 0, h⟩
  | _ + 1, _, _, ⟨pa, pc, ca, cc, ea, ec, h1, _⟩ => ⟨_, _, pa, _, pc, ca, _, cc, ea, _, ec, h1⟩
theorem trZero_at (w : World) (S : Nat → Prop) : ∀ f, TrV w S f (.agg #[.int .i64 0, .int .i64 0, .slice none 0 0, .slice none 0 0, .slice none 0 0]) (trZero f)
  | 0 => rfl
  | _ + 1 => ⟨none, 0, none, 0, none, 0, rfl, .inl ⟨rfl, _, _, rfl⟩, .inl ⟨rfl, _, _, rfl⟩, .inl ⟨rfl, _, _, rfl⟩⟩
/-- What a call of tree is asked, and what it does: m is the maker's block, n the nodes that were counted. -/
structure TreeIn (k : Kn) (fs : List Fam) (fa : Option Addr) (fc b m : Nat) (f n : Nat) (cols : List Col) (rows : List Nat) (cv rv : Value) (S : Nat → Prop) (w : World) : Prop where
  fuel : 5001 ≤ n + f ∧ f ≤ 5001
  cnt : n ≤ 1010202
  blk : w.heap[m]? = some (.cells #[.slice fa fs.length fc, .map (some b), .int .i64 n] 65 (0, 0))
  set : ∀ x, S x → x < w.heap.size ∧ x ≠ m
  map : MapK w b k
  mapne : b ≠ m
  fams : Fams w S (.slice fa fs.length fc) fs
  hcols : Cols w S cv cols
  hrows : Nats w S rv rows
  good : ∀ c ∈ cols, Good k (5002 - f) c
  num : cols.length ≤ 16 + 8 * (5001 - f)
  rise : rows.Pairwise (· < ·)
  low : ∀ r ∈ rows, r < 200
def TreeC (k : Kn) (fs : List Fam) (fa : Option Addr) (fc b m : Nat) (f : Nat) : Prop := ∀ (n : Nat) (cols : List Col) (rows : List Nat) (cv rv : Value) (S : Nat → Prop) (w : World), TreeIn k fs fa fc b m f n cols rows cv rv S w →
  Calls Try.prog 20 #[.pointer (some ⟨m, 0, none⟩), cv, rv] w fun r w' => Kx m w w' ∧ w'.heap[m]? = some (.cells #[.slice fa fs.length fc, .map (some b), .int .i64 (treeP k fs f n cols rows).2] 65 (0, 0)) ∧ ((5000 ≤ n → (treeP k fs f n cols rows).2 = n + 1) ∧ (n < 5000 → (treeP k fs f n cols rows).2 ≤ 5001 + 201 * f)) ∧
    ∃ x, r = .returned x ∧ TrV w' (fun b => w.heap.size ≤ b ∧ b < w'.heap.size) f x (treeP k fs f n cols rows).1
theorem eachP_snoc {α β : Type} (step : α → Nat → β × Nat) : ∀ (l : List α) (x : α) (n : Nat), eachP step (l ++ [x]) n = ((eachP step l n).1 ++ [(step x (eachP step l n).2).1], (step x (eachP step l n).2).2)
  | [], _, _ => rfl
  | a :: r, x, n => by
    rw [List.cons_append]
    unfold eachP
    rw [eachP_snoc step r x]
    rfl
theorem eachP_len {α β : Type} (step : α → Nat → β × Nat) : ∀ (l : List α) (n : Nat), (eachP step l n).1.length = l.length
  | [], _ => rfl
  | a :: r, n => by
    unfold eachP
    rw [List.length_cons, List.length_cons, eachP_len step r]
/-- What stands for one case. -/
def stepP (k : Kn) (fs : List Fam) (f : Nat) (cols : List Col) (rows : List Nat) (ax : Nat) (spots : List Sp) (path : List Nat) (x : Cs) (n : Nat) : Tr f × Nat :=
  treeP k fs f n (cols.take ax ++ within k (spots.filter (isOf x)) x.1 path ++ cols.drop (ax + 1)) (without rows (spots.filter fun s => !isOf x s))
def branchP (k : Kn) (fs : List Fam) (f n : Nat) (cols : List Col) (rows : List Nat) (ax : Nat) (c : Col) : Tr (f + 1) × Nat :=
  let spots := ofRows c.2.2 rows
  let path := c.1 ++ [c.2.1]
  let cs := casesOf k spots
  let a := eachP (stepP k fs f cols rows ax spots path) cs n
  if isFull k fs cs then (((3, 0, path), cs.zip a.1, []), a.2)
  else
    let e := treeP k fs f a.2 (cols.take ax ++ cols.drop (ax + 1)) (without rows spots)
    (((3, 0, path), cs.zip a.1, [e.1]), e.2)
theorem treeP_branch (k : Kn) (fs : List Fam) (f n : Nat) (cols : List Col) (r : Nat) (rows : List Nat) (ax : Nat) (h : ax < cols.length) (hn : n < 5000) (hi : cols.findIdx? (hasRow r) = some ax) : treeP k fs (f + 1) n cols (r :: rows) = branchP k fs f (n + 1) cols (r :: rows) ax cols[ax] := by
  unfold treeP
  rw [if_neg (by omega)]
  simp only [hi, List.getElem?_eq_getElem h]
  rfl
theorem treeP_big (k : Kn) (fs : List Fam) (f n : Nat) (cols : List Col) (rows : List Nat) (hn : 5000 ≤ n) : treeP k fs f n cols rows = (trZero f, n + 1) := by
  cases f with
  | zero => rfl
  | succ f =>
    unfold treeP
    rw [if_pos hn]
theorem treeP_none (k : Kn) (fs : List Fam) (f n : Nat) (cols : List Col) (hn : n < 5000) : treeP k fs (f + 1) n cols [] = (((1, 0, []), [], []), n + 1) := by
  unfold treeP
  rw [if_neg (by omega)]
  rfl
theorem treeP_row (k : Kn) (fs : List Fam) (f n : Nat) (cols : List Col) (r : Nat) (rows : List Nat) (hn : n < 5000) (hi : cols.findIdx? (hasRow r) = none) : treeP k fs (f + 1) n cols (r :: rows) = (((2, r, []), [], []), n + 1) := by
  unfold treeP
  rw [if_neg (by omega)]
  simp only [hi]
  rfl
end Go.Proofs.Ytpdmkhnonbbhnaa
