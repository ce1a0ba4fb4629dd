/- TypesInstance: its walk, over the contract of ownedBounds. TypesInstance answers true, whatever types it is handed, if ownedBounds answers as it must. -/
import Derived.Test.YthcejnpknjepfaaGreatMpx
import Derived.Test.YthcejnpknjepfaaGreatKe
import Derived.Test.YthcejnpknjepfaaGreatMrx
import Derived.Test.YthcejnpknjepfaaGreatOp
import Derived.Test.YthcejnpknjepfaaGreatMjx
import Derived.Test.YthcejnpknjepfaaGreatMmx
namespace Go.Proofs.YthcejnpknjepfaaGreat
open Go.RowKit

/-- A lent tree in a box. -/
structure Bl (U : World) (b : Nat) (k : Int) (n : ByteArray) (ad : Option Addr) (len cap d : Nat) (t : Tn d) : Prop where
  box : Bx U b k n ad len cap d t
  tl : TyL U (fun g => g < U.heap.size) d (.agg #[.int .i64 k, .string n, .slice ad len cap]) t
theorem Bl.on {U U' : World} {b : Nat} {k : Int} {n : ByteArray} {ad : Option Addr} {len cap d : Nat} {t : Tn d} (h : Bl U b k n ad len cap d t) (hb : Below U.heap.size U U') : Bl U' b k n ad len cap d t :=
  ⟨h.box.on hb, TyL.on (fun _ q => Nat.lt_of_lt_of_le q hb.size) (fun g q => hb.block g q) _ _ _ h.tl⟩
theorem Bl.new {w : World} {lo : Nat} {k : Int} {n : ByteArray} {ad : Option Addr} {len cap d : Nat} {t : Tn d} (h : TyL w (fun g => lo ≤ g ∧ g < w.heap.size) d (.agg #[.int .i64 k, .string n, .slice ad len cap]) t) : ∃ U, U = w.alloc (Obj.cells #[.int .i64 k, .string n, .slice ad len cap] 25) ∧ Below w.heap.size w U ∧ Bl U w.heap.size k n ad len cap d t := by
  obtain ⟨U, hU, hb, X⟩ := Bx.new (TyL.at (fun _ q => q.2) _ _ _ h)
  exact ⟨U, hU, hb, X, TyL.on (fun _ q => Nat.lt_of_lt_of_le q.2 hb.size) (fun g q => hb.block g q.2) _ _ _ h⟩
/-- A row of bounds that is its owner's, in blocks from lo to hi. -/
structure Rb (U : World) (lo hi : Nat) (v : Value) (es : List Bl4) (bs : List Bd) (rss : List (List (Value × Nat))) : Prop where
  own : U.ownsRow lo 47 4 v es.length (es.flatMap bCells)
  len : es.length = bs.length
  rlen : rss.length = bs.length
  each : ∀ j (h : j < bs.length) (h1 : j < es.length) (h2 : j < rss.length), TyO U lo bs[j].2.1 (elV es[j].2) bs[j].2.2 rss[j]
  sep : SepB lo hi rss.flatten
  away : ∀ p ∈ rss.flatten, p.1.ownBlock ≠ v.ownBlock
  row : ∀ g, v.ownBlock = some g → lo ≤ g ∧ g < hi
  hi : hi ≤ U.heap.size
  num : bs.length ≤ 500 ∧ rss.flatten.length ≤ 300000 ∧ ∀ p ∈ rss.flatten, p.2 ≤ 6
theorem Rb.on {U U' : World} {lo hi : Nat} {v : Value} {es : List Bl4} {bs : List Bd} {rss : List (List (Value × Nat))} (h : Rb U lo hi v es bs rss) (hb : Below U.heap.size U U') : Rb U' lo hi v es bs rss := by
  have hhi := h.hi
  refine ⟨own_keep h.own fun k hk => hb.block k (by have := (h.row k hk).2; omega), h.len, h.rlen, fun j a b c => TyO.on _ _ _ _ (fun p hp g hg => ?_) (h.each j a b c), h.sep, h.away, h.row, Nat.le_trans h.hi hb.size, h.num⟩
  obtain ⟨g', e1, _, e3⟩ := h.sep.1 p (List.mem_flatten.2 ⟨_, List.getElem_mem c, hp⟩)
  rw [hg] at e1
  have := Option.some.inj e1
  exact hb.block g (by omega)
/-- What ownedBounds must answer. -/
def OwnsB : Prop := ∀ (w : World) (R l1 h1 l2 h2 l3 h3 : Nat) (v1 v2 v3 : Value) (e1 e2 e3 : List Bl4) (b1 b2 b3 : List Bd) (r1 r2 r3 : List (List (Value × Nat))), Rb w l1 h1 v1 e1 b1 r1 → Rb w l2 h2 v2 e2 b2 r2 → Rb w l3 h3 v3 e3 b3 r3 → h1 ≤ l2 → h2 ≤ l3 → l3 ≤ R → w.heap[R]? = some (.cells #[v1, v2, v3] 36 (0, 0)) → l1 ≤ l2 → l2 ≤ l3 →
  Calls Tryz.prog 18 #[.slice (some ⟨R, 0, none⟩) 3 3] w fun r w' => r = .returned (.bool true) ∧ Below l1 w w'
theorem form_var {d : Nat} {n : List UInt8} {ts : List (Tn d)} (h : formB (d + 1) ((2, n), ts) = true) : ts = [] := by
  rw [form_succ, Bool.and_eq_true] at h
  have h := h.1
  simp [okB] at h
  exact h.2
theorem form_args {d : Nat} {k : Int} {n : List UInt8} {ts : List (Tn d)} (h : formB (d + 1) ((k, n), ts) = true) : ∀ a ∈ ts, formB d a = true := by
  rw [form_succ, Bool.and_eq_true, List.all_eq_true] at h
  exact h.2
theorem fit_facts (S : List UInt8 → Prop) : ∀ (d : Nat) (t : Tn d) (e : Nat) (u : Tn e) (σ : Sb) (M : Nat), formB e u = true → (flat e u).length ≤ M → (∀ n ∈ namesT d t, S n) → (∀ n r, σ n = some r → S n ∧ ∃ (d' : Nat) (u' : Tn d'), formB d' u' = true ∧ r = flat d' u' ∧ r.length ≤ M) →
    ∀ n r, (fitT d t e u σ).1 n = some r → S n ∧ ∃ (d' : Nat) (u' : Tn d'), formB d' u' = true ∧ r = flat d' u' ∧ r.length ≤ M
  | 0, t, _, _, _, _, _, _, _, _ => t.elim
  | _ + 1, _, 0, u, _, _, _, _, _, _ => u.elim
  | d + 1, ((k, m), ts), e + 1, ((k', m'), us), σ, M, hf, hM, hS, hσ => fun n r h => by
    by_cases hk : k = 2
    · subst hk
      have h : (fitV σ m (flat (e + 1) ((k', m'), us))).1 n = some r := by rw [← fit_var d m ts e ((k', m'), us) σ]; exact h
      rw [names_var] at hS
      unfold fitV at h
      cases hm : σ m with
      | none =>
        rw [hm] at h
        have h : (if n = m then some (flat (e + 1) ((k', m'), us)) else σ n) = some r := h
        by_cases hn : n = m
        · rw [if_pos hn] at h
          rw [hn, ← Option.some.inj h]
          exact ⟨hS m (by simp), _, _, hf, rfl, hM⟩
        · rw [if_neg hn] at h
          exact hσ n r h
      | some r' =>
        rw [hm] at h
        exact hσ n r h
    · rw [names_node _ _ _ _ hk] at hS
      by_cases hh : k = k' ∧ m = m'
      · obtain ⟨rfl, rfl⟩ := hh
        have h : (eqAll (fun s t u => fitT d t e u s) σ ts us).1 n = some r := by rw [← fit_node d k m ts e us σ hk]; exact h
        rw [flat_succ, List.length_cons] at hM
        unfold eqAll at h
        split at h
        · have key : ∀ (ts : List (Tn d)) (us : List (Tn e)) (σ : Sb), (∀ a ∈ us, formB e a = true) → (flats e us).length ≤ M → (∀ n ∈ ts.flatMap (namesT d), S n) → (∀ n r, σ n = some r → S n ∧ ∃ (d' : Nat) (u' : Tn d'), formB d' u' = true ∧ r = flat d' u' ∧ r.length ≤ M) → ∀ n r, (eqGo (fun s t u => fitT d t e u s) σ ts us).1 n = some r → S n ∧ ∃ (d' : Nat) (u' : Tn d'), formB d' u' = true ∧ r = flat d' u' ∧ r.length ≤ M := fun ts => by
            induction ts with
            | nil =>
              intro us σ _ _ _ hσ n r h
              cases us with
              | nil => exact hσ n r h
              | cons u us => exact hσ n r h
            | cons t ts ih =>
              intro us σ ha hl hS hσ n r h
              cases us with
              | nil => exact hσ n r h
              | cons u us =>
                rw [eqGo] at h
                rw [flats_cons, List.length_append] at hl
                rw [List.flatMap_cons] at hS
                have h1 := fit_facts S d t e u σ M (ha u (by simp)) (by omega) (fun n hn => hS n (List.mem_append.2 (.inl hn))) hσ
                split at h
                · exact ih us _ (fun b hb => ha b (by simp [hb])) (by omega) (fun n hn => hS n (List.mem_append.2 (.inr hn))) h1 n r h
                · exact h1 n r h
          exact key ts us σ (form_args hf) (by omega) hS hσ n r h
        · exact hσ n r h
      · have h : ((σ, false) : Sb × Bool).1 n = some r := by rw [← fit_no d k k' m m' ts e us σ hk hh]; exact h
        exact hσ n r h
theorem inst_vals {d : Nat} {t : Tn d} {e : Nat} {u : Tn e} (hg : formB e u = true) (hl : (flat e u).length ≤ 500) (n : List UInt8) (r : List Nd) (h : (instR d t e u).1 n = some r) : ∃ (d' : Nat) (u' : Tn d'), formB d' u' = true ∧ r = flat d' u' ∧ r.length ≤ 500 :=
  (fit_facts (fun _ => True) d t e u (fun _ => none) 500 hg hl (fun _ _ => trivial) (fun n r h => (by cases h)) n r h).2
theorem flat_len_le {α : Type} : ∀ (l : List (List α)) (M : Nat), (∀ x ∈ l, x.length ≤ M) → l.flatten.length ≤ l.length * M
  | [], _, _ => by simp
  | a :: l, M, h => by
    rw [List.flatten_cons, List.length_append, List.length_cons]
    have h1 := h a (by simp)
    have h2 := flat_len_le l M fun x hx => h x (by simp [hx])
    have : (l.length + 1) * M = l.length * M + M := by rw [Nat.add_mul, Nat.one_mul]
    omega
/-- What the program's Instance answers: its owner's. -/
def InstOwn (w : World) (d : Nat) (t : Tn d) (e : Nat) (u : Tn e) (r : Ending) (w' : World) : Prop :=
  Below w.heap.size w w' ∧ ∃ (va : Option Addr) (vl vc : Nat) (es : List Bl4) (bs : List Bd) (rss : List (List (Value × Nat))),
    r = .returned (.tuple #[.slice va vl vc, .bool (decide (wrongs [⟨d, t⟩, ⟨e, u⟩] = 0) && (instR d t e u).2), .int .i64 (wrongs [⟨d, t⟩, ⟨e, u⟩])]) ∧ Rb w' w.heap.size w'.heap.size (.slice va vl vc) es bs rss ∧ BdAt w' w'.heap.size (.slice va vl vc) bs ∧
    (((decide (wrongs [⟨d, t⟩, ⟨e, u⟩] = 0) && (instR d t e u).2) = false ∧ bs = []) ∨
     ((decide (wrongs [⟨d, t⟩, ⟨e, u⟩] = 0) && (instR d t e u).2) = true ∧ ∃ ks : List (List UInt8), ks.Nodup ∧ (∀ k, k ∈ ks ↔ ((instR d t e u).1 k).isSome = true) ∧ bs.map (·.1) = ks.mergeSort leB ∧ ∀ x ∈ bs, (instR d t e u).1 x.1 = some (flat x.2.1 x.2.2)))
theorem wrongs_two {d : Nat} {t : Tn d} {e : Nat} {u : Tn e} (h0 : wrongs [⟨d, t⟩, ⟨e, u⟩] = 0) : wrongT d t = 0 ∧ wrongT e u = 0 := by
  unfold wrongs at h0
  split at h0
  · rename_i h1
    unfold wrongs at h0
    split at h0
    · rename_i h2; exact ⟨h1, h2⟩
    · rename_i h2; exact absurd h0 h2
  · rename_i h1; exact absurd h0 h1
theorem inst_own (d : Nat) (t : Tn d) (e : Nat) (u : Tn e) (x y : Value) (w : World) (hx : TyAt w w.heap.size d x t) (hy : TyAt w w.heap.size e y u) (hN : (flat d t).length ≤ 4194304) (hM : (flat e u).length ≤ 4194304) :
    Calls Tryz.prog 15 #[x, y] w (InstOwn w d t e u) := by
  refine Calls.mono (instance_any d t e u x y w w.heap.size (Nat.le_refl _) hx hy hN hM) ?_
  rintro r w' ⟨hb, v, es, bs, rss, rfl, hrow, hcase⟩
  obtain ⟨va, vc, rfl⟩ := row_form4 hrow
  have hl := hrow.len
  have hr := hrow.rlen
  have hfacts : bs.length ≤ 500 ∧ ∀ j (h : j < bs.length), formB bs[j].2.1 bs[j].2.2 = true ∧ (flat bs[j].2.1 bs[j].2.2).length ≤ 500 := by
    rcases hcase with ⟨_, _, rfl⟩ | ⟨h0, ks, k1, k2, k3, k4, k5⟩
    · exact ⟨by simp, fun j h => by simp at h⟩
    · rw [Bool.and_eq_true, decide_eq_true_eq] at h0
      obtain ⟨_, hw2⟩ := wrongs_two h0.1
      obtain ⟨hg, hm⟩ := wrong_zero hw2
      refine ⟨?_, fun j h => ?_⟩
      · have := congrArg List.length k4
        rw [List.length_map, List.length_mergeSort] at this
        omega
      · obtain ⟨d', u', c1, c2, c3⟩ := inst_vals hg hm _ _ (k5 bs[j] (List.getElem_mem h))
        exact ⟨by rw [(flat_same _ _ _ _ c2).1]; exact c1, c3⟩
  have hc : ∀ j (h : j < bs.length) (h2 : j < rss.length), rss[j].length ≤ 500 ∧ ∀ p ∈ rss[j], p.2 ≤ 6 := fun j h h2 => by
    have := own_count _ _ _ _ (hrow.each j h (by omega) h2)
    exact ⟨Nat.le_trans this.1 (hfacts.2 j h).2, this.2 (hfacts.2 j h).1⟩
  refine ⟨hb, va, es.length, vc, es, bs, rss, rfl, ⟨hrow.own, hl, hr, hrow.each, hrow.sep, hrow.away, fun g hg => hrow.own.lt g hg, Nat.le_refl _, hfacts.1, ?_, fun p hp => ?_⟩, hrow.at (by have := hfacts.1; omega), ?_⟩
  · have h9 := flat_len_le rss 500 fun x hx => by
      obtain ⟨j, hj, rfl⟩ := List.getElem_of_mem hx
      exact (hc j (by omega) hj).1
    have h10 := hfacts.1
    have : rss.length * 500 ≤ 500 * 500 := Nat.mul_le_mul_right 500 (by omega)
    omega
  · obtain ⟨l, hl', hpl⟩ := List.mem_flatten.1 hp
    obtain ⟨j, hj, rfl⟩ := List.getElem_of_mem hl'
    exact (hc j (by omega) hj).2 p hpl
  · rcases hcase with ⟨h0, _, h1⟩ | ⟨h0, ks, k1, k2, k3, k4, k5⟩
    · exact .inl ⟨h0, h1⟩
    · exact .inr ⟨h0, ks, k1, k3, k4, k5⟩
/-- The program's bounds and the reference's are the same. -/
theorem same_rows {d : Nat} {t : Tn d} {e : Nat} {u : Tn e} {al bs : List Bd}
    (hA : ((decide (wrongs [⟨d, t⟩, ⟨e, u⟩] = 0) && (instR d t e u).2) = false ∧ al = []) ∨ ((decide (wrongs [⟨d, t⟩, ⟨e, u⟩] = 0) && (instR d t e u).2) = true ∧ ∃ ks : List (List UInt8), ks.Nodup ∧ (∀ k, k ∈ ks ↔ ((instR d t e u).1 k).isSome = true) ∧ al.map (·.1) = ks.mergeSort leB ∧ ∀ x ∈ al, (instR d t e u).1 x.1 = some (flat x.2.1 x.2.2)))
    (hB : ((decide (wrongs [⟨d, t⟩, ⟨e, u⟩] = 0) && (instR d t e u).2) = false ∧ bs = []) ∨ ((decide (wrongs [⟨d, t⟩, ⟨e, u⟩] = 0) && (instR d t e u).2) = true ∧ ∃ R : List Bd, SaysB R (instR d t e u).1 ∧ bs.Perm R ∧ (bs.map (·.1)).Pairwise fun a b => leB a b = true)) : al.map bdF = bs.map bdF := by
  rcases hA with ⟨a1, a2⟩ | ⟨a1, ks, k1, k3, k4, k5⟩
  · rcases hB with ⟨b1, b2⟩ | ⟨b1, _⟩
    · rw [a2, b2]
    · rw [a1] at b1; cases b1
  · rcases hB with ⟨b1, _⟩ | ⟨b1, R, r1, r2, r3⟩
    · rw [a1] at b1; cases b1
    · exact rows_one r1 r2 r3 k1 k3 k4 k5
end Go.Proofs.YthcejnpknjepfaaGreat

namespace Go.Proofs.YthcejnpknjepfaaGreat
open Go.RowKit

/-- A row of bounds that can be read; if it was made by the program, its owner's. -/
structure Ib (U : World) (v : Value) (bs : List Bd) (P : World → Prop) : Prop where
  rd : BdAt U U.heap.size v bs
  ow : P U
  mv : ∀ U U', P U → Below U.heap.size U U' → P U'
theorem Ib.on {U U' : World} {v : Value} {bs : List Bd} {P : World → Prop} (h : Ib U v bs P) (hb : Below U.heap.size U U') : Ib U' v bs P := ⟨h.rd.below hb hb.size, h.mv _ _ h.ow hb, h.mv⟩
theorem Ib.hid {U : World} {v : Value} {bs : List Bd} {P : World → Prop} (h : Ib U v bs P) : Hid (Ib U v bs P) := h
theorem Ib.ref {U : World} {v : Value} {bs : List Bd} (h : BdAt U U.heap.size v bs) : Ib U v bs (fun _ => True) := ⟨h, trivial, fun _ _ _ _ => trivial⟩
theorem Ib.own {U : World} {lo hi : Nat} {v : Value} {es : List Bl4} {bs : List Bd} {rss : List (List (Value × Nat))} (h : BdAt U U.heap.size v bs) (k : Rb U lo hi v es bs rss) : Ib U v bs (fun U => Rb U lo hi v es bs rss) := ⟨h, k, fun _ _ h hb => h.on hb⟩
set_option maxHeartbeats 16000000 in
set_option maxRecDepth 10000 in
theorem instance_small (hO : OwnsB) (hA : Wakes) (d d2 : Nat) (t : Tn d) (s : Tn d2) (k k' : Int) (n n' : ByteArray) (ad ad' : Option Addr) (len len' cap cap' : Nat) (w : World) (h : TyAt w w.heap.size d (.agg #[.int .i64 k, .string n, .slice ad len cap]) t) (h' : TyAt w w.heap.size d2 (.agg #[.int .i64 k', .string n', .slice ad' len' cap']) s) (hg : greatT d t = false) (hg' : greatT d2 s = false) :
    Calls Tryz.prog 4 #[.agg #[.int .i64 k, .string n, .slice ad len cap], .agg #[.int .i64 k', .string n', .slice ad' len' cap']] w fun r w' => r = .returned (.bool true) ∧ Below w.heap.size w w' := by
  have CA : ∀ w : World, Calls Tryz.prog 6 #[] w fun r w' => r = .returned (.bool true) ∧ Below w.heap.size w w' := hA
  have HN : Hid ((flat d t).length ≤ 4194304 ∧ (flat d2 s).length ≤ 4194304) := ⟨great_nodes hg, great_nodes hg'⟩
  have HO : Hid OwnsB := hO
  obtain ⟨V, hV, hbV, X0⟩ := Bx.new h
  obtain ⟨W, hW, hbW, X1⟩ := Bx.new (TyAt.below hbV hbV.size _ _ _ h')
  have X0 := X0.on hbW
  have hsV : V.heap.size = w.heap.size + 1 := by rw [hV]; simp
  rw [hsV] at X1
  have HB : Hid (Below w.heap.size w W) := hbV.trans (hbW.mono hbV.size)
  have CG := great_any _ _ t W X0.tree
  rw [hg] at CG
  have hWe : W = (w.alloc (Obj.cells #[.int .i64 k, .string n, .slice ad len cap] 25)).alloc (Obj.cells #[.int .i64 k', .string n', .slice ad' len' cap'] 25) := by rw [hW, hV]
  clear hW hV hbV hbW hsV h h' hA hg hO
  go_enter Tryz.func4, Tryz.ntmps4
  go_upto_region 1 with fail
  rw [← hWe]
  generalize hz : w.heap.size = z at X0 X1 ⊢
  have HZ : Hid (w.heap.size = z) := hz
  clear hWe hz
  obtain ⟨x0, x1, x2⟩ : _ ∧ _ ∧ _ := ⟨X0.c0, X0.c1, X0.c2⟩
  go_upto_region 2 with (go_at_call 12; (with_reducible refine Calls.mono CG ?_); rintro e' w1 ⟨rfl, hb⟩)
  clear CG x0 x1 x2
  have X0 := X0.on hb
  have X1 := X1.on hb
  have HB := HB.out.trans (hb.mono HB.out.size)
  have HB : Hid (Below w.heap.size w w1) := HB
  clear hb
  have CG := great_any _ _ s w1 X1.tree
  rw [hg'] at CG
  obtain ⟨x0, x1, x2⟩ : _ ∧ _ ∧ _ := ⟨X1.c0, X1.c1, X1.c2⟩
  go_upto_region 5 with (go_at_call 12; (with_reducible refine Calls.mono CG ?_); rintro e' w2 ⟨rfl, hb⟩)
  clear CG x0 x1 x2 hg'
  have X0 := X0.on hb
  have X1 := X1.on hb
  have HB := HB.out.trans (hb.mono HB.out.size)
  have HB : Hid (Below w.heap.size w w2) := HB
  clear hb
  go_upto_region 6 with (go_at_call 6; (with_reducible refine Calls.mono (CA _) ?_); rintro e' w3 ⟨rfl, hb⟩)
  clear CA
  have X0 := X0.on hb
  have X1 := X1.on hb
  have HB := HB.out.trans (hb.mono HB.out.size)
  have HB : Hid (Below w.heap.size w w3) := HB
  clear hb
  have CL := lent_any _ _ t w3 w3.heap.size (Nat.le_refl _) X0.tree HN.out.1
  obtain ⟨x0, x1, x2⟩ : _ ∧ _ ∧ _ := ⟨X0.c0, X0.c1, X0.c2⟩
  go_upto_region 7 with (go_at_call 13; (with_reducible refine Calls.mono CL ?_); intro e' w4 hpost; obtain ⟨hb4, k4, n4, a4, l4, c4, rfl, TU⟩ := hpost)
  clear CL x0 x1 x2
  obtain ⟨U4, hU, hbU, XU⟩ := Bl.new TU
  rw [← hU]
  have hb : Below w3.heap.size w3 U4 := hb4.trans (hbU.mono hb4.size)
  clear hU hbU hb4 TU
  have X0 := X0.on hb
  have X1 := X1.on hb
  have HB := HB.out.trans (hb.mono HB.out.size)
  have HB : Hid (Below w.heap.size w U4) := HB
  clear hb
  generalize w4.heap.size = z4 at XU ⊢
  have CL := lent_any _ _ s U4 U4.heap.size (Nat.le_refl _) X1.tree HN.out.2
  obtain ⟨x0, x1, x2⟩ : _ ∧ _ ∧ _ := ⟨X1.c0, X1.c1, X1.c2⟩
  go_upto_region 8 with (go_at_call 13; (with_reducible refine Calls.mono CL ?_); intro e' w5 hpost; obtain ⟨hb4, k5, n5, a5, l5, c5, rfl, TU⟩ := hpost)
  clear CL x0 x1 x2
  obtain ⟨U5, hU, hbU, XV⟩ := Bl.new TU
  rw [← hU]
  have hb : Below U4.heap.size U4 U5 := hb4.trans (hbU.mono hb4.size)
  clear hU hbU hb4 TU
  have X0 := X0.on hb
  have X1 := X1.on hb
  have XU := XU.on hb
  have HB := HB.out.trans (hb.mono HB.out.size)
  have HB : Hid (Below w.heap.size w U5) := HB
  clear hb
  generalize w5.heap.size = z5 at XV ⊢
  have CI := inst_ref _ t _ s _ _ U5 X0.tree X1.tree HN.out.1 HN.out.2
  obtain ⟨x0, x1, x2⟩ : _ ∧ _ ∧ _ := ⟨X0.c0, X0.c1, X0.c2⟩
  obtain ⟨y0, y1, y2⟩ : _ ∧ _ ∧ _ := ⟨X1.c0, X1.c1, X1.c2⟩
  go_upto_region 9 with (go_at_call 14; (with_reducible refine Calls.mono CI ?_); intro e' w6 hpost; obtain ⟨hb, va6, vl6, vc6, bs6, rfl, BD, CS6⟩ := hpost)
  clear CI x0 x1 x2 y0 y1 y2
  have HSZ6 : Hid (U5.heap.size ≤ w6.heap.size) := hb.size
  have I6 := Ib.hid (Ib.ref BD)
  have HC6 : Hid _ := CS6
  clear BD CS6
  have X0 := X0.on hb
  have X1 := X1.on hb
  have XU := XU.on hb
  have XV := XV.on hb
  have HB := HB.out.trans (hb.mono HB.out.size)
  have HB : Hid (Below w.heap.size w w6) := HB
  clear hb
  have CI := inst_ref _ s _ t _ _ w6 X1.tree X0.tree HN.out.2 HN.out.1
  obtain ⟨x0, x1, x2⟩ : _ ∧ _ ∧ _ := ⟨X1.c0, X1.c1, X1.c2⟩
  obtain ⟨y0, y1, y2⟩ : _ ∧ _ ∧ _ := ⟨X0.c0, X0.c1, X0.c2⟩
  go_upto_region 10 with (go_at_call 14; (with_reducible refine Calls.mono CI ?_); intro e' w7 hpost; obtain ⟨hb, va7, vl7, vc7, bs7, rfl, BD, CS7⟩ := hpost)
  clear CI x0 x1 x2 y0 y1 y2
  have HSZ7 : Hid (w6.heap.size ≤ w7.heap.size) := hb.size
  have I7 := Ib.hid (Ib.ref BD)
  have HC7 : Hid _ := CS7
  clear BD CS7
  have X0 := X0.on hb
  have X1 := X1.on hb
  have XU := XU.on hb
  have XV := XV.on hb
  have I6 := Ib.hid (I6.out.on hb)
  have HB := HB.out.trans (hb.mono HB.out.size)
  have HB : Hid (Below w.heap.size w w7) := HB
  have SZ7 : Hid (w.heap.size ≤ w7.heap.size) := HB.out.size
  clear hb
  have CI := inst_own _ t _ s _ _ w7 XU.box.tree XV.box.tree HN.out.1 HN.out.2
  obtain ⟨x0, x1, x2⟩ : _ ∧ _ ∧ _ := ⟨XU.box.c0, XU.box.c1, XU.box.c2⟩
  obtain ⟨y0, y1, y2⟩ : _ ∧ _ ∧ _ := ⟨XV.box.c0, XV.box.c1, XV.box.c2⟩
  go_upto_region 11 with (go_at_call 15; (with_reducible refine Calls.mono CI ?_); intro e' w8 hpost; obtain ⟨hb, va8, vl8, vc8, es8, bs8, rss8, rfl, RB, BD, CS8⟩ := hpost)
  clear CI x0 x1 x2 y0 y1 y2
  have HSZ8 : Hid (w7.heap.size ≤ w8.heap.size) := hb.size
  have I8 := Ib.hid (Ib.own BD RB)
  have HC8 : Hid _ := CS8
  clear BD CS8 RB
  have X0 := X0.on hb
  have X1 := X1.on hb
  have XU := XU.on hb
  have XV := XV.on hb
  have I6 := Ib.hid (I6.out.on hb)
  have I7 := Ib.hid (I7.out.on hb)
  have HB := HB.out.trans (hb.mono HB.out.size)
  have HB : Hid (Below w.heap.size w w8) := HB
  clear hb
  have CI := inst_own _ s _ t _ _ w8 XV.box.tree XU.box.tree HN.out.2 HN.out.1
  obtain ⟨x0, x1, x2⟩ : _ ∧ _ ∧ _ := ⟨XV.box.c0, XV.box.c1, XV.box.c2⟩
  obtain ⟨y0, y1, y2⟩ : _ ∧ _ ∧ _ := ⟨XU.box.c0, XU.box.c1, XU.box.c2⟩
  go_upto_region 12 with (go_at_call 15; (with_reducible refine Calls.mono CI ?_); intro e' w9 hpost; obtain ⟨hb, va9, vl9, vc9, es9, bs9, rss9, rfl, RB, BD, CS9⟩ := hpost)
  clear CI x0 x1 x2 y0 y1 y2
  have HSZ9 : Hid (w8.heap.size ≤ w9.heap.size) := hb.size
  have I9 := Ib.hid (Ib.own BD RB)
  have HC9 : Hid _ := CS9
  clear BD CS9 RB
  have X0 := X0.on hb
  have X1 := X1.on hb
  have XU := XU.on hb
  have XV := XV.on hb
  have I6 := Ib.hid (I6.out.on hb)
  have I7 := Ib.hid (I7.out.on hb)
  have I8 := Ib.hid (I8.out.on hb)
  have HB := HB.out.trans (hb.mono HB.out.size)
  have HB : Hid (Below w.heap.size w w9) := HB
  clear hb
  have CI := inst_own _ t _ s _ _ w9 XU.box.tree XV.box.tree HN.out.1 HN.out.2
  obtain ⟨x0, x1, x2⟩ : _ ∧ _ ∧ _ := ⟨XU.box.c0, XU.box.c1, XU.box.c2⟩
  obtain ⟨y0, y1, y2⟩ : _ ∧ _ ∧ _ := ⟨XV.box.c0, XV.box.c1, XV.box.c2⟩
  go_upto_region 13 with (go_at_call 15; (with_reducible refine Calls.mono CI ?_); intro e' w10 hpost; obtain ⟨hb, va10, vl10, vc10, es10, bs10, rss10, rfl, RB, BD, CS10⟩ := hpost)
  clear CI x0 x1 x2 y0 y1 y2
  have HSZ10 : Hid (w9.heap.size ≤ w10.heap.size) := hb.size
  have I10 := Ib.hid (Ib.own BD RB)
  have HC10 : Hid _ := CS10
  clear BD CS10 RB
  have X0 := X0.on hb
  have X1 := X1.on hb
  have XU := XU.on hb
  have XV := XV.on hb
  have I6 := Ib.hid (I6.out.on hb)
  have I7 := Ib.hid (I7.out.on hb)
  have I8 := Ib.hid (I8.out.on hb)
  have I9 := Ib.hid (I9.out.on hb)
  have HB := HB.out.trans (hb.mono HB.out.size)
  have HB : Hid (Below w.heap.size w w10) := HB
  clear hb
  have CB := sameBounds_true _ _ _ _ w10 w10.heap.size (Nat.le_refl _) I8.out.rd I6.out.rd (same_rows HC8.out HC6.out)
  go_upto_region 14 with (go_at_call 16; (with_reducible refine Calls.mono CB ?_); rintro e' w11 ⟨rfl, hb⟩)
  clear CB
  have X0 := X0.on hb
  have X1 := X1.on hb
  have XU := XU.on hb
  have XV := XV.on hb
  have I6 := Ib.hid (I6.out.on hb)
  have I7 := Ib.hid (I7.out.on hb)
  have I8 := Ib.hid (I8.out.on hb)
  have I9 := Ib.hid (I9.out.on hb)
  have I10 := Ib.hid (I10.out.on hb)
  have HB := HB.out.trans (hb.mono HB.out.size)
  have HB : Hid (Below w.heap.size w w11) := HB
  clear hb
  have CB := sameBounds_true _ _ _ _ w11 w11.heap.size (Nat.le_refl _) I9.out.rd I7.out.rd (same_rows HC9.out HC7.out)
  go_upto_region 15 with (go_at_call 16; (with_reducible refine Calls.mono CB ?_); rintro e' w12 ⟨rfl, hb⟩)
  clear CB
  have X0 := X0.on hb
  have X1 := X1.on hb
  have XU := XU.on hb
  have XV := XV.on hb
  have I6 := Ib.hid (I6.out.on hb)
  have I7 := Ib.hid (I7.out.on hb)
  have I8 := Ib.hid (I8.out.on hb)
  have I9 := Ib.hid (I9.out.on hb)
  have I10 := Ib.hid (I10.out.on hb)
  have HB := HB.out.trans (hb.mono HB.out.size)
  have HB : Hid (Below w.heap.size w w12) := HB
  clear hb
  have CB := sameBounds_true _ _ _ _ w12 w12.heap.size (Nat.le_refl _) I10.out.rd I6.out.rd (same_rows HC10.out HC6.out)
  go_upto_region 16 with (go_at_call 16; (with_reducible refine Calls.mono CB ?_); rintro e' w13 ⟨rfl, hb⟩)
  clear CB
  have X0 := X0.on hb
  have X1 := X1.on hb
  have XU := XU.on hb
  have XV := XV.on hb
  have I6 := Ib.hid (I6.out.on hb)
  have I7 := Ib.hid (I7.out.on hb)
  have I8 := Ib.hid (I8.out.on hb)
  have I9 := Ib.hid (I9.out.on hb)
  have I10 := Ib.hid (I10.out.on hb)
  have HB := HB.out.trans (hb.mono HB.out.size)
  have HB : Hid (Below w.heap.size w w13) := HB
  clear hb
  have CK := kept_any _ _ _ t w13 w13.heap.size (Nat.le_refl _) XU.tl X0.tree
  obtain ⟨x0, x1, x2⟩ : _ ∧ _ ∧ _ := ⟨XU.box.c0, XU.box.c1, XU.box.c2⟩
  obtain ⟨y0, y1, y2⟩ : _ ∧ _ ∧ _ := ⟨X0.c0, X0.c1, X0.c2⟩
  go_upto_region 17 with (go_at_call 17; (with_reducible refine Calls.mono CK ?_); rintro e' w14 ⟨rfl, hb⟩)
  clear CK x0 x1 x2 y0 y1 y2
  have X0 := X0.on hb
  have X1 := X1.on hb
  have XU := XU.on hb
  have XV := XV.on hb
  have I6 := Ib.hid (I6.out.on hb)
  have I7 := Ib.hid (I7.out.on hb)
  have I8 := Ib.hid (I8.out.on hb)
  have I9 := Ib.hid (I9.out.on hb)
  have I10 := Ib.hid (I10.out.on hb)
  have HB := HB.out.trans (hb.mono HB.out.size)
  have HB : Hid (Below w.heap.size w w14) := HB
  clear hb
  have CK := kept_any _ _ _ s w14 w14.heap.size (Nat.le_refl _) XV.tl X1.tree
  obtain ⟨x0, x1, x2⟩ : _ ∧ _ ∧ _ := ⟨XV.box.c0, XV.box.c1, XV.box.c2⟩
  obtain ⟨y0, y1, y2⟩ : _ ∧ _ ∧ _ := ⟨X1.c0, X1.c1, X1.c2⟩
  go_upto_region 18 with (go_at_call 17; (with_reducible refine Calls.mono CK ?_); rintro e' w15 ⟨rfl, hb⟩)
  clear CK x0 x1 x2 y0 y1 y2
  have X0 := X0.on hb
  have X1 := X1.on hb
  have XU := XU.on hb
  have XV := XV.on hb
  have I6 := Ib.hid (I6.out.on hb)
  have I7 := Ib.hid (I7.out.on hb)
  have I8 := Ib.hid (I8.out.on hb)
  have I9 := Ib.hid (I9.out.on hb)
  have I10 := Ib.hid (I10.out.on hb)
  have HB := HB.out.trans (hb.mono HB.out.size)
  have HB : Hid (Below w.heap.size w w15) := HB
  clear hb
  generalize (decide (wrongs [⟨d, t⟩, ⟨d2, s⟩] = 0) && (instR d t d2 s).2) = p1 at *
  generalize (decide (wrongs [⟨d2, s⟩, ⟨d, t⟩] = 0) && (instR d2 s d t).2) = p2 at *
  generalize wrongs [⟨d, t⟩, ⟨d2, s⟩] = E1 at *
  generalize wrongs [⟨d2, s⟩, ⟨d, t⟩] = E2 at *
  have n1 : (p1 != p1) = false := by simp
  have n2 : (p2 != p2) = false := by simp
  have n3 : (E1 != E1) = false := by simp
  have n4 : (E2 != E2) = false := by simp
  clear X0 X1 XU XV HC6 HC7 HC8 HC9 HC10 I6 I7 HN
  go_upto_region 20 with fail
  have hal : Below w15.heap.size w15 (w15.alloc (Obj.cells #[.slice va8 vl8 vc8, .slice va9 vl9 vc9, .slice va10 vl10 vc10] 36)) := (Below.refl _ _).alloc (Nat.le_refl _) _
  have hs15 : w10.heap.size ≤ w15.heap.size := I10.out.ow.hi
  have CO := HO.out _ w15.heap.size _ _ _ _ _ _ _ _ _ _ _ _ _ _ _ _ _ _ (I8.out.ow.on hal) (I9.out.ow.on hal) (I10.out.ow.on hal) (Nat.le_refl _) (Nat.le_refl _) (Nat.le_trans HSZ10.out hs15) (heap_alloc_new _ _) HSZ8.out HSZ9.out
  have HF : Hid (∀ wf, Below w7.heap.size (w15.alloc (Obj.cells #[.slice va8 vl8 vc8, .slice va9 vl9 vc9, .slice va10 vl10 vc10] 36)) wf → Below w.heap.size w wf) := by
    intro wf hbf
    have h0 : w.heap.size ≤ w7.heap.size := SZ7.out
    exact (HB.out.trans (hal.mono HB.out.size)).trans (hbf.mono h0)
  clear I8 I9 I10 hal hs15
  go_wp2_with (go_at_call 18; (with_reducible refine Calls.mono CO ?_); rintro e' wf ⟨rfl, hbf⟩)
  go_ret
  exact ⟨rfl, HF.out _ hbf⟩
end Go.Proofs.YthcejnpknjepfaaGreat
