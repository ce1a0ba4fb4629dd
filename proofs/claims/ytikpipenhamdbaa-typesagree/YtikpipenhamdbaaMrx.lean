/- The program's valuesOf, of bounds with which nothing is wrong. Trees counted with more levels; what a row of bounds says of a name, and the reference's find in it. What Apply answers: which error, which row of nodes. The program's valuesOf, of any bounds. -/
import Derived.Test.YtikpipenhamdbaaMnx
import Derived.Test.YtikpipenhamdbaaMdx
import Derived.Test.YtikpipenhamdbaaMhx
import Derived.Test.YtikpipenhamdbaaMix
namespace Go.Proofs.Ytikpipenhamdbaa
open Go.RowKit

theorem grown_below' {W W' : World} {b B : Nat} (h : W.grownBy W' (some b)) (hB : B ≤ b) (hb : b < W.heap.size) : Below B W W' := (Below.refl B W).grown h (by omega) (fun k e => by cases e; exact hB)
theorem grown_trans {A C D : World} {b : Nat} (h : A.grownBy C (some b)) (k : C.grownBy D (some b)) : A.grownBy D (some b) :=
  ⟨k.os.trans h.os, k.tape.trans h.tape, k.output.trans h.output, Nat.le_trans h.size k.size, fun g hg hne => (k.block g (by have := h.size; omega) hne).trans (h.block g hg hne)⟩
theorem grown_of_below {W W' : World} {b : Nat} (h : Below W.heap.size W W') : W.grownBy W' (some b) := ⟨h.os, h.tape, h.output, h.size, fun g hg _ => h.block g hg⟩
/-- What a row of bounds says of a name: the tree that the first bound of that name has. -/
def bdSays (bs : List Bd) (n : List UInt8) : Option (Sigma Tn) := (bs.find? fun x => decide (x.1 = n)).map (·.2)
theorem bdSays_cons (x : Bd) (bs : List Bd) (n : List UInt8) : bdSays (x :: bs) n = if x.1 = n then some x.2 else bdSays bs n := by
  unfold bdSays
  rw [List.find?_cons]
  by_cases h : x.1 = n
  · simp [h]
  · simp [h]
theorem bdSays_none {bs : List Bd} {n : List UInt8} (h : n ∉ bs.map (·.1)) : bdSays bs n = none := by
  induction bs with
  | nil => rfl
  | cons x r ih =>
    rw [bdSays_cons, if_neg (fun e => h (by simp [e])), ih (fun q => h (by simp at q ⊢; exact .inr q))]
theorem bdSays_snoc {bs : List Bd} {x : Bd} (h : x.1 ∉ bs.map (·.1)) (n : List UInt8) : bdSays (bs ++ [x]) n = if n = x.1 then some x.2 else bdSays bs n := by
  induction bs with
  | nil =>
    rw [List.nil_append, bdSays_cons]
    by_cases e : x.1 = n
    · rw [if_pos e, if_pos e.symm]
    · rw [if_neg e, if_neg (fun q => e q.symm)]
  | cons y r ih =>
    have h1 : x.1 ≠ y.1 := fun e => h (by simp [e])
    have h2 : x.1 ∉ r.map (·.1) := fun q => h (by simp at q ⊢; exact .inr q)
    rw [List.cons_append, bdSays_cons, ih h2, bdSays_cons]
    by_cases e : y.1 = n
    · rw [if_pos e, if_pos e, if_neg (fun q => h1 (q.symm.trans e.symm))]
    · rw [if_neg e, if_neg e]
/-- A map that says what a row of bounds says; its values are trees in blocks below B. -/
def Vs (W : World) (b B : Nat) (bs : List Bd) : Prop := ∃ s : List UInt8 → Option Value, Mv W b bs.length s ∧ ∀ n, (s n = none ∧ bdSays bs n = none) ∨ ∃ (v : Value) (u : Sigma Tn), s n = some v ∧ bdSays bs n = some u ∧ TyAt W B u.1 v u.2
theorem Vs.on {W W' : World} {b B : Nat} {bs : List Bd} (h : Vs W b B bs) (hb : W'.heap[b]? = W.heap[b]?) (hB : Below B W W') : Vs W' b B bs := by
  obtain ⟨s, h1, h2⟩ := h
  refine ⟨s, h1.on hb, fun n => ?_⟩
  rcases h2 n with h | ⟨v, u, e1, e2, e3⟩
  · exact .inl h
  · exact .inr ⟨v, u, e1, e2, e3.on hB⟩
theorem Vs.lt {W : World} {b B : Nat} {bs : List Bd} (h : Vs W b B bs) : b < W.heap.size := by
  obtain ⟨s, h1, _⟩ := h
  exact h1.lt
/-- One bound more. -/
theorem Vs.put {W : World} {b B : Nat} {bs : List Bd} {x : Bd} {v : Value} (h : Vs W b B bs) (hB : B ≤ b) (hl : bs.length < 100000) (hn : x.1.length < 140737488355328) (hx : x.1 ∉ bs.map (·.1)) (hT : TyAt W B x.2.1 v x.2.2) :
    ∃ w', (Instr.mapUpdate 56 (.map (some b)) (.string ⟨x.1.toArray⟩) v).run Try.prog W = .ok () w' ∧ Vs w' b B (bs ++ [x]) ∧ W.grownBy w' (some b) := by
  have hlt := h.lt
  obtain ⟨s, h1, h2⟩ := h
  have hs : s x.1 = none := by
    rcases h2 x.1 with h | ⟨v, u, e1, e2, _⟩
    · exact h.1
    · rw [bdSays_none hx] at e2; cases e2
  obtain ⟨w', hup, hM, hg⟩ := h1.put x.1 hn hl hs v
  have hb := grown_below' hg hB hlt
  refine ⟨w', hup, ⟨_, by rw [List.length_append]; exact hM, fun n => ?_⟩, hg⟩
  rw [bdSays_snoc hx]
  by_cases e : n = x.1
  · rw [if_pos e, if_pos e]
    exact .inr ⟨v, x.2, rfl, rfl, hT.on hb⟩
  · rw [if_neg e, if_neg e]
    rcases h2 n with h | ⟨v, u, e1, e2, e3⟩
    · exact .inl h
    · exact .inr ⟨v, u, e1, e2, e3.on hb⟩
theorem Vs.look {W : World} {b B : Nat} {bs : List Bd} (h : Vs W b B bs) (n : List UInt8) (hn : n.length < 140737488355328) (hx : n ∉ bs.map (·.1)) : (Instr.lookup 56 (.map (some b)) (.string ⟨n.toArray⟩) true).run Try.prog W = .ok (.tuple #[zeroT, .bool false]) W := by
  obtain ⟨s, h1, h2⟩ := h
  have hs : s n = none := by
    rcases h2 n with h | ⟨v, u, e1, e2, _⟩
    · exact h.1
    · rw [bdSays_none hx] at e2; cases e2
  have := h1.look n hn
  rw [hs] at this
  exact this
theorem makeMap_hint (n : Nat) (w : World) : (Instr.makeMap 56 (some (.int .i64 n))).run Try.prog w = .ok (.map (some w.heap.size)) (w.alloc (.map #[] 0)) := by
  simp [Instr.makeMap, go_sem]
theorem cells_four {w : World} {b : Nat} {x y u z : Value} {t : TypeId} {fr : Nat × Nat} (h : w.heap[b]? = some (.cells #[x, y, u, z] t fr)) : w.cell? ⟨b, 0, none⟩ = some x ∧ w.cell? ⟨b, 1, none⟩ = some y ∧ w.cell? ⟨b, 2, none⟩ = some u ∧ w.cell? ⟨b, 3, none⟩ = some z := by
  refine ⟨?_, ?_, ?_, ?_⟩ <;> (simp only [World.cell?, h]; rfl)
set_option maxHeartbeats 16000000 in
set_option maxRecDepth 10000 in
theorem values_ok (v : Value) (bs : List Bd) (w : World) (B : Nat) (hB : B ≤ w.heap.size) (h : BdAt w B v bs) (hl : bs.length ≤ 500) (hnd : (bs.map (·.1)).Nodup) (hok : ∀ x ∈ bs, varB x.1 = true ∧ wrongT x.2.1 x.2.2 = 0) :
    Calls Try.prog 21 #[v] w fun r w' => Below w.heap.size w w' ∧ r = .returned (.tuple #[.map (some w.heap.size), .int .i64 0]) ∧ w.heap.size < w'.heap.size ∧ Vs w' w.heap.size B bs := by
  obtain ⟨ad, cap, rfl, hlb, hcl⟩ := h
  have HCL : Hid (bs ≠ [] → ∃ g o, ad = some ⟨g, o, none⟩ ∧ bs.length ≤ cap ∧ g < B ∧ ∀ j (h : j < bs.length), bs[j].1.length < 140737488355328 ∧ ∃ k n ad' len' cap', (∀ w', Below B w w' → w'.cell? ⟨g, o + j * 4, none⟩ = some (.string ⟨bs[j].1.toArray⟩) ∧ w'.cell? ⟨g, o + j * 4 + 1, none⟩ = some (.int .i64 k) ∧ w'.cell? ⟨g, o + j * 4 + 2, none⟩ = some (.string n) ∧ w'.cell? ⟨g, o + j * 4 + 3, none⟩ = some (.slice ad' len' cap')) ∧ TyAt w B bs[j].2.1 (.agg #[.int .i64 k, .string n, .slice ad' len' cap']) bs[j].2.2) := hcl
  have hmm := makeMap_hint bs.length w
  have hb0 : Below w.heap.size w (w.alloc (Obj.map #[] 0)) := (Below.refl _ _).alloc (Nat.le_refl _) _
  have H0 : Hid (w.grownBy (w.alloc (Obj.map #[] 0)) (some w.heap.size) ∧ Vs (w.alloc (Obj.map #[] 0)) w.heap.size B (bs.take 0)) := ⟨grown_of_below hb0, _, Mv.made w, fun n => .inl ⟨rfl, rfl⟩⟩
  have HND : Hid ((bs.map (·.1)).Nodup ∧ ∀ x ∈ bs, varB x.1 = true ∧ wrongT x.2.1 x.2.2 = 0) := ⟨hnd, hok⟩
  clear hcl hnd hok hb0
  go_enter Try.func21, Try.ntmps21
  go_wp2
  clear hmm
  go_loopw [15] (fun i wr => ∃ j : Nat, j ≤ bs.length ∧ i = .int .i64 j ∧ Hid (w.grownBy wr (some w.heap.size) ∧ Vs wr w.heap.size B (bs.take j))) (fun i _ => bs.length - (intOf i).toNat)
  case atStart => exact ⟨0, by omega, by go_num, H0.out⟩
  case round =>
    obtain ⟨j, hj, rfl, HP⟩ := hrel
    by_cases hlt : j < bs.length
    · have hlt' : (j : Int) < (bs.length : Int) := by omega
      obtain ⟨g0, o0, hadr, hcapt, hgB, hel⟩ := HCL.out (by intro e; rw [e] at hlt; simp at hlt)
      subst hadr
      obtain ⟨hnl, k1, n1, ad1, l1, cp1, hcel, T1⟩ := hel j hlt
      obtain ⟨hgw, hVs⟩ := HP.out
      have hbw : Below w.heap.size w wr := ⟨hgw.os, hgw.tape, hgw.output, hgw.size, fun g hg => hgw.block g hg (fun e => by cases e; omega)⟩
      have hszw := hbw.size
      have hlV := hVs.lt
      obtain ⟨p0, p1, p2, p3⟩ := hcel wr (hbw.mono hB)
      have hnew : bs[j].1 ∉ (bs.take j).map (·.1) := fun hm => by
        have hnd := HND.out.1
        have e0 : bs.map (·.1) = (bs.take j).map (·.1) ++ (bs.drop j).map (·.1) := by rw [← List.map_append, List.take_append_drop]
        rw [e0, List.nodup_append] at hnd
        exact hnd.2.2 _ hm _ (List.mem_map.2 ⟨bs[j], by rw [List.drop_eq_getElem_cons hlt]; exact List.mem_cons_self, rfl⟩) rfl
      obtain ⟨hvar, hwr⟩ := HND.out.2 bs[j] (List.getElem_mem hlt)
      have hS5 := (wrong_zero hwr).2
      obtain ⟨U, hU⟩ : ∃ U, U = wr.alloc (Obj.cells #[.string ⟨bs[j].1.toArray⟩, .int .i64 k1, .string n1, .slice ad1 l1 cp1] 46) := ⟨_, rfl⟩
      obtain ⟨V, hV⟩ : ∃ V, V = U.alloc (Obj.cells #[.int .i64 0, .string ⟨#[]⟩, .slice none 0 0] 31) := ⟨_, rfl⟩
      obtain ⟨Y, hY⟩ : ∃ Y, Y = V.alloc (Obj.cells #[.int .i64 k1, .string n1, .slice ad1 l1 cp1] 31) := ⟨_, rfl⟩
      have bU : Below wr.heap.size wr U := by rw [hU]; exact (Below.refl _ _).alloc (Nat.le_refl _) _
      have sU : U.heap.size = wr.heap.size + 1 := by rw [hU]; simp
      have bV : Below wr.heap.size wr V := by rw [hV]; exact bU.alloc bU.size _
      have sV : V.heap.size = wr.heap.size + 2 := by rw [hV]; simp [sU]
      have bY : Below wr.heap.size wr Y := by rw [hY]; exact bV.alloc bV.size _
      have sY : Y.heap.size = wr.heap.size + 3 := by rw [hY]; simp [sV]
      have xU : U.heap[wr.heap.size]? = some (.cells #[.string ⟨bs[j].1.toArray⟩, .int .i64 k1, .string n1, .slice ad1 l1 cp1] 46 (0, 0)) := by
        rw [hU]
        show (wr.heap.push _)[wr.heap.size]? = _
        simp
      have xV : V.heap[wr.heap.size]? = some (.cells #[.string ⟨bs[j].1.toArray⟩, .int .i64 k1, .string n1, .slice ad1 l1 cp1] 46 (0, 0)) := by rw [hV, Below.heap_alloc _ _ _ (by omega)]; exact xU
      have xY : Y.heap[wr.heap.size]? = some (.cells #[.string ⟨bs[j].1.toArray⟩, .int .i64 k1, .string n1, .slice ad1 l1 cp1] 46 (0, 0)) := by rw [hY, Below.heap_alloc _ _ _ (by omega)]; exact xV
      have yY : Y.heap[V.heap.size]? = some (.cells #[.int .i64 k1, .string n1, .slice ad1 l1 cp1] 31 (0, 0)) := by
        rw [hY]
        show (V.heap.push _)[V.heap.size]? = _
        simp
      obtain ⟨a0, a1, a2⟩ := heap_cells yY
      have hlk := (hVs.on (bU.block _ hlV) (bU.mono (by omega))).look bs[j].1 hnl hnew
      simp only [zeroT] at hlk
      have CV := isVariable_any ⟨bs[j].1.toArray⟩ V (by show bs[j].1.toArray.size < _; simpa using hnl)
      rw [show (⟨bs[j].1.toArray⟩ : ByteArray).data.toList = bs[j].1 from rfl, hvar] at CV
      have CW := wrong_one bs[j].2.1 k1 n1 ad1 l1 cp1 bs[j].2.2 w Y B V.heap.size (by omega) (by omega) T1 ((hbw.trans (bY.mono hbw.size)).mono hB) (by omega) a0 a1 a2
      rw [hwr] at CW
      have HUP : Hid (∀ w5, Below Y.heap.size Y w5 → (w5.cell? ⟨wr.heap.size, 0, none⟩ = some (.string ⟨bs[j].1.toArray⟩) ∧ w5.cell? ⟨wr.heap.size, 1, none⟩ = some (.int .i64 k1) ∧ w5.cell? ⟨wr.heap.size, 2, none⟩ = some (.string n1) ∧ w5.cell? ⟨wr.heap.size, 3, none⟩ = some (.slice ad1 l1 cp1)) ∧ ∃ w6, (Instr.mapUpdate 56 (.map (some w.heap.size)) (.string ⟨bs[j].1.toArray⟩) (.agg #[.int .i64 k1, .string n1, .slice ad1 l1 cp1])).run Try.prog w5 = .ok () w6 ∧ w.grownBy w6 (some w.heap.size) ∧ Vs w6 w.heap.size B (bs.take (j + 1))) := fun w5 hb5 => by
        have b5 : Below wr.heap.size wr w5 := bY.trans (hb5.mono (by omega))
        obtain ⟨w6, r1, r2, r3⟩ := (hVs.on (b5.block _ hlV) (b5.mono (by omega))).put (x := bs[j]) hB (by rw [List.length_take]; omega) hnl hnew (T1.on ((hbw.trans (b5.mono hbw.size)).mono hB))
        refine ⟨cells_four ((hb5.block _ (lt_of_heap xY)).trans xY), w6, r1, grown_trans hgw (grown_trans (grown_of_below b5) r3), ?_⟩
        rw [List.take_succ_eq_append_getElem hlt]
        exact r2
      obtain ⟨u0, u1, u2, u3⟩ := cells_four xU
      obtain ⟨v0, v1, v2, v3⟩ := cells_four xV
      have hj5 : j ≤ 500 := by omega
      generalize bs[j].1 = nj at *
      clear hel hcel T1 HP hgw hVs hbw hszw hlV hnew hvar hwr hS5 bU sU bV sV bY sY xU xV xY yY a0 a1 a2 HCL H0 HND hnl
      go_upto_region 5 with fail
      rw [← hU]
      clear hU p0 p1 p2 p3
      go_upto_region 6 with fail
      rw [← hV]
      clear hV u0 u1 u2 u3 hlk
      go_wp2_with (first
        | (go_at_call 37; (with_reducible refine Calls.mono CV ?_); rintro e' w4 ⟨rfl, rfl⟩)
        | (rw [← hY]; go_at_call 16; (with_reducible refine Calls.mono CW ?_); rintro e' w5 ⟨rfl, hb5⟩; obtain ⟨⟨s0, s1, s2, s3⟩, w6, hup, HG6⟩ := HUP.out w5 hb5; have HG6 : Hid (w.grownBy w6 (some w.heap.size) ∧ Vs w6 w.heap.size B (bs.take (j + 1))) := HG6))
      go_roundw
      case rel => exact ⟨j + 1, by omega, by go_num, HG6.out⟩
      case measure => simp [intOf]; omega
    · have h1 : ¬ (j : Int) < (bs.length : Int) := by omega
      have HE : Hid (w.grownBy wr (some w.heap.size) ∧ Vs wr w.heap.size B bs) := by
        have := HP.out
        rw [List.take_of_length_le (by omega)] at this
        exact this
      clear HP H0 HCL HND
      go_wp2
      obtain ⟨hg, hV⟩ := HE.out
      refine bodyPost_ret (v := .tuple #[.map (some w.heap.size), .int .i64 0]) (by simp [results, Try.results21, go_sem]) rfl ?_
      exact ⟨⟨hg.os, hg.tape, hg.output, hg.size, fun g hg' => hg.block g hg' (fun e => by cases e; omega)⟩, rfl, hV.lt, hV⟩
end Go.Proofs.Ytikpipenhamdbaa

namespace Go.Proofs.Ytikpipenhamdbaa
open Go.RowKit

/-- A tree counted as one of E levels. -/
def liftT : (E : Nat) → Sigma Tn → Option (Tn E)
  | 0, _ => none
  | E + 1, u => if h : u.1 = E + 1 then some (h ▸ u.2) else (liftT E u).map (up E)
theorem TyS.up {w : World} {S : Nat → Prop} : ∀ (d : Nat) (x : Value) (t : Tn d), TyS w S d x t → TyS w S (d + 1) x (up d t)
  | 0, _, _, h => h.elim
  | d + 1, _, ((k, n), ts), ⟨v, hx, h1, h2, h⟩ => by
    have h2' : (ts.map (Proofs.Ytikpipenhamdbaa.up d)).length < 140737488355328 := by rw [List.length_map]; exact h2
    refine ⟨v, hx, h1, h2', ?_⟩
    rcases h with ⟨e, h⟩ | ⟨g, o, cap, hv, h0, hc, hg, h⟩
    · refine .inl ⟨?_, h⟩
      show ts.map _ = []
      have e : ts = [] := e
      rw [e]; rfl
    · refine .inr ⟨g, o, cap, ?_, ?_, ?_, hg, fun j hj => ?_⟩
      · show v = .slice _ (ts.map _).length cap
        rw [List.length_map]; exact hv
      · show ts.map _ ≠ []
        have h0 : ts ≠ [] := h0
        simpa using h0
      · show (ts.map _).length ≤ cap
        rw [List.length_map]; exact hc
      · have hj : j < (ts.map (Proofs.Ytikpipenhamdbaa.up d)).length := hj
        obtain ⟨k', n', u, c0, c1, c2, ht⟩ := h j (by simpa using hj)
        refine ⟨k', n', u, c0, c1, c2, ?_⟩
        show TyS w S (d + 1) _ (ts.map (Proofs.Ytikpipenhamdbaa.up d))[j]
        rw [List.getElem_map]
        exact TyS.up d _ _ ht
theorem TyS.upN {w : World} {S : Nat → Prop} (e : Nat) (u : Tn e) (x : Value) (h : TyS w S e x u) : ∀ d, TyS w S (e + d) x (upN e u d)
  | 0 => h
  | d + 1 => TyS.up (e + d) _ _ (TyS.upN e u x h d)
theorem lift_at : ∀ (E : Nat) (u : Sigma Tn), u.1 ≤ E → ∃ t : Tn E, liftT E u = some t ∧ flat E t = flat u.1 u.2 ∧ (∀ (W : World) (B : Nat) (v : Value), TyAt W B u.1 v u.2 → TyAt W B E v t) ∧ ∀ (W : World) (S : Nat → Prop) (v : Value), TyS W S u.1 v u.2 → TyS W S E v t
  | 0, ⟨0, u⟩, _ => u.elim
  | 0, ⟨d + 1, u⟩, h => by simp at h
  | E + 1, ⟨d, u⟩, h => by
    rw [liftT]
    by_cases e : d = E + 1
    · subst e
      rw [dif_pos rfl]
      exact ⟨u, rfl, rfl, fun W B v h => h, fun W S v h => h⟩
    · rw [dif_neg e]
      obtain ⟨t, h1, h2, h3, h4⟩ := lift_at E ⟨d, u⟩ (by show d ≤ E; have : d ≤ E + 1 := h; omega)
      rw [h1]
      exact ⟨up E t, rfl, (flat_up E t).trans h2, fun W B v h => TyAt.up E _ _ (h3 W B v h), fun W S v h => TyS.up E _ _ (h4 W S v h)⟩
theorem says_mem {bs : List Bd} {n : List UInt8} {u : Sigma Tn} (h : bdSays bs n = some u) : ∃ x ∈ bs, x.1 = n ∧ x.2 = u := by
  unfold bdSays at h
  obtain ⟨x, hx, hu⟩ := Option.map_eq_some_iff.1 h
  exact ⟨x, List.mem_of_find?_eq_some hx, by simpa using List.find?_some hx, hu⟩
theorem sum_le {l : List Nat} {x : Nat} (h : x ∈ l) : x ≤ l.sum := by
  induction l with
  | nil => cases h
  | cons a r ih =>
    rw [List.sum_cons]
    rcases List.mem_cons.1 h with rfl | h
    · omega
    · have := ih h; omega
/-- What the bounds say, as rows. -/
def bdRow (bs : List Bd) : Sb := fun n => (bdSays bs n).map fun u => flat u.1 u.2
/-- What the bounds say, as trees of E levels. -/
def bdLift (bs : List Bd) (E : Nat) (n : List UInt8) : Option (Tn E) := (bdSays bs n).bind (liftT E)
theorem bdLift_row {bs : List Bd} {E : Nat} (hE : ∀ n u, bdSays bs n = some u → u.1 ≤ E) : (fun n => (bdLift bs E n).map (flat E)) = bdRow bs := by
  funext n
  unfold bdLift bdRow
  cases e2 : bdSays bs n with
  | none => rfl
  | some u =>
    obtain ⟨t', a1, a2, _⟩ := lift_at E u (hE n u e2)
    show (liftT E u).map (flat E) = some (flat u.1 u.2)
    rw [a1, ← a2]
    rfl
end Go.Proofs.Ytikpipenhamdbaa

namespace Go.Proofs.Ytikpipenhamdbaa
open Go.RowKit

/-- What is wrong with a bound, those ahead of it being right. -/
def badAt (bs : List Bd) (j : Nat) : Int := match bs[j]? with
  | some b => if varB b.1 = true ∧ b.1 ∉ (bs.take j).map (·.1) then wrongT b.2.1 b.2.2 else 53
  | none => 0
/-- What is wrong with the first of so many bounds with which something is. -/
def valE (bs : List Bd) : Nat → Int
  | 0 => 0
  | n + 1 => if valE bs n = 0 then badAt bs n else valE bs n
theorem valE_stay {bs : List Bd} {j : Nat} (h : valE bs j ≠ 0) : ∀ k, valE bs (j + k) = valE bs j
  | 0 => rfl
  | k + 1 => by
    have := valE_stay h k
    show (if valE bs (j + k) = 0 then badAt bs (j + k) else valE bs (j + k)) = _
    rw [this, if_neg h]
theorem valE_bad {bs : List Bd} {j N : Nat} (h0 : valE bs j = 0) (h : badAt bs j ≠ 0) (hj : j < N) : valE bs N = badAt bs j := by
  have e : valE bs (j + 1) = badAt bs j := by rw [valE, if_pos h0]
  obtain ⟨k, rfl⟩ : ∃ k, N = j + 1 + k := ⟨N - (j + 1), by omega⟩
  rw [valE_stay (by rw [e]; exact h) k, e]
theorem valE_next {bs : List Bd} {j : Nat} (h0 : valE bs j = 0) (h : badAt bs j = 0) : valE bs (j + 1) = 0 := by rw [valE, if_pos h0, h]
theorem badAt_of {bs : List Bd} {j : Nat} (hj : j < bs.length) : badAt bs j = if varB bs[j].1 = true ∧ bs[j].1 ∉ (bs.take j).map (·.1) then wrongT bs[j].2.1 bs[j].2.2 else 53 := by
  unfold badAt
  rw [List.getElem?_eq_getElem hj]
theorem valE_good {bs : List Bd} : ∀ {j : Nat}, j ≤ bs.length → valE bs j = 0 → ((bs.take j).map (·.1)).Nodup ∧ ∀ x ∈ bs.take j, varB x.1 = true ∧ wrongT x.2.1 x.2.2 = 0
  | 0, _, _ => by simp
  | j + 1, hj, h => by
    have hj : j < bs.length := hj
    rw [valE] at h
    split at h
    · rename_i h0
      obtain ⟨h1, h2⟩ := valE_good (Nat.le_of_lt hj) h0
      rw [badAt_of hj] at h
      split at h
      · rename_i h3
        rw [List.take_succ_eq_append_getElem hj, List.map_append, List.nodup_append]
        refine ⟨⟨h1, by simp, fun a ha b hb e => ?_⟩, fun x hx => ?_⟩
        · simp at hb
          rw [e, hb] at ha
          exact h3.2 ha
        · rcases List.mem_append.1 hx with hx | hx
          · exact h2 x hx
          · simp at hx
            rw [hx]
            exact ⟨h3.1, h⟩
      · omega
    · rename_i h0; exact absurd h h0
/-- Which error Apply answers. -/
def applyE (bs : List Bd) (d : Nat) (t : Tn d) : Int :=
  if 100000 < bs.length then 2 else if valE bs bs.length = 0 then (if wrongT d t = 0 then (if (subF (bdRow bs) (flat d t)).length ≤ 500 then 0 else 4) else wrongT d t) else valE bs bs.length
/-- Which row of nodes. -/
def applyF (bs : List Bd) (d : Nat) (t : Tn d) : List Nd := if applyE bs d t = 0 then subF (bdRow bs) (flat d t) else [(0, [], 0)]
/-- What Apply answers, to be read. -/
def ApPost (bs : List Bd) (d : Nat) (t : Tn d) (w : World) (r : Ending) (w' : World) : Prop :=
  Below w.heap.size w w' ∧ ∃ (k : Int) (n : ByteArray) (ad : Option Addr) (len cap D : Nat) (tt : Tn D), r = .returned (.tuple #[.agg #[.int .i64 k, .string n, .slice ad len cap], .int .i64 (applyE bs d t)]) ∧ TyAt w' w'.heap.size D (.agg #[.int .i64 k, .string n, .slice ad len cap]) tt ∧ flat D tt = applyF bs d t
theorem ApPost.bad {bs : List Bd} {d : Nat} {t : Tn d} {w w' : World} (hb : Below w.heap.size w w') (c : Int) (h : applyE bs d t = c) (h0 : c ≠ 0) : ApPost bs d t w (.returned (.tuple #[.agg #[.int .i64 0, .string ⟨#[]⟩, .slice none 0 0], .int .i64 c])) w' :=
  ⟨hb, 0, ⟨#[]⟩, none, 0, 0, 1, ((0, []), []), by rw [h], zero_at _ _ none 0, by unfold applyF; rw [h, if_neg h0]; rfl⟩
/-- What the bounds' trees are bounded by. -/
def bdLev (bs : List Bd) : Nat := (bs.map fun x => x.2.1).sum
theorem bdLev_le {bs : List Bd} {n : List UInt8} {u : Sigma Tn} {M : Nat} (hM : ∀ x ∈ bs, (flat x.2.1 x.2.2).length ≤ M) (h : bdSays bs n = some u) : u.1 ≤ bdLev bs ∧ (flat u.1 u.2).length ≤ M := by
  obtain ⟨y, hy, _, e⟩ := says_mem h
  rw [← e]
  exact ⟨sum_le (List.mem_map.2 ⟨y, hy, rfl⟩), hM y hy⟩
theorem sub_lev {bs : List Bd} {d : Nat} {t : Tn d} (hf : formB d t = true) : flat (bdLev bs + d) (subT (bdLev bs) (bdLift bs (bdLev bs)) d t) = subF (bdRow bs) (flat d t) := by
  rw [sub_flat _ _ d t hf, bdLift_row fun n u h => by
    obtain ⟨y, hy, _, e⟩ := says_mem h
    rw [← e]
    exact sum_le (List.mem_map.2 ⟨y, hy, rfl⟩)]
end Go.Proofs.Ytikpipenhamdbaa

namespace Go.Proofs.Ytikpipenhamdbaa
open Go.RowKit

theorem says_none {bs : List Bd} {n : List UInt8} (h : bdSays bs n = none) : n ∉ bs.map (·.1) := by
  unfold bdSays at h
  rw [Option.map_eq_none_iff, List.find?_eq_none] at h
  intro hm
  obtain ⟨x, hx, e⟩ := List.mem_map.1 hm
  exact h x hx (by simpa using e)
set_option maxHeartbeats 16000000 in
set_option maxRecDepth 10000 in
theorem values_any (v : Value) (bs : List Bd) (w : World) (B : Nat) (hB : B ≤ w.heap.size) (h : BdAt w B v bs) (hl : bs.length ≤ 100000) (hM : ∀ x ∈ bs, (flat x.2.1 x.2.2).length ≤ 4194304) :
    Calls Try.prog 21 #[v] w fun r w' => Below w.heap.size w w' ∧ ((valE bs bs.length = 0 ∧ r = .returned (.tuple #[.map (some w.heap.size), .int .i64 0]) ∧ w.heap.size < w'.heap.size ∧ Vs w' w.heap.size B bs) ∨ (valE bs bs.length ≠ 0 ∧ r = .returned (.tuple #[.map none, .int .i64 (valE bs bs.length)]))) := by
  obtain ⟨ad, cap, rfl, hlb, hcl⟩ := h
  have HCL : Hid (bs ≠ [] → ∃ g o, ad = some ⟨g, o, none⟩ ∧ bs.length ≤ cap ∧ g < B ∧ ∀ j (h : j < bs.length), bs[j].1.length < 140737488355328 ∧ ∃ k n ad' len' cap', (∀ w', Below B w w' → w'.cell? ⟨g, o + j * 4, none⟩ = some (.string ⟨bs[j].1.toArray⟩) ∧ w'.cell? ⟨g, o + j * 4 + 1, none⟩ = some (.int .i64 k) ∧ w'.cell? ⟨g, o + j * 4 + 2, none⟩ = some (.string n) ∧ w'.cell? ⟨g, o + j * 4 + 3, none⟩ = some (.slice ad' len' cap')) ∧ TyAt w B bs[j].2.1 (.agg #[.int .i64 k, .string n, .slice ad' len' cap']) bs[j].2.2) := hcl
  have hmm := makeMap_hint bs.length w
  have hb0 : Below w.heap.size w (w.alloc (Obj.map #[] 0)) := (Below.refl _ _).alloc (Nat.le_refl _) _
  have H0 : Hid (w.grownBy (w.alloc (Obj.map #[] 0)) (some w.heap.size) ∧ Vs (w.alloc (Obj.map #[] 0)) w.heap.size B (bs.take 0)) := ⟨grown_of_below hb0, _, Mv.made w, fun n => .inl ⟨rfl, rfl⟩⟩
  have HM : Hid (∀ x ∈ bs, (flat x.2.1 x.2.2).length ≤ 4194304) := hM
  clear hcl hM hb0
  go_enter Try.func21, Try.ntmps21
  go_wp2
  clear hmm
  go_loopw [15] (fun i wr => ∃ j : Nat, j ≤ bs.length ∧ i = .int .i64 j ∧ Hid (w.grownBy wr (some w.heap.size) ∧ Vs wr w.heap.size B (bs.take j)) ∧ Hid (valE bs j = 0)) (fun i _ => bs.length - (intOf i).toNat)
  case atStart => exact ⟨0, by omega, by go_num, H0.out, rfl⟩
  case round =>
    obtain ⟨j, hj, rfl, HP, HE0⟩ := hrel
    by_cases hlt : j < bs.length
    · have hlt' : (j : Int) < (bs.length : Int) := by omega
      obtain ⟨g0, o0, hadr, hcapt, hgB, hel⟩ := HCL.out (by intro e; rw [e] at hlt; simp at hlt)
      subst hadr
      obtain ⟨hnl, k1, n1, ad1, l1, cp1, hcel, T1⟩ := hel j hlt
      obtain ⟨hgw, hVs⟩ := HP.out
      have hbw : Below w.heap.size w wr := ⟨hgw.os, hgw.tape, hgw.output, hgw.size, fun g hg => hgw.block g hg (fun e => by cases e; omega)⟩
      have hszw := hbw.size
      have hlV := hVs.lt
      obtain ⟨p0, p1, p2, p3⟩ := hcel wr (hbw.mono hB)
      have hbad := badAt_of hlt
      have HE1 : Hid (∀ c, badAt bs j = c → c ≠ 0 → valE bs bs.length = c) := fun c hc h0 => by rw [valE_bad HE0.out (by rw [hc]; exact h0) hlt, hc]
      have HBG : Hid (Below w.heap.size w wr) := hbw
      have hS5 := HM.out bs[j] (List.getElem_mem hlt)
      obtain ⟨U, hU⟩ : ∃ U, U = wr.alloc (Obj.cells #[.string ⟨bs[j].1.toArray⟩, .int .i64 k1, .string n1, .slice ad1 l1 cp1] 46) := ⟨_, rfl⟩
      obtain ⟨V, hV⟩ : ∃ V, V = U.alloc (Obj.cells #[.int .i64 0, .string ⟨#[]⟩, .slice none 0 0] 31) := ⟨_, rfl⟩
      obtain ⟨Y, hY⟩ : ∃ Y, Y = V.alloc (Obj.cells #[.int .i64 k1, .string n1, .slice ad1 l1 cp1] 31) := ⟨_, rfl⟩
      have bU : Below wr.heap.size wr U := by rw [hU]; exact (Below.refl _ _).alloc (Nat.le_refl _) _
      have sU : U.heap.size = wr.heap.size + 1 := by rw [hU]; simp
      have bV : Below wr.heap.size wr V := by rw [hV]; exact bU.alloc bU.size _
      have sV : V.heap.size = wr.heap.size + 2 := by rw [hV]; simp [sU]
      have bY : Below wr.heap.size wr Y := by rw [hY]; exact bV.alloc bV.size _
      have sY : Y.heap.size = wr.heap.size + 3 := by rw [hY]; simp [sV]
      have xU : U.heap[wr.heap.size]? = some (.cells #[.string ⟨bs[j].1.toArray⟩, .int .i64 k1, .string n1, .slice ad1 l1 cp1] 46 (0, 0)) := by
        rw [hU]
        show (wr.heap.push _)[wr.heap.size]? = _
        simp
      have xV : V.heap[wr.heap.size]? = some (.cells #[.string ⟨bs[j].1.toArray⟩, .int .i64 k1, .string n1, .slice ad1 l1 cp1] 46 (0, 0)) := by rw [hV, Below.heap_alloc _ _ _ (by omega)]; exact xU
      have xY : Y.heap[wr.heap.size]? = some (.cells #[.string ⟨bs[j].1.toArray⟩, .int .i64 k1, .string n1, .slice ad1 l1 cp1] 46 (0, 0)) := by rw [hY, Below.heap_alloc _ _ _ (by omega)]; exact xV
      have yY : Y.heap[V.heap.size]? = some (.cells #[.int .i64 k1, .string n1, .slice ad1 l1 cp1] 31 (0, 0)) := by
        rw [hY]
        show (V.heap.push _)[V.heap.size]? = _
        simp
      obtain ⟨a0, a1, a2⟩ := heap_cells yY
      by_cases hnew : bs[j].1 ∉ (bs.take j).map (·.1)
      · have hlk := (hVs.on (bU.block _ hlV) (bU.mono (by omega))).look bs[j].1 hnl hnew
        simp only [zeroT] at hlk
        have CV := isVariable_any ⟨bs[j].1.toArray⟩ V (by show bs[j].1.toArray.size < _; simpa using hnl)
        rw [show (⟨bs[j].1.toArray⟩ : ByteArray).data.toList = bs[j].1 from rfl] at CV
        obtain ⟨u0, u1, u2, u3⟩ := cells_four xU
        obtain ⟨v0, v1, v2, v3⟩ := cells_four xV
        have hj5 : j ≤ 100000 := by omega
        have HBV : Hid (Below w.heap.size w V) := hbw.trans (bV.mono hbw.size)
        cases hvar : varB bs[j].1 with
        | false =>
          rw [hvar] at CV
          have HF : Hid (valE bs bs.length = 53) := HE1.out 53 (by rw [hbad, if_neg (fun h => by rw [hvar] at h; cases h.1)]) (by omega)
          generalize bs[j].1 = nj at *
          clear hel hcel T1 HP hgw hVs hbw hszw hlV hnew hS5 bU sU bV sV bY sY xU xV xY yY a0 a1 a2 HCL H0 HM hnl hbad HE0 hY
          go_upto_region 5 with fail
          rw [← hU]
          clear hU p0 p1 p2 p3
          go_upto_region 6 with fail
          rw [← hV]
          clear hV u0 u1 u2 u3 hlk
          go_wp2_with (go_at_call 37; (with_reducible refine Calls.mono CV ?_); rintro e' w4 ⟨rfl, rfl⟩)
          refine bodyPost_ret (v := .tuple #[.map none, .int .i64 53]) (by simp [results, Try.results21, go_sem]) rfl ?_
          exact ⟨HBV.out, .inr ⟨by rw [HF.out]; omega, by rw [HF.out]⟩⟩
        | true =>
          rw [hvar] at CV
          have hbc : badAt bs j = wrongT bs[j].2.1 bs[j].2.2 := by rw [hbad, if_pos ⟨hvar, hnew⟩]
          have CW := wrong_one bs[j].2.1 k1 n1 ad1 l1 cp1 bs[j].2.2 w Y B V.heap.size (by omega) (by omega) T1 ((hbw.trans (bY.mono hbw.size)).mono hB) (by omega) a0 a1 a2
          have HBY : Hid (∀ w5, Below Y.heap.size Y w5 → Below w.heap.size w w5) := fun w5 hb5 => hbw.trans ((bY.trans (hb5.mono (by omega))).mono hbw.size)
          have HUP : Hid (∀ w5, Below Y.heap.size Y w5 → (w5.cell? ⟨wr.heap.size, 0, none⟩ = some (.string ⟨bs[j].1.toArray⟩) ∧ w5.cell? ⟨wr.heap.size, 1, none⟩ = some (.int .i64 k1) ∧ w5.cell? ⟨wr.heap.size, 2, none⟩ = some (.string n1) ∧ w5.cell? ⟨wr.heap.size, 3, none⟩ = some (.slice ad1 l1 cp1)) ∧ ∃ w6, (Instr.mapUpdate 56 (.map (some w.heap.size)) (.string ⟨bs[j].1.toArray⟩) (.agg #[.int .i64 k1, .string n1, .slice ad1 l1 cp1])).run Try.prog w5 = .ok () w6 ∧ w.grownBy w6 (some w.heap.size) ∧ Vs w6 w.heap.size B (bs.take (j + 1))) := fun w5 hb5 => by
            have b5 : Below wr.heap.size wr w5 := bY.trans (hb5.mono (by omega))
            obtain ⟨w6, r1, r2, r3⟩ := (hVs.on (b5.block _ hlV) (b5.mono (by omega))).put (x := bs[j]) hB (by rw [List.length_take]; omega) hnl hnew (T1.on ((hbw.trans (b5.mono hbw.size)).mono hB))
            refine ⟨cells_four ((hb5.block _ (lt_of_heap xY)).trans xY), w6, r1, grown_trans hgw (grown_trans (grown_of_below b5) r3), ?_⟩
            rw [List.take_succ_eq_append_getElem hlt]
            exact r2
          by_cases hwr : wrongT bs[j].2.1 bs[j].2.2 = 0
          · rw [hwr] at CW hbc
            have HE2 : Hid (valE bs (j + 1) = 0) := valE_next HE0.out hbc
            generalize bs[j].1 = nj at *
            clear hel hcel T1 HP hgw hVs hbw hszw hlV hnew hS5 bU sU bV sV bY sY xU xV xY yY a0 a1 a2 HCL H0 HM hnl hbad HE0 hwr hbc
            go_upto_region 5 with fail
            rw [← hU]
            clear hU p0 p1 p2 p3
            go_upto_region 6 with fail
            rw [← hV]
            clear hV u0 u1 u2 u3 hlk
            go_wp2_with (first
              | (go_at_call 37; (with_reducible refine Calls.mono CV ?_); rintro e' w4 ⟨rfl, rfl⟩)
              | (rw [← hY]; go_at_call 16; (with_reducible refine Calls.mono CW ?_); rintro e' w5 ⟨rfl, hb5⟩; obtain ⟨⟨s0, s1, s2, s3⟩, w6, hup, HG6⟩ := HUP.out w5 hb5; have HG6 : Hid (w.grownBy w6 (some w.heap.size) ∧ Vs w6 w.heap.size B (bs.take (j + 1))) := HG6))
            go_roundw
            case rel => exact ⟨j + 1, by omega, by go_num, HG6.out, HE2.out⟩
            case measure => simp [intOf]; omega
          · have HF : Hid (valE bs bs.length = wrongT bs[j].2.1 bs[j].2.2 ∧ wrongT bs[j].2.1 bs[j].2.2 ≠ 0) := ⟨HE1.out _ hbc hwr, hwr⟩
            have hcb : (wrongT bs[j].2.1 bs[j].2.2 != 0) = true := by simpa using hwr
            generalize wrongT bs[j].2.1 bs[j].2.2 = c at *
            generalize bs[j].1 = nj at *
            clear hel hcel T1 HP hgw hVs hbw hszw hlV hnew hS5 bU sU bV sV bY sY xU xV xY yY a0 a1 a2 HCL H0 HM hnl hbad HE0 hwr hbc
            go_upto_region 5 with fail
            rw [← hU]
            clear hU p0 p1 p2 p3
            go_upto_region 6 with fail
            rw [← hV]
            clear hV u0 u1 u2 u3 hlk
            go_wp2_with (first
              | (go_at_call 37; (with_reducible refine Calls.mono CV ?_); rintro e' w4 ⟨rfl, rfl⟩)
              | (rw [← hY]; go_at_call 16; (with_reducible refine Calls.mono CW ?_); rintro e' w5 ⟨rfl, hb5⟩))
            refine bodyPost_ret (v := .tuple #[.map none, .int .i64 c]) (by simp [results, Try.results21, go_sem]) rfl ?_
            exact ⟨HBY.out _ hb5, .inr ⟨by rw [HF.out.1]; exact HF.out.2, by rw [HF.out.1]⟩⟩
      · have hmem := Decidable.not_not.1 hnew
        have HF : Hid (valE bs bs.length = 53) := HE1.out 53 (by rw [hbad, if_neg (fun h => h.2 hmem)]) (by omega)
        obtain ⟨s, hMv, hsay⟩ := hVs.on (bU.block _ hlV) (bU.mono (by omega))
        have hlk := hMv.look bs[j].1 hnl
        rcases hsay bs[j].1 with ⟨_, e2⟩ | ⟨v, u, e1, e2, hTv⟩
        · exact absurd hmem (says_none e2)
        · rw [e1] at hlk
          simp only [Option.getD_some, Option.isSome_some] at hlk
          obtain ⟨k9, n9, ad9, l9, c9, rfl⟩ := tree_form hTv
          obtain ⟨u0, u1, u2, u3⟩ := cells_four xU
          have HBU : Hid (∀ o, Below w.heap.size w (U.alloc o)) := fun o => hbw.trans ((bU.alloc bU.size o).mono hbw.size)
          generalize bs[j].1 = nj at *
          clear hel hcel T1 HP hgw hVs hbw hszw hlV hnew hS5 bU sU bV sV bY sY xU xV xY yY a0 a1 a2 HCL H0 HM hnl hbad HE0 hmem hMv hsay e1 e2 hTv hV hY
          go_upto_region 5 with fail
          rw [← hU]
          clear hU p0 p1 p2 p3
          go_wp2_with fail
          refine bodyPost_ret (v := .tuple #[.map none, .int .i64 53]) (by simp [results, Try.results21, go_sem]) rfl ?_
          exact ⟨HBU.out _, .inr ⟨by rw [HF.out]; omega, by rw [HF.out]⟩⟩
    · have h1 : ¬ (j : Int) < (bs.length : Int) := by omega
      have HE : Hid (w.grownBy wr (some w.heap.size) ∧ Vs wr w.heap.size B bs) := by
        have := HP.out
        rw [List.take_of_length_le (by omega)] at this
        exact this
      have HV0 : Hid (valE bs bs.length = 0) := by have := HE0.out; rw [show j = bs.length by omega] at this; exact this
      clear HP H0 HCL HM HE0
      go_wp2
      obtain ⟨hg, hV⟩ := HE.out
      refine bodyPost_ret (v := .tuple #[.map (some w.heap.size), .int .i64 0]) (by simp [results, Try.results21, go_sem]) rfl ?_
      exact ⟨⟨hg.os, hg.tape, hg.output, hg.size, fun g hg' => hg.block g hg' (fun e => by cases e; omega)⟩, .inl ⟨HV0.out, rfl, hV.lt, hV⟩⟩
end Go.Proofs.Ytikpipenhamdbaa
