/- areRight: columns, and all that lie within them. -/
import Derived.Test.YtpdmkhnonbbhnaaVa
import Derived.Test.YtpdmkhnonbbhnaaTk
import Derived.Deep.CutRange
namespace Go.Proofs.Ytpdmkhnonbbhnaa
open Go.RowKit Go.Maps

theorem own_shrink {w : World} {base g cap n m : Nat} {e : TypeId} {xs : List Value} (h : w.ownsRow base e 1 (.slice (some ⟨g, 0, none⟩) n cap) n xs) (hm : m ≤ n) : w.ownsRow base e 1 (.slice (some ⟨g, 0, none⟩) m cap) m (xs.take m) := by
  obtain ⟨h1, h2⟩ := h
  rcases h2 with ⟨h2, _⟩ | ⟨g', cap', cur, h2, h3, h4, h5, h6, h7, h8⟩
  · cases h2
  · injection h2 with e1 e2 e3
    injection e1 with e1
    injection e1 with e1
    subst e1 e3
    refine ⟨by rw [List.length_take]; omega, .inr ⟨g, cap, cur, rfl, h3, h4, by omega, h6, h7, ?_⟩⟩
    rw [← h8, List.take_take]
    congr 1
    omega
/-- Between the rounds of areRight: what waits (L), in the row v; T are the blocks that it leads to. -/
structure Ar (w : World) (fv mv : Value) (T : Nat → Prop) (L : List (Nat × Col)) (v : Value) (wr : World) : Prop where
  below : Below w.heap.size w wr
  kb : wr.heap[w.heap.size]? = some (.cells #[fv, mv] 58 (0, 0))
  own : wr.ownsRow (w.heap.size + 1) 88 1 v L.length (L.map ptrOf)
  set : ∀ x, T x → x < wr.heap.size ∧ v.ownBlock ≠ some x
  cols : ∀ s ∈ L, ColP wr T s.1 s.2
theorem Ar.lt {w : World} {fv mv : Value} {T : Nat → Prop} {L : List (Nat × Col)} {v : Value} {wr : World} (h : Ar w fv mv T L v wr) : w.heap.size < wr.heap.size := lt_of_heap h.kb
theorem Ar.on {w : World} {fv mv : Value} {T : Nat → Prop} {L : List (Nat × Col)} {v : Value} {wr wi : World} (h : Ar w fv mv T L v wr) (hb : Below wr.heap.size wr wi) : Ar w fv mv T L v wi := by
  have hl := h.lt
  refine ⟨h.below.trans (hb.mono h.below.size), (hb.block _ hl).trans h.kb, ?_, fun x hx => ⟨Nat.lt_of_lt_of_le (h.set x hx).1 hb.size, (h.set x hx).2⟩, fun s hs => (h.cols s hs).on fun b hb' => hb.block b (h.set b hb').1⟩
  obtain ⟨h1, h2⟩ := h.own
  refine ⟨h1, ?_⟩
  rcases h2 with h2 | ⟨g, cap, cur, h2, h3, h4, h5⟩
  · exact .inl h2
  · exact .inr ⟨g, cap, cur, h2, h3, (hb.block _ (lt_of_heap h4)).trans h4, h5⟩
theorem Ar.pop {w : World} {fv mv : Value} {T : Nat → Prop} {L : List (Nat × Col)} {x : Nat × Col} {g n cap : Nat} {wr : World} (h : Ar w fv mv T (L ++ [x]) (.slice (some ⟨g, 0, none⟩) n cap) wr) : Ar w fv mv T L (.slice (some ⟨g, 0, none⟩) L.length cap) wr := by
  have ho := h.own
  have hn : n = (L ++ [x]).length := by
    obtain ⟨_, h2⟩ := ho
    rcases h2 with ⟨h2, _⟩ | ⟨g', cap', cur, h2, _⟩
    · cases h2
    · injection h2
  subst hn
  refine ⟨h.below, h.kb, ?_, h.set, fun s hs => h.cols s (List.mem_append.2 (.inl hs))⟩
  have := own_shrink (m := L.length) ho (by simp)
  rw [List.map_append, List.take_left' (by simp)] at this
  exact this
theorem Ar.more {w : World} {fv mv : Value} {T : Nat → Prop} {L M : List (Nat × Col)} {v v' : Value} {wr w' : World} (h : Ar w fv mv T L v wr) (T' : Nat → Prop) (hT : ∀ x, T x → T' x) (hT' : ∀ x, T' x → x < wr.heap.size ∧ v.ownBlock ≠ some x) (hM : ∀ s ∈ M, ColP wr T' s.1 s.2) (ho : w'.ownsRow (w.heap.size + 1) 88 1 v' (L.length + M.length) (L.map ptrOf ++ M.map ptrOf)) (hg : wr.grownBy w' v.ownBlock) (hv : v'.ownBlock = v.ownBlock ∨ v'.ownBlock = some wr.heap.size) : Ar w fv mv T' (L ++ M) v' w' := by
  have hl := h.lt
  have hb : ∀ x, v.ownBlock = some x → w.heap.size + 1 ≤ x := fun x e => (h.own.lt x e).1
  have hk : Keeps T' wr w' := fun x hx => hg.block x (hT' x hx).1 (fun e => (hT' x hx).2 e.symm)
  refine ⟨h.below.grown hg h.below.size (fun x e => by have := hb x e; omega), (hg.block _ hl (fun e => by have := hb _ e.symm; omega)).trans h.kb, ?_, fun x hx => ⟨Nat.lt_of_lt_of_le (hT' x hx).1 hg.size, ?_⟩, fun s hs => ?_⟩
  · rw [List.length_append, List.map_append]
    exact ho
  · rcases hv with e | e
    · rw [e]; exact (hT' x hx).2
    · rw [e]
      intro e2
      injection e2 with e2
      have := (hT' x hx).1
      omega
  · rcases List.mem_append.1 hs with hs | hs
    · exact ((h.cols s hs).up hT).on hk
    · exact (hM s hs).on hk
def ArPost (k : Kn) (cols : List Col) (w : World) (r : Ending) (w' : World) : Prop := Below w.heap.size w w' ∧ ∃ a : Bool, r = .returned (.bool a) ∧ (a = true ↔ ∀ c ∈ cols, Rall k c.2.2)
set_option maxHeartbeats 4000000 in
set_option maxRecDepth 10000 in
theorem clone_cols {w : World} {S : Nat → Prop} (cv : Value) (cols : List Col) (hS : ∀ b, S b → b < w.heap.size) (hc : Cols w S cv cols) (hl : cols.length ≤ 100000) (fv mv : Value) (w0 : World) (hw0 : Below w0.heap.size w0 w) (hs0 : w.heap.size = w0.heap.size + 1) (hkb : w.heap[w0.heap.size]? = some (.cells #[fv, mv] 58 (0, 0))) :
    Calls Try.prog 43 #[cv] w fun r w' => ∃ v L, r = .returned v ∧ L.map (·.2) = cols ∧ Ar w0 fv mv S L v w' := by
  obtain ⟨L, hL, hv, hC⟩ := hc.list
  have hll : L.length = cols.length := by rw [← hL, List.length_map]
  obtain ⟨i0, hi0, hz0, hz1, hz2⟩ := info_parts Try.info88
  have hone : ∀ u ∈ L.map ptrOf, u.oneCell' = true := by
    intro u hu
    obtain ⟨s, _, rfl⟩ := List.mem_map.1 hu
    rfl
  have hEnd : ∀ (v : Value) (w' : World), w'.ownsRow w.heap.size 88 1 v L.length (L.map ptrOf) → Below w.heap.size w w' → Ar w0 fv mv S L v w' := fun v w' ho hb => by
    refine ⟨hw0.trans (hb.mono (by omega)), (hb.block _ (by omega)).trans hkb, by rw [← hs0]; exact ho, fun x hx => ⟨Nat.lt_of_lt_of_le (hS x hx) hb.size, fun e => ?_⟩, fun s hs => (hC s hs).on (Keeps.of hb hS)⟩
    have h1 := (ho.lt x e).1
    have h2 := hS x hx
    omega
  rcases hv with ⟨h0, ad, cap, rfl⟩ | ⟨g, o, cap, rfl, h0, hcap, hcell⟩
  · cases ad with
    | none =>
      refine Calls.mono (AnyE.slices_Clone_nil Try.layclone 0 cap w) ?_
      rintro r w' ⟨rfl, rfl⟩
      have hL0 : L = [] := by simpa using h0
      refine ⟨_, L, rfl, hL, hEnd _ _ ?_ (Below.refl _ _)⟩
      rw [hL0]
      exact World.ownsRow_nil _ _ _ _
    | some a =>
      have hL0 : L = [] := by simpa using h0
      have q22 : (binOp .eql 61 (.slice (some a) 0 cap) (.slice none 0 0)).run Try.prog w = .ok (.bool false) w := Lib.run_eql_slice_nil w _ _ (some a) 0 cap 0 0 Try.underlying61
      have hown := World.ownsRow_made (base := w.heap.size) (e := 88) (size := 1) w #[] 0 (Nat.le_refl _) (Nat.zero_le _) (by simp)
      have hr := append_empty (t := 61) (ty := 61) Try.underlying61 hi0 hown (some a) cap
      have HE : Hid (Ar w0 fv mv S L (.slice (some ⟨w.heap.size, 0, none⟩) 0 0) (w.alloc (.cells #[] 88))) := hEnd _ _ (by rw [hL0]; exact hown) ((Below.refl _ _).alloc (Nat.le_refl _) _)
      clear hEnd hC hone hS hw0 hs0 hkb hown h0
      go_enter Try.func43, Try.ntmps43
      go_wp2_with (at_builtin; refine Lib.wpList_append_run _ rfl _ _ 61 61 rfl _ _ rfl rfl _ _ hr ?_)
      go_ret
      exact ⟨_, L, rfl, hL, HE.out⟩
  · have hnews : ∀ j u, (L.map ptrOf)[j]? = some u → w.cell? ⟨g, o + j, none⟩ = some u := fun j u hu => by
      have hj : j < (L.map ptrOf).length := (List.getElem?_eq_some_iff.1 hu).1
      have := (hcell j hj).2
      rw [List.getElem?_eq_getElem hj] at hu
      rw [← hu, ← this, Nat.mul_one]
    have hz : ∀ w : World, (Go.sizeOf 88).run Try.prog w = .ok 1 w := Try.sizeOf88
    rw [List.length_map]
    refine Calls.mono (AnyE.slices_Clone Try.layclone i0 (.pointer none) 1 8 hi0 hz0 hz1 hz2 rfl (by decide) hz g o L.length cap (L.map ptrOf) w (by simp) (by unfold maxLen; omega) (by omega) hnews hone) ?_
    rintro r w' ⟨v', rfl, ho, _, hb⟩
    exact ⟨v', L, rfl, hL, hEnd _ _ ho hb⟩
theorem field_calls {k : Kn} {fs : List Fam} {spots : List Sp} {b : Nat} (fa : Option Addr) (fl fc : Nat) (hK : KnOk k fs) (ht : together k spots = true) {T : Nat → Prop} {Wb : World} {sv : Value} (hT : ∀ x, T x → x < Wb.heap.size) (hM : MapK Wb b k) (hsp : Spots Wb T sv spots) (hlen : spots.length ≤ 200) (hrow : ∀ s ∈ spots, s.1 < 200) {c : Cs} (hc : c ∈ casesOf k spots) :
    Calls Try.prog 46 #[sv, csV c] Wb fun r w1 => ∃ a b', r = .returned (.tuple #[a, b']) ∧ Below Wb.heap.size Wb w1 ∧ Calls Try.prog 47 #[.agg #[.slice fa fl fc, .map (some b)], a, .string ⟨c.1.toArray⟩, .slice none 0 0] w1 fun r w2 => ∃ v, r = .returned v ∧ Below Wb.heap.size Wb w2 ∧ Cols w2 (fun x => T x ∨ (Wb.heap.size ≤ x ∧ x < w2.heap.size)) v (within k (spots.filter (isOf c)) c.1 []) := by
  refine Calls.mono (split_any sv spots c hT hsp hlen) ?_
  rintro r w1 ⟨hb1, a, b', rfl, ha, _⟩
  refine ⟨a, b', rfl, hb1, ?_⟩
  have hT1 : ∀ x, (T x ∨ (Wb.heap.size ≤ x ∧ x < w1.heap.size)) → x < w1.heap.size := fun x hx => by
    rcases hx with hx | hx
    · have := hT x hx; have := hb1.size; omega
    · exact hx.2
  have hM1 : MapK w1 b k := hM.on (hb1.block b (Mv.lt hM))
  refine Calls.mono (within_any fa fl fc a (spots.filter (isOf c)) c.1 [] none 0 hT1 hM1 ha (.inl ⟨rfl, none, 0, rfl⟩) (Nat.le_trans (List.length_filter_le _ _) hlen) (case_name hK ht hsp c hc).1 (fun s hs => hrow s (List.mem_filter.1 hs).1) (fields_of hK ht hc) (by have := looks_fields hK c.1; omega)) ?_
  rintro r w2 ⟨hb2, v, rfl, hv⟩
  refine ⟨v, rfl, hb1.trans (hb2.mono hb1.size), hv.up fun x hx => ?_⟩
  have := hb2.size
  have := hb1.size
  rcases hx with (hx | hx) | hx
  · exact .inl hx
  · exact .inr ⟨by omega, by omega⟩
  · exact .inr ⟨by omega, by omega⟩
theorem own_form {w : World} {base : Nat} {L : List (Nat × Col)} {v : Value} (h : w.ownsRow base 88 1 v L.length (L.map ptrOf)) : (L = [] ∧ ∃ ad cap, v = .slice ad 0 cap) ∨ ∃ L0 x g cap, L = L0 ++ [x] ∧ v = .slice (some ⟨g, 0, none⟩) (L0.length + 1) cap ∧ L0.length + 1 ≤ cap ∧ base ≤ g ∧ g < w.heap.size ∧ w.cell? ⟨g, L0.length, none⟩ = some (ptrOf x) := by
  rcases List.eq_nil_or_concat L with rfl | ⟨L0, x, hL⟩
  · refine .inl ⟨rfl, ?_⟩
    obtain ⟨_, ⟨h2, _⟩ | ⟨g, cap, cur, h2, _⟩⟩ := h
    · exact ⟨_, _, h2⟩
    · exact ⟨_, _, h2⟩
  · rw [List.concat_eq_append] at hL
    subst hL
    right
    obtain ⟨g, cap, rfl, hc⟩ : ∃ g cap, v = .slice (some ⟨g, 0, none⟩) (L0.length + 1) cap ∧ L0.length + 1 ≤ cap := by
      obtain ⟨_, ⟨_, h2⟩ | ⟨g, cap, cur, h2, _, _, h3, _⟩⟩ := h
      · simp at h2
      · exact ⟨g, cap, by simpa using h2, by simpa using h3⟩
    have hl := h.lt g rfl
    refine ⟨L0, x, g, cap, rfl, rfl, hc, hl.1, hl.2, ?_⟩
    have e : (L0 ++ [x]).length = L0.length + 1 := by simp
    rw [e] at h
    rw [h.cellAt L0.length (by omega)]
    simp
theorem cols_forms {w : World} {T : Nat → Prop} {v : Value} {l : List Col} (h : Cols w T v l) : (l = [] ∧ ∃ ad cap, v = .slice ad 0 cap) ∨ (l ≠ [] ∧ ∃ (g o cap : Nat) (M : List (Nat × Col)), v = .slice (some ⟨g, o, none⟩) M.length cap ∧ M.map (·.2) = l ∧ 0 < M.length ∧ (∀ j u, (M.map ptrOf)[j]? = some u → w.cell? ((⟨g, o, none⟩ : Addr).add j) = some u) ∧ ∀ s ∈ M, ColP w T s.1 s.2) := by
  obtain ⟨M, hM, hv, hC⟩ := h.list
  rcases hv with ⟨h0, ad, cap, rfl⟩ | ⟨g, o, cap, rfl, h0, hcap, hcell⟩
  · have : M = [] := by simpa using h0
    refine .inl ⟨by rw [← hM, this]; rfl, ad, cap, rfl⟩
  · have hne : M ≠ [] := by simpa using h0
    refine .inr ⟨fun e => hne (by rw [e] at hM; simpa using hM), g, o, cap, M, by rw [List.length_map], hM, List.length_pos_iff.2 hne, fun j u hu => ?_, hC⟩
    have hj : j < (M.map ptrOf).length := (List.getElem?_eq_some_iff.1 hu).1
    have := (hcell j hj).2
    rw [List.getElem?_eq_getElem hj] at hu
    rw [← hu, ← this]
    congr 1
    unfold Addr.add
    split
    · rename_i e
      rw [e]
      rfl
    · show (⟨g, o + j, none⟩ : Addr) = ⟨g, o + j * 1, none⟩
      rw [Nat.mul_one]
/-- What lies within a column, case by case. -/
def inner (k : Kn) (spots : List Sp) (l : List Cs) : List Col := l.flatMap fun c => within k (spots.filter (isOf c)) c.1 []
theorem inner_snoc (k : Kn) (spots : List Sp) (l : List Cs) (i : Nat) (h : i < l.length) : inner k spots (l.take (i + 1)) = inner k spots (l.take i) ++ within k (spots.filter (isOf l[i])) l[i].1 [] := by
  unfold inner
  rw [take_snoc l i h, List.flatMap_append]
  simp
structure Ai (w : World) (fv mv : Value) (k : Kn) (spots : List Sp) (cs : List Cs) (w4 : World) (g : Nat) (T0 T : Nat → Prop) (L0 Li : List (Nat × Col)) (i : Nat) (v : Value) (wq : World) : Prop where
  up : ∀ y, T0 y → T y
  ar : Ar w fv mv T (L0 ++ Li) v wq
  cols : Li.map (·.2) = inner k spots (cs.take i)
  kx : Kx g w4 wq
  blk : v.ownBlock = some g ∨ ∃ g', v.ownBlock = some g' ∧ w4.heap.size ≤ g'
theorem Ai.step {w : World} {fv mv : Value} {k : Kn} {spots : List Sp} {cs : List Cs} {w4 : World} {g : Nat} {T0 T T' : Nat → Prop} {L0 Li M : List (Nat × Col)} {i : Nat} {v v' : Value} {wq w6 w7 : World} (h : Ai w fv mv k spots cs w4 g T0 T L0 Li i v wq) (hi : i < cs.length) (hb : Below wq.heap.size wq w6) (hT' : ∀ y, T' y → T y ∨ (wq.heap.size ≤ y ∧ y < w6.heap.size)) (hTT : ∀ y, T y → T' y)
    (hM : M.map (·.2) = within k (spots.filter (isOf cs[i])) cs[i].1 []) (hMc : ∀ s ∈ M, ColP w6 T' s.1 s.2) (ho : w7.ownsRow (w.heap.size + 1) 88 1 v' ((L0 ++ Li).length + M.length) ((L0 ++ Li).map ptrOf ++ M.map ptrOf)) (hg : w6.grownBy w7 v.ownBlock) (hv : v'.ownBlock = v.ownBlock ∨ v'.ownBlock = some w6.heap.size) : Ai w fv mv k spots cs w4 g T0 T' L0 (Li ++ M) (i + 1) v' w7 := by
  have h6 := h.ar.on hb
  have hs4 := h.kx.size
  have hT6 : ∀ y, T' y → y < w6.heap.size ∧ v.ownBlock ≠ some y := fun y hy => by
    rcases hT' y hy with h1 | h1
    · exact h6.set y h1
    · exact ⟨h1.2, fun e => by have := (h.ar.own.lt y e).2; omega⟩
  have hA := h6.more T' hTT hT6 hMc ho hg hv
  rw [List.append_assoc] at hA
  refine ⟨fun y hy => hTT y (h.up y hy), hA, ?_, ?_, ?_⟩
  · rw [List.map_append, h.cols, hM, inner_snoc _ _ _ _ hi]
  · refine ⟨hg.os.trans (hb.os.trans h.kx.os), hg.tape.trans (hb.tape.trans h.kx.tape), hg.output.trans (hb.output.trans h.kx.output), by have := hg.size; have := hb.size; omega, fun y hy hne => ?_⟩
    rw [hg.block y (by have := hb.size; omega) ?_, hb.block y (by omega), h.kx.block y hy hne]
    rcases h.blk with e | ⟨g', e, hg'⟩
    · rw [e]; intro e2; injection e2 with e2; exact hne e2
    · rw [e]; intro e2; injection e2 with e2; omega
  · rcases hv with e | e
    · rw [e]; exact h.blk
    · exact .inr ⟨_, e, by have := hb.size; omega⟩
set_option maxHeartbeats 8000000 in
set_option maxRecDepth 10000 in
theorem right_any {w : World} {S : Nat → Prop} {b : Nat} {k : Kn} {fs : List Fam} (fa : Option Addr) (fl fc : Nat) (cv : Value) (cols : List Col) (hK : KnOk k fs) (hS : ∀ b, S b → b < w.heap.size) (hM : MapK w b k) (hc : Cols w S cv cols) (hW : ∀ c ∈ cols, Wt c) (hsz : csz cols ≤ 100000) :
    Calls Try.prog 32 #[.agg #[.slice fa fl fc, .map (some b)], cv] w (ArPost k cols w) := by
  have hlc : cols.length ≤ 100000 := Nat.le_trans (csz_len cols fun c h => (hW c h).ne) hsz
  have hA : ∃ A, A = w.alloc (.cells #[.slice fa fl fc, .map (some b)] 58) ∧ Below w.heap.size w A ∧ A.heap.size = w.heap.size + 1 ∧ A.heap[w.heap.size]? = some (.cells #[.slice fa fl fc, .map (some b)] 58 (0, 0)) := ⟨_, rfl, (Below.refl _ _).alloc (Nat.le_refl _) _, by simp, new_block w _⟩
  obtain ⟨A, hA, hbA, hsA, hkA⟩ := hA
  have CC := clone_cols cv cols (fun x hx => by have := hS x hx; omega) (hc.on (Keeps.of hbA hS)) hlc (.slice fa fl fc) (.map (some b)) w hbA hsA hkA
  have HK : Hid (KnOk k fs ∧ MapK w b k) := ⟨hK, hM⟩
  have HI : Hid (csz cols ≤ 100000 ∧ (∀ c ∈ cols, Wt c)) := ⟨hsz, hW⟩
  obtain ⟨cad, ccap, rfl⟩ := RowP.len hc
  clear hc hlc hbA hsA hkA hW hsz hK hM
  go_enter Try.func32, Try.ntmps32
  go_upto_region 1 with fail
  rw [← hA]
  clear hA
  go_wp2_with (first | (go_at_call 43; (with_reducible refine Calls.mono CC ?_); rintro e' w2 ⟨v, L, rfl, hL, hAr⟩))
  have HL : Hid (L.map (·.2) = cols ∧ Ar w (.slice fa fl fc) (.map (some b)) S L v w2) := ⟨hL, hAr⟩
  clear hL hAr CC
  go_loopg [5] 100000 (fun gk v5 wr => ∃ (T : Nat → Prop) (L : List (Nat × Col)), Hid (Ar w (.slice fa fl fc) (.map (some b)) T L v5 wr) ∧ Hid (csz (L.map (·.2)) ≤ gk ∧ gk ≤ 100000 ∧ (∀ c ∈ L.map (·.2), Wt c) ∧ ((∀ c ∈ cols, Rall k c.2.2) ↔ ∀ c ∈ L.map (·.2), Rall k c.2.2)))
  case atStart =>
    have h := HL.out
    exact ⟨S, L, h.2, by rw [h.1]; exact HI.out.1, Nat.le_refl _, by rw [h.1]; exact HI.out.2, by rw [h.1]⟩
  case round =>
    obtain ⟨T, L, HA, HQ⟩ := hrel
    rcases own_form HA.out.own with ⟨hL0, ad, cap, rfl⟩ | ⟨L0, x, g, cap, hL0, rfl, hcap, hbg, hgl, hcell⟩
    · go_wp2
      go_ret
      refine ⟨HA.out.below, true, rfl, ?_⟩
      have := HQ.out.2.2.2
      rw [this, hL0]
      simp
    · have hAr := HA.out
      rw [hL0] at hAr
      have hx : Wt x.2 := HQ.out.2.2.1 x.2 (by rw [hL0]; simp)
      obtain ⟨hx0, _, _, ⟨sad, scap, x2, hsp⟩, _⟩ := hAr.cols x (by simp)
      have hT : ∀ y, T y → y < wr.heap.size := fun y hy => (hAr.set y hy).1
      have hMw : MapK wr b k := HK.out.2.on (hAr.below.block b (Mv.lt HK.out.2))
      have CT := together_any (w := wr) fa fl fc _ x.2.2.2 hT hMw hsp (List.length_pos_iff.2 hx.ne) hx.len
      have k0 := heap_cell' (i := 0) hAr.kb rfl
      have k1 := heap_cell' (i := 1) hAr.kb rfl
      unfold ptrOf at hcell
      have hpop := hAr.pop
      have HP : Hid (Ar w (.slice fa fl fc) (.map (some b)) T L0 (.slice (some ⟨g, 0, none⟩) L0.length cap) wr ∧ L = L0 ++ [x] ∧ Wt x.2 ∧ T x.1 ∧ Spots wr T (.slice sad x.2.2.2.length scap) x.2.2.2 ∧ w.heap.size + 1 ≤ g ∧ g < wr.heap.size) := ⟨hpop, hL0, hx, hx0, hsp, hbg, hgl⟩
      have hLn : L0.length < 100000 := by
        have h1 := HQ.out
        have h2 := csz_len (L.map (·.2)) fun c hc => (h1.2.2.1 c hc).ne
        rw [hL0] at h2
        simp at h2
        rw [hL0] at h1
        simp at h1
        omega
      clear hAr hx hx0 hsp hT hMw hpop hL0 HA hbg hgl
      generalize hn : L0.length = n at *
      have HN : Hid (L0.length = n) := hn
      clear hn
      cases htb : together k x.2.2.2 with
      | false =>
        rw [htb] at CT
        go_wp2_with (first | (go_at_call 44; (with_reducible refine Calls.mono CT ?_); rintro e' w3 ⟨rfl, hb3⟩))
        go_ret
        have hp := HP.out
        refine ⟨hp.1.below.trans (hb3.mono hp.1.below.size), false, rfl, fun e => (by cases e), fun h => ?_⟩
        have h2 := HQ.out.2.2.2.1 h x.2 (by rw [hp.2.1]; simp)
        rw [((Rall_iff _ _).1 h2).1] at htb
        cases htb
      | true =>
        rw [htb] at CT
        have HTB : Hid (together k x.2.2.2 = true) := htb
        clear htb
        have HCC : Hid (∀ w3, Below wr.heap.size wr w3 → Calls Try.prog 45 #[.agg #[.slice fa fl fc, .map (some b)], .slice sad x.2.2.2.length scap] w3 fun r w' => ∃ blk ccap cur, r = .returned (.slice (some ⟨blk, 0, none⟩) (casesOf k x.2.2.2).length ccap) ∧ (casesOf k x.2.2.2).length ≤ ccap ∧ Below wr.heap.size wr w' ∧ wr.heap.size ≤ blk ∧ blk < w'.heap.size ∧ w'.heap[blk]? = some (.cells cur 53 (0, 0)) ∧ ∀ j (h : j < (casesOf k x.2.2.2).length) i, i < 7 → cur[j * 7 + i]? = (csE (casesOf k x.2.2.2)[j])[i]?) := fun w3 hb3 => by
          have hp := HP.out
          refine Calls.mono (cases_any (w := w3) fa fl fc _ x.2.2.2 (S := T) (fun y hy => by have := (hp.1.set y hy).1; have := hb3.size; omega) ((HK.out.2.on (hp.1.below.block b (Mv.lt HK.out.2))).on (hb3.block b (by have := Mv.lt HK.out.2; have := hp.1.below.size; omega))) (hp.2.2.2.2.1.on (Keeps.of hb3 fun y hy => (hp.1.set y hy).1)) hp.2.2.1.len (apart_of HK.out.1 HTB.out)) ?_
          rintro r w' ⟨hb, v, rfl, blk, ccap, cur, rfl, h1, h2, h3, h4⟩
          have := hb3.size
          exact ⟨blk, ccap, cur, rfl, h1, hb3.trans (hb.mono hb3.size), by omega, h2.2, h3, h4⟩
        go_upto_region 8 with (first | (go_at_call 44; (with_reducible refine Calls.mono CT ?_); rintro e' w3 ⟨rfl, hb3⟩))
        have CS := HCC.out w3 hb3
        have k0 := (hb3.cell (p := ⟨w.heap.size, 0, none⟩) HP.out.1.lt).trans k0
        have k1 := (hb3.cell (p := ⟨w.heap.size, 1, none⟩) HP.out.1.lt).trans k1
        go_wp2_with (first | (go_at_call 45; (with_reducible refine Calls.mono CS ?_); rintro e' w4 ⟨blk, ccap, cur, rfl, hcc, hb4, hbl1, hbl2, hblk, hcs⟩))
        have HB4 : Hid (Below wr.heap.size wr w4 ∧ wr.heap.size ≤ blk ∧ blk < w4.heap.size ∧ w4.heap[blk]? = some (.cells cur 53 (0, 0)) ∧ ∀ j (h : j < (casesOf k x.2.2.2).length) i, i < 7 → cur[j * 7 + i]? = (csE (casesOf k x.2.2.2)[j])[i]?) := ⟨hb4, hbl1, hbl2, hblk, hcs⟩
        have HST : Hid (Ai w (.slice fa fl fc) (.map (some b)) k x.2.2.2 (casesOf k x.2.2.2) w4 g T T L0 [] 0 (.slice (some ⟨g, 0, none⟩) n cap) w4) := by
          refine ⟨fun _ h => h, ?_, rfl, Kx.refl _ _, .inl rfl⟩
          have := HP.out.1.on hb4
          simpa using this
        have HBD : Hid (∀ i, n + (inner k x.2.2.2 ((casesOf k x.2.2.2).take i)).length ≤ 100000 ∧ ∀ c ∈ inner k x.2.2.2 ((casesOf k x.2.2.2).take i), Wt c) := fun i => by
          have hq := HQ.out
          rw [HP.out.2.1, List.map_append, csz_append] at hq
          have h1 := cases_csz HK.out.1 HTB.out
          have h2 : inner k x.2.2.2 (casesOf k x.2.2.2) = inner k x.2.2.2 ((casesOf k x.2.2.2).take i) ++ inner k x.2.2.2 ((casesOf k x.2.2.2).drop i) := by
            unfold inner
            rw [← List.flatMap_append, List.take_append_drop]
          have h3 : csz (inner k x.2.2.2 (casesOf k x.2.2.2)) ≤ spz x.2.2.2 := by unfold inner; omega
          rw [h2, csz_append] at h3
          have h4 : ∀ c ∈ inner k x.2.2.2 ((casesOf k x.2.2.2).take i), Wt c := fun c hc => by
            obtain ⟨d, _, hd⟩ := List.mem_flatMap.1 hc
            exact HP.out.2.2.1.within c hd
          have h5 := csz_len (L0.map (·.2) ++ inner k x.2.2.2 ((casesOf k x.2.2.2).take i)) (fun c hc => by
            rcases List.mem_append.1 hc with hc | hc
            · exact (hq.2.2.1 c (List.mem_append.2 (.inl hc))).ne
            · exact (h4 c hc).ne)
          rw [csz_append, List.length_append, List.length_map, HN.out] at h5
          have h6 : csz ([x].map (·.2)) = spz x.2.2.2 := by simp [csz]
          exact ⟨by omega, h4⟩
        obtain ⟨i0, hi0, hz0, hz1, hz2⟩ := info_parts Try.info88
        have hcl : (casesOf k x.2.2.2).length ≤ 200 := Nat.le_trans (casesOf_len k _) HP.out.2.2.1.len
        clear hb4 hbl1 hbl2 hblk hcs CS CT HCC hb3 hcell x2 k0 k1 hcap
        clear k0 k1
        obtain ⟨wz, hwz⟩ : ∃ wz, wz = wr := ⟨_, rfl⟩
        rw [← hwz] at HP HB4
        clear hwz
        generalize hcsl : casesOf k x.2.2.2 = cs at *
        have HCS : Hid (casesOf k x.2.2.2 = cs) := hcsl
        clear hcsl
        go_loopw [5, 38] (fun v5 iv wq => ∃ (i : Nat) (T' : Nat → Prop) (Li : List (Nat × Col)), i ≤ cs.length ∧ iv = .int .i64 i ∧ Hid (Ai w (.slice fa fl fc) (.map (some b)) k x.2.2.2 cs w4 g T T' L0 Li i v5 wq)) (fun _ iv _ => cs.length - (intOf iv).toNat)
        case atStart => exact ⟨0, T, [], by omega, by go_num, HST.out⟩
        case round =>
          obtain ⟨i, T', Li, hi, rfl, HI2⟩ := hrel
          by_cases hil : i < cs.length
          · have hai := HI2.out
            have hp := HP.out
            have hb4 := HB4.out
            have hks : Keeps T wz wr := fun y hy => by
              have := (hp.1.set y hy)
              have hne : y ≠ g := fun e => this.2 (by rw [e]; rfl)
              rw [hai.kx.block y (by have := hb4.1.size; omega) hne]
              exact hb4.1.block y this.1
            have hblk : wr.heap[blk]? = some (.cells cur 53 (0, 0)) := (hai.kx.block blk hb4.2.2.1 (by have := hp.2.2.2.2.2.2; have := hb4.2.1; omega)).trans hb4.2.2.2.1
            have hcs := hb4.2.2.2.2 i hil
            have q0 : wr.cell? ⟨blk, i * 7, none⟩ = some (.string ⟨cs[i].1.toArray⟩) := heap_cell' hblk (hcs 0 (by omega))
            have q1 := heap_cell' hblk (hcs 1 (by omega))
            have q2 := heap_cell' hblk (hcs 2 (by omega))
            have q3 := heap_cell' hblk (hcs 3 (by omega))
            have q4 := heap_cell' hblk (hcs 4 (by omega))
            have q5 := heap_cell' hblk (hcs 5 (by omega))
            have q6 := heap_cell' hblk (hcs 6 (by omega))
            have hWb : ∃ Wb, Wb = wr.alloc (Obj.cells #[.string ⟨cs[i].1.toArray⟩, .int .i64 cs[i].2, .int .i64 0, .int .i64 0, .slice none 0 0, .slice none 0 0, .slice none 0 0] 53) ∧ Below wr.heap.size wr Wb ∧ Wb.heap.size = wr.heap.size + 1 ∧ Wb.heap[wr.heap.size]? = some (.cells #[.string ⟨cs[i].1.toArray⟩, .int .i64 cs[i].2, .int .i64 0, .int .i64 0, .slice none 0 0, .slice none 0 0, .slice none 0 0] 53 (0, 0)) := ⟨_, rfl, (Below.refl _ _).alloc (Nat.le_refl _) _, by simp, new_block' wr _⟩
            obtain ⟨Wb, hWb, hbb, hsb, hnb⟩ := hWb
            have hMw : MapK Wb b k := (HK.out.2.on (hai.ar.below.block b (Mv.lt HK.out.2))).on (hbb.block b (by have := Mv.lt HK.out.2; have := hai.ar.below.size; omega))
            have CF := field_calls (Wb := Wb) (T := T') (sv := .slice sad x.2.2.2.length scap) fa fl fc HK.out.1 HTB.out (fun y hy => by have := (hai.ar.set y hy).1; omega) hMw (((hp.2.2.2.2.1.on hks).up hai.up).on (Keeps.of hbb fun y hy => (hai.ar.set y hy).1)) hp.2.2.1.len hp.2.2.1.rows (c := cs[i]) (by rw [HCS.out]; exact List.getElem_mem hil)
            have d0 := heap_cell' (i := 0) hnb rfl
            have d1 := heap_cell' (i := 1) hnb rfl
            have d2 := heap_cell' (i := 2) hnb rfl
            have d3 := heap_cell' (i := 3) hnb rfl
            have d4 := heap_cell' (i := 4) hnb rfl
            have d5 := heap_cell' (i := 5) hnb rfl
            have d6 := heap_cell' (i := 6) hnb rfl
            have HBB : Hid (Below wr.heap.size wr Wb ∧ Wb.heap.size = wr.heap.size + 1 ∧ Wb.heap[wr.heap.size]? = some (.cells #[.string ⟨cs[i].1.toArray⟩, .int .i64 cs[i].2, .int .i64 0, .int .i64 0, .slice none 0 0, .slice none 0 0, .slice none 0 0] 53 (0, 0))) := ⟨hbb, hsb, hnb⟩
            have i1 : (0 : Int) ≤ (i : Int) := by omega
            have i2 : (i : Int) < (cs.length : Int) := by omega
            have hkb := (hbb.block _ hai.ar.lt).trans hai.ar.kb
            have HKB : Hid (Wb.heap[w.heap.size]? = some (.cells #[.slice fa fl fc, .map (some b)] 58 (0, 0)) ∧ w.heap.size < wr.heap.size) := ⟨hkb, hai.ar.lt⟩
            unfold csV at CF
            clear hai hp hb4 hks hblk hcs hbb hsb hnb hMw hkb
            go_upto_region 11 with fail
            rw [← hWb]
            clear hWb q0 q1 q2 q3 q4 q5 q6
            go_upto_region 12 with (first | (go_at_call 46; (with_reducible refine Calls.mono CF ?_); rintro e' w5 ⟨a5, b5', rfl, hb5, CW⟩))
            clear d0 d1 d2 d3 d4 d5 d6
            have d0 := (hb5.cell (p := ⟨wr.heap.size, 0, none⟩) (by have := HBB.out.2.1; show wr.heap.size < _; omega)).trans (heap_cell' (i := 0) HBB.out.2.2 rfl)
            have k0 := (hb5.cell (p := ⟨w.heap.size, 0, none⟩) (by have := HBB.out.2.1; have := HKB.out.2; show w.heap.size < _; omega)).trans (heap_cell' (i := 0) HKB.out.1 rfl)
            have k1 := (hb5.cell (p := ⟨w.heap.size, 1, none⟩) (by have := HBB.out.2.1; have := HKB.out.2; show w.heap.size < _; omega)).trans (heap_cell' (i := 1) HKB.out.1 rfl)
            have HF : Hid (∀ w6, Below Wb.heap.size Wb w6 → Below wr.heap.size wr w6) := fun w6 h => HBB.out.1.trans (h.mono HBB.out.1.size)
            have HNX : Hid (((L0 ++ Li).length + (within k (x.2.2.2.filter (isOf cs[i])) cs[i].1 []).length) ≤ 100000) := by
              have h1 := (HBD.out (i + 1)).1
              have h2 := HI2.out.cols
              rw [inner_snoc _ _ _ _ hil, List.length_append] at h1
              have h3 := congrArg List.length h2
              rw [List.length_map] at h3
              have h4 := HN.out
              show _ ≤ _
              rw [List.length_append]
              omega
            by_cases hem : within k (x.2.2.2.filter (isOf cs[i])) cs[i].1 [] = []
            · have CW2 : Calls Try.prog 47 #[.agg #[.slice fa fl fc, .map (some b)], a5, .string ⟨cs[i].1.toArray⟩, .slice none 0 0] w5 fun r w6 => ∃ ad c6, r = .returned (.slice ad 0 c6) ∧ Below Wb.heap.size Wb w6 := Calls.mono CW (fun r w6 h => by
                obtain ⟨v6, rfl, hb6, hv6⟩ := h
                rcases cols_forms hv6 with ⟨_, ad, c6, rfl⟩ | ⟨hne, _⟩
                · exact ⟨ad, c6, rfl, hb6⟩
                · exact absurd hem hne)
              have HEM : Hid (within k (x.2.2.2.filter (isOf cs[i])) cs[i].1 [] = []) := hem
              clear CW CF hem
              go_wp2_with (first | (go_at_call 47; (with_reducible refine Calls.mono CW2 ?_); rintro e' w6 ⟨ad6, c6, rfl, hb6⟩; have hown6 := (HI2.out.ar.on (HF.out w6 hb6)).own; have hr6 := append_empty (t := 61) (ty := 61) Try.underlying61 hi0 hown6 ad6 c6) | (at_builtin; refine Lib.wpList_append_run _ rfl _ _ 61 61 rfl _ _ rfl rfl _ _ hr6 ?_))
              have HE : Hid (Ai w (.slice fa fl fc) (.map (some b)) k x.2.2.2 cs w4 g T T' L0 (Li ++ []) (i + 1) u5 w6) := HI2.out.step hil (HF.out w6 hb6) (fun y hy => .inl hy) (fun y hy => hy) (by rw [HEM.out]; rfl) (fun s hs => by simp at hs) (by simpa using hown6) ⟨rfl, rfl, rfl, Nat.le_refl _, fun _ _ _ => rfl⟩ (.inl rfl)
              clear hown6 hr6 hb6
              go_roundw
              case rel => exact ⟨i + 1, T', _, hil, by go_num, HE.out⟩
              case measure => simp [intOf]; omega
            · have CW2 : Calls Try.prog 47 #[.agg #[.slice fa fl fc, .map (some b)], a5, .string ⟨cs[i].1.toArray⟩, .slice none 0 0] w5 fun r w6 => ∃ (g6 o6 c6 : Nat) (M : List (Nat × Col)), r = .returned (.slice (some ⟨g6, o6, none⟩) M.length c6) ∧ Below Wb.heap.size Wb w6 ∧ M.map (·.2) = within k (x.2.2.2.filter (isOf cs[i])) cs[i].1 [] ∧ 0 < M.length ∧ (∀ j u, (M.map ptrOf)[j]? = some u → w6.cell? ((⟨g6, o6, none⟩ : Addr).add j) = some u) ∧ ∀ s ∈ M, ColP w6 (fun x => T' x ∨ (Wb.heap.size ≤ x ∧ x < w6.heap.size)) s.1 s.2 := Calls.mono CW (fun r w6 h => by
                obtain ⟨v6, rfl, hb6, hv6⟩ := h
                rcases cols_forms hv6 with ⟨he, _⟩ | ⟨_, g6, o6, c6, M, rfl, h1, h2, h3, h4⟩
                · exact absurd he hem
                · exact ⟨g6, o6, c6, M, rfl, hb6, h1, h2, h3, h4⟩)
              clear CW CF hem
              have HONE : Hid (∀ M : List (Nat × Col), ∀ u ∈ M.map ptrOf, u.oneCell' = true) := fun M u hu => by
                obtain ⟨s, _, rfl⟩ := List.mem_map.1 hu
                rfl
              have HMX : Hid (∀ M : List (Nat × Col), M.map (·.2) = within k (x.2.2.2.filter (isOf cs[i])) cs[i].1 [] → (L0 ++ Li).length + M.length ≤ 100000) := fun M hM => by
                have h1 := HNX.out
                rw [← hM, List.length_map] at h1
                exact h1
              go_wp2_with (first | (go_at_call 47; (with_reducible refine Calls.mono CW2 ?_); rintro e' w6 ⟨g6, o6, c6, M, rfl, hb6, hM1, hM2, hM3, hM4⟩; have hown6 := (HI2.out.ar.on (HF.out w6 hb6)).own; have hmx := HMX.out M hM1; have hsz6 : w.heap.size + 1 ≤ w6.heap.size := (HI2.out.ar.on (HF.out w6 hb6)).lt) | (at_builtin; refine wpList_append_lies _ rfl _ _ 61 rfl (w.heap.size + 1) 88 i0 _ 1 8 Try.underlying61 hi0 hz0 hz1 hz2 rfl (by decide) _ _ _ rfl hown6 ⟨g6, o6, none⟩ M.length c6 (M.map ptrOf) rfl (by rw [List.length_map, Nat.mul_one]) hM3 (HONE.out M) hM2 (by unfold maxLen; omega) (by omega) hsz6 w6.heap.size rfl ?_; intro g7 cap7 w7 hown7 hgr7 hat7 hlt7))
              have hgr8 : w6.grownBy w7 u5.ownBlock := hgr7
              have hat8 : u5.ownBlock = some g7 ∨ g7 = w6.heap.size := hat7
              have HE := HI2.out.step hil (HF.out w6 hb6) (T' := fun x => T' x ∨ (Wb.heap.size ≤ x ∧ x < w6.heap.size)) (fun y hy => hy.imp_right fun e => ⟨by have := HBB.out.2.1; omega, e.2⟩) (fun y hy => .inl hy) hM1 hM4 hown7 hgr8 (hat8.imp (fun e => e.symm) (fun e => by rw [e]; rfl))
              rw [List.length_append] at HE
              exact ⟨⟨i + 1, _, _, hil, by go_num, HE⟩, by simp [intOf]; omega⟩
          · obtain rfl : i = cs.length := by omega
            have hA := HI2.out.ar
            have hcl := HI2.out.cols
            rw [List.take_length, ← HCS.out] at hcl
            have hq := HQ.out
            have hp := HP.out
            have hcz := cases_csz HK.out.1 HTB.out
            rw [if_neg hp.2.2.1.ne] at hcz
            have e1 : csz (L.map (·.2)) = csz (L0.map (·.2)) + spz x.2.2.2 := by rw [hp.2.1]; simp [csz]
            have e2 : csz ((L0 ++ Li).map (·.2)) = csz (L0.map (·.2)) + csz (inner k x.2.2.2 (casesOf k x.2.2.2)) := by rw [List.map_append, csz_append, hcl]
            have HM : Hid (csz ((L0 ++ Li).map (·.2)) < gk) := by
              show _ < _
              have : csz (inner k x.2.2.2 (casesOf k x.2.2.2)) + 1 ≤ spz x.2.2.2 := hcz
              omega
            have HR2 : Hid (csz ((L0 ++ Li).map (·.2)) ≤ 100000 ∧ (∀ c ∈ (L0 ++ Li).map (·.2), Wt c) ∧ ((∀ c ∈ cols, Rall k c.2.2) ↔ ∀ c ∈ (L0 ++ Li).map (·.2), Rall k c.2.2)) := by
              refine ⟨by have := HM.out; omega, fun c hc => ?_, ?_⟩
              · rw [List.map_append, hcl] at hc
                rcases List.mem_append.1 hc with hc | hc
                · exact hq.2.2.1 c (by rw [hp.2.1, List.map_append]; exact List.mem_append.2 (.inl hc))
                · obtain ⟨d, _, hd⟩ := List.mem_flatMap.1 hc
                  exact hp.2.2.1.within c hd
              · rw [hq.2.2.2, hp.2.1, List.map_append, List.map_append, hcl]
                have hR := Rall_iff k x.2.2.2
                constructor
                · intro h c hc
                  rcases List.mem_append.1 hc with hc | hc
                  · exact h c (List.mem_append.2 (.inl hc))
                  · obtain ⟨d, hd1, hd⟩ := List.mem_flatMap.1 hc
                    exact (hR.1 (h x.2 (by simp))).2 d hd1 c hd
                · intro h c hc
                  rcases List.mem_append.1 hc with hc | hc
                  · exact h c (List.mem_append.2 (.inl hc))
                  · obtain rfl : c = x.2 := by simpa using hc
                    exact hR.2 ⟨HTB.out, fun d hd col hcol => h col (List.mem_append.2 (.inr (List.mem_flatMap.2 ⟨d, hd, hcol⟩)))⟩
            have HA2 : Hid (Ar w (.slice fa fl fc) (.map (some b)) T' (L0 ++ Li) u5 wr) := hA
            clear hA hcl hq hp hcz e1 e2
            go_wp2
            go_roundg (csz ((L0 ++ Li).map (·.2)))
            case measure => exact HM.out
            case rel => exact ⟨T', L0 ++ Li, HA2.out, Nat.le_refl _, HR2.out⟩
end Go.Proofs.Ytpdmkhnonbbhnaa
