/- missing: the walk. -/
import Derived.Test.YtpdmkhnonbbhnaaMnx
import Derived.Test.YtpdmkhnonbbhnaaVi
import Derived.Shelf.RegionOpen
import Derived.RangeFuncWrites
namespace Go.Proofs.Ytpdmkhnonbbhnaa
open Go.RowKit Go.Maps Go.Shelf
attribute [local go_sem] Oper.semAt_some

theorem Mi.grown {w : World} {lo Lb n : Nat} {l : List Rs} {k B : Nat} {W W' : World} {row : Option Nat} (h : Mi w lo Lb n l k W) (hB : lo ≤ B) (hW : lo ≤ W.heap.size) (hg : W.grownBy W' row) (hr : ∀ r, row = some r → B ≤ r ∧ ∃ o, W.heap[r]? = some o ∧ o.isCells = false) : Mi w lo Lb n l k W' := by
  have hb : ∀ (y : Nat) (c : Array Value) (t : TypeId) (f : Nat × Nat), W.heap[y]? = some (.cells c t f) → W'.heap[y]? = W.heap[y]? := fun y c t f hy => hg.block y (lt_of_heap hy) fun e => by
    obtain ⟨_, o, h1, h2⟩ := hr y e.symm
    rw [hy] at h1
    obtain rfl := Option.some.inj h1
    cases h2
  have hG : ∀ {B cnt : Nat} {st : List Rs} {p : List Nat}, GrpAt W B cnt st p → GrpAt W' B cnt st p := fun hq => by
    obtain ⟨cur, h1, h2⟩ := hq
    exact ⟨cur, (hb _ _ _ _ h1).trans h1, h2⟩
  refine ⟨h.below.grown hg hW (fun r e => by have := (hr r e).1; omega), hG h.root, fun x hx B hB => hG (h.done x hx B hB), fun x hx B hB => ?_⟩
  obtain ⟨cur, h1, h2⟩ := h.todo x hx B hB
  exact ⟨cur, (hb _ _ _ _ h1).trans h1, h2⟩
def stV (x : Rs) : Array Value := #[.slice x.2.1.1 x.1.1.length x.2.1.2, .int .i64 x.1.2.1.1, .string ⟨x.1.2.1.2.1.toArray⟩, .int .i64 x.1.2.1.2.2, .slice x.2.2.1 x.1.2.2 x.2.2.2]
structure Ik (w W : World) (lo n : Nat) (l : List Rs) (k : Nat) (W' : World) : Prop where
  mi : Mi w lo w.heap.size n l k W'
  box : W'.heap[w.heap.size + 1]? = some (.cells #[.slice (some ⟨w.heap.size, 0, none⟩) n n] 24 (0, 0))
  size : W.heap.size ≤ W'.heap.size
theorem Ik.grown {w W : World} {lo n : Nat} {l : List Rs} {k : Nat} {A B : World} {row : Option Nat} (hlo : lo ≤ W.heap.size) (h : Ik w W lo n l k A) (hg : A.grownBy B row) (hr : ∀ r, row = some r → W.heap.size ≤ r ∧ ∃ o, A.heap[r]? = some o ∧ o.isCells = false) : Ik w W lo n l k B := by
  refine ⟨h.mi.grown hlo (Nat.le_trans hlo h.size) hg hr, ?_, Nat.le_trans h.size hg.size⟩
  rw [hg.block _ (lt_of_heap h.box) fun e => ?_]
  · exact h.box
  · obtain ⟨_, o, h1, h2⟩ := hr _ e.symm
    rw [h.box] at h1
    obtain rfl := Option.some.inj h1
    cases h2
def MissPost (lo n : Nat) (l : List Rs) (w : World) (r : Ending) (w' : World) : Prop := ∃ Lb, r = .returned (.slice (some ⟨Lb, 0, none⟩) n n) ∧ w.heap.size ≤ Lb ∧ Mi w lo Lb n l l.length w' ∧ w.heap.size ≤ w'.heap.size
set_option maxHeartbeats 8000000 in
set_option maxRecDepth 10000 in
theorem missing_any {w : World} {S : Nat → Prop} {lo : Nat} {v : Value} {l : List Rs} (n : Nat) (hn : n ≤ 1000) (hS : ∀ x, S x → x < lo) (hlo : lo ≤ w.heap.size) (h : WayAt w S lo v l) (hl : l.length ≤ 100000) (hok : WayOk n (l.map (·.1))) :
    Calls Try.prog 40 #[.int .i64 n, v] w (MissPost lo n l w) := by
  have CW := wilds_any w n hn
  obtain ⟨ad, cap, rfl⟩ : ∃ ad cap, v = .slice ad l.length cap := by
    obtain ⟨_, ⟨h1, h2⟩ | ⟨g, cap, cur, h1, _⟩⟩ := h.own
    · exact ⟨none, 0, by rw [h1, h2]⟩
    · exact ⟨_, cap, h1⟩
  have HX : Hid (∀ w1, Below w.heap.size w w1 → w1.heap.size = w.heap.size + 1 → Wild w1 w.heap.size n → ∃ W, W = (w1.alloc (.cells #[.slice (some ⟨w.heap.size, 0, none⟩) n n] 24)).alloc (.cells #[.slice ad l.length cap] 98) ∧ W.heap.size = w.heap.size + 3 ∧ Below w.heap.size w W ∧ W.heap[w.heap.size + 1]? = some (.cells #[.slice (some ⟨w.heap.size, 0, none⟩) n n] 24 (0, 0)) ∧ W.heap[w.heap.size + 1 + 1]? = some (.cells #[.slice ad l.length cap] 98 (0, 0)) ∧ Mi w lo w.heap.size n l 0 W) := fun w1 hb1 hs1 hw1 => by
    have hbA : Below w.heap.size w1 (w1.alloc (.cells #[.slice (some ⟨w.heap.size, 0, none⟩) n n] 24)) := (Below.refl _ _).alloc (by omega) _
    have hbB : Below w.heap.size w1 ((w1.alloc (.cells #[.slice (some ⟨w.heap.size, 0, none⟩) n n] 24)).alloc (.cells #[.slice ad l.length cap] 98)) := hbA.alloc (by simp; omega) _
    have hkB : ∀ y, y < w1.heap.size → ((w1.alloc (.cells #[.slice (some ⟨w.heap.size, 0, none⟩) n n] 24)).alloc (.cells #[.slice ad l.length cap] 98)).heap[y]? = w1.heap[y]? := fun y hy => by
      rw [Below.heap_alloc _ _ _ (by simp; omega), Below.heap_alloc _ _ _ hy]
    have hbw := hb1.trans hbB
    refine ⟨_, rfl, by simp [hs1], hbw, ?_, ?_, hbw.mono hlo, ?_, fun x hx => by simp at hx, fun x hx B hB => ?_⟩
    · rw [Below.heap_alloc _ _ _ (by simp [hs1])]
      have := new_block w1 (.cells #[.slice (some ⟨w.heap.size, 0, none⟩) n n] 24)
      rwa [hs1] at this
    · have := new_block (w1.alloc (.cells #[.slice (some ⟨w.heap.size, 0, none⟩) n n] 24)) (.cells #[.slice ad l.length cap] 98)
      rw [World.size_alloc, hs1] at this
      exact this
    · have : l.drop (l.length - 0) = [] := by simp
      rw [this]
      exact GrpAt.of_wild (hw1.on (hkB _ (by omega))) fun i => rfl
    · have hxl := List.mem_of_mem_take hx
      rcases h.args x hxl with ⟨e, _⟩ | ⟨B', e, _, _, h4, h5, _⟩
      · rw [e] at hB; cases hB
      · rw [e] at hB
        injection hB with hB
        injection hB with hB
        subst hB
        exact h5.on (hbw.block _ h4)
  have hmw : Mw w lo w.heap.size n l := ⟨hok, fun x hx => (h.args x hx).imp_right fun ⟨B, h1, h2, h3, h4, _⟩ => ⟨B, h1, h2, h3, h4⟩, h.apart, Nat.le_refl _, hlo⟩
  have HMW : Hid (Mw w lo w.heap.size n l) := hmw
  have HWA : Hid (WayAt w S lo (.slice ad l.length cap) l ∧ (∀ x, S x → x < lo) ∧ lo ≤ w.heap.size) := ⟨h, hS, hlo⟩
  clear hmw h hS
  refine (callsIn_wide (n := 6)).1 ?_
  have f57 : Fence.wide.fn 57 := trivial
  have f58 : Fence.wide.fn 58 := trivial
  refine callsIn_of_wp_marks Try.func40 rfl trivial ?_ rfl
  simp only [Try.ntmps40, List.size_toArray, List.length_cons, List.length_nil, Nat.reduceAdd, Nat.reduceSub, Array.replicate_succ, Array.replicate_zero, List.push_toArray, List.append_toArray, List.nil_append, List.cons_append]
  gi_wp2_with (first
    | (gi_at_call 57; refine (callsIn_wide.2 CW).mono ?_; rintro e' w1 ⟨rfl, hb1, hs1, hw1⟩; obtain ⟨W, hW, hsW, hbW, hLc, hBt, hMi⟩ := HX.out w1 hb1 hs1 hw1)
    | (gi_at_call 58; refine (callsIn_wide.2 (back_any ad l.length cap _)).mono ?_; rintro e' w2 ⟨rfl, rfl⟩))
  rw [← hW]
  obtain ⟨gw, hgw, hgl, hgr⟩ : ∃ gw, (l = [] ∨ ad = some ⟨gw, 0, none⟩) ∧ gw < w.heap.size + 1 ∧ (l ≠ [] → gw < w.heap.size ∧ (∀ i c, i < l.length → c < 5 → W.cell? ⟨gw, i * 5 + c, none⟩ = (l.flatMap rsC)[i * 5 + c]?) ∧ ∀ x ∈ l, x.2.2.1 ≠ some ⟨gw, 0, none⟩) := by
    by_cases e : l = []
    · exact ⟨w.heap.size, .inl e, by omega, fun h => absurd e h⟩
    · have ho := HWA.out.1.own
      obtain ⟨g, rfl⟩ : ∃ g, ad = some ⟨g, 0, none⟩ := by
        obtain ⟨_, ⟨_, h2⟩ | ⟨g, cap', cur, h1, _⟩⟩ := ho
        · exact absurd (List.eq_nil_of_length_eq_zero h2) e
        · injection h1 with h1
          exact ⟨g, h1⟩
      have hlt := (ho.lt g rfl).2
      refine ⟨g, .inr rfl, by omega, fun _ => ⟨hlt, fun i c hi hc => ?_, fun x hx e2 => ?_⟩⟩
      · rw [← ho.cellAt (i * 5 + c) (by omega)]
        exact hbW.cell (p := ⟨g, i * 5 + c, none⟩) hlt
      · rcases HWA.out.1.args x hx with ⟨e3, _⟩ | ⟨B, e3, _, _, _, _, h6⟩
        · rw [e3] at e2; cases e2
        · rw [e3] at e2
          injection e2 with e2
          injection e2 with e2
          subst e2
          exact h6 rfl
  have HGR : Hid (l ≠ [] → gw < w.heap.size ∧ (∀ i c, i < l.length → c < 5 → W.cell? ⟨gw, i * 5 + c, none⟩ = (l.flatMap rsC)[i * 5 + c]?) ∧ ∀ x ∈ l, x.2.2.1 ≠ some ⟨gw, 0, none⟩) := hgr
  have HLW : Hid (W.heap.size = w.heap.size + 3 ∧ Below w.heap.size w W ∧ lo ≤ w.heap.size) := ⟨hsW, hbW, hlo⟩
  clear hW hgr CW HX hb1 hs1 hw1
  refine range_kth rfl (by omega) (gf := 72) (lb := #[.pointer (some ⟨w.heap.size + 1 + 1, 0, none⟩)]) rfl trivial (enters_of Try.func72 (by kernel_rfl) rfl) l.length (fun k => elE (elK l k)) (fun _ => rfl) (KpB (w.heap.size + 1 + 1) gw) (fun h k => h.trans k)
    (fun A B row hA hg hr => ⟨hg.block _ (by omega) (fun e => by have := hr _ e.symm; omega), hg.block _ (by omega) (fun e => by have := hr _ e.symm; omega)⟩) (Ik w W lo n l) (fun k A B row h hg hr => Ik.grown (by omega) h hg hr) ?seq ⟨hMi, hLc, Nat.le_refl _⟩ (fun k => .cells (stV (elK l k).2) 123 (0, 0))
    (fun k b => { tmps := #[.int .i64 n, .slice ad l.length cap, undef, undef, .slice none 0 0, .pointer (some ⟨w.heap.size + 1, 0, none⟩), undef, .pointer (some ⟨b, 0, none⟩), undef, undef, undef, .int .i64 n, .slice (some ⟨w.heap.size, 0, none⟩) n n, .slice ad l.length cap, .func (.func 72) #[] #[.pointer (some ⟨w.heap.size + 1 + 1, 0, none⟩)], .int .i64 (elK l k).1, .agg (stV (elK l k).2), undef, undef, undef, undef, undef, undef, undef, undef, undef, undef, undef, undef, undef, undef, undef, undef, undef, undef, undef, undef, undef, undef, undef, undef, undef, undef], defers := [] }) ?assign ?body ?done
  case seq =>
    intro lp J W1 hb hY h0
    have hB1 : W1.cell? ⟨w.heap.size + 1 + 1, 0, none⟩ = some (.slice ad l.length cap) := heap_cell' ((hb.block _ (by omega)).trans hBt) rfl
    by_cases e : l = []
    · subst e
      exact back_nil Fence.wide (6 - 1) trivial rfl lp _ ad cap J W1 hB1 h0
    · rcases hgw with h | rfl
      · exact absurd h e
      · have hq := HGR.out e
        exact back_in Fence.wide (6 - 1) trivial rfl (by omega) lp _ gw cap l hl J hY W1 hB1 (fun i c hi hc => (hb.cell (p := ⟨gw, i * 5 + c, none⟩) (by show gw < _; omega)).trans (hq.2.1 i c hi hc)) h0
  case assign =>
    intro lp k W1 K hK
    unfold elE
    generalize (elK l k).1 = ix at *
    generalize (elK l k).2 = x at *
    unfold stV at hK
    gi_wp2
    exact hK
  case body =>
    intro lp k b W1 hk hi hbb hob
    have hx : (elK l k).2 = l[l.length - 1 - k] := by
      unfold elK
      rw [List.getElem?_eq_getElem (by omega)]
      rfl
    have hxm : (elK l k).2 ∈ l := by rw [hx]; exact List.getElem_mem _
    generalize (elK l k).1 = ix at *
    generalize (elK l k).2 = x at *
    have hW := HMW.out.suf (l.length - (k + 1))
    rw [drop_snoc l k hk, ← hx] at hW
    obtain ⟨_, hne, hpl, hr, _⟩ := hW
    have hpos : 0 < x.1.1.length := List.length_pos_iff.2 hne
    have hp := HWA.out.1.path x hxm
    have HPT : Hid (∀ W2, Below lo w W2 → Nats W2 S (.slice x.2.1.1 x.1.1.length x.2.1.2) x.1.1) := fun W2 hb => hp.on (Keeps.of hb HWA.out.2.1)
    obtain ⟨pg, po, hpa, hpc, hpq⟩ : ∃ pg po, x.2.1.1 = some ⟨pg, po, none⟩ ∧ x.1.1.length ≤ x.2.1.2 ∧ ∀ W2, Below lo w W2 → ∀ j (h : j < x.1.1.length), W2.cell? ⟨pg, po + j, none⟩ = some (.int .i64 x.1.1[j]) := by
      rcases hp with ⟨h0, _⟩ | ⟨g, o, c, h1, _, h3, _⟩
      · exact absurd h0 hne
      · injection h1 with h1 _ h1c
        refine ⟨g, o, h1, by omega, fun W2 hb j h => ?_⟩
        rcases HPT.out W2 hb with ⟨h0, _⟩ | ⟨g', o', c', h1', _, _, h4'⟩
        · exact absurd h0 hne
        · injection h1' with h1' _ _
          rw [h1] at h1'
          injection h1' with h1'
          injection h1' with e1 e2
          subst e1 e2
          have := (h4' j h).2
          rw [Nat.mul_one] at this
          exact this
    have hpl : x.1.1.length ≤ ((l.drop (l.length - k)).map (·.1)).length + 1 := hpl
    have hr : Reach n ((l.drop (l.length - k)).map (·.1)) x.1.1 := hr
    have hlen : x.1.1.length ≤ 100001 := by
      have : ((l.drop (l.length - k)).map (·.1)).length ≤ l.length := by simp
      omega
    have hln : x.1.1[0] < n := by
      rcases hr 0 hpos with ⟨_, h⟩ | ⟨h, _⟩
      · exact h
      · omega
    obtain ⟨m, hm⟩ : ∃ m, m + 1 = x.1.1.length := ⟨x.1.1.length - 1, by omega⟩
    obtain ⟨bk, hbk⟩ : ∃ bk : Nat → Nat, bk = fun j => blkAt (l.drop (l.length - k)) w.heap.size (x.1.1.take j) := ⟨_, rfl⟩
    obtain ⟨pv, hpv⟩ : ∃ pv : Nat → Nat, ∀ j (h : j < x.1.1.length), x.1.1[j] = pv j := ⟨fun j => (x.1.1[j]?).getD 0, fun j h => by simp [h]⟩
    have HNX : Hid (∀ W2, Ik w W lo n l k W2 → ∀ j, j + 1 < m + 1 → ∃ cnt, W2.cell? ⟨bk j, pv j * 4 + 3, none⟩ = some (.slice (some ⟨bk (j + 1), 0, none⟩) cnt cnt) ∧ pv (j + 1) < cnt) := fun W2 h2 j hj => by
      obtain ⟨cnt, h1, h3⟩ := h2.mi.next HMW.out hr j (by omega)
      rw [hpv j (by omega)] at h1
      rw [hpv (j + 1) (by omega)] at h3
      rw [hbk]
      exact ⟨cnt, h1, h3⟩
    have HPU : Hid (∀ W2, Ik w W lo n l k W2 → (∀ c, c < 4 → ∃ v, W2.cell? ⟨bk m, pv m * 4 + c, none⟩ = some v ∧ W2.frozen? ⟨bk m, pv m * 4 + c, none⟩ = false) ∧ KeepsFrom W.heap.size W2 (set4 W2 (bk m) (pv m) (.int .i64 x.1.2.1.1) (.string ⟨x.1.2.1.2.1.toArray⟩) (.int .i64 x.1.2.1.2.2) (.slice x.2.2.1 x.1.2.2 x.2.2.2)) ∧ KpB (w.heap.size + 1 + 1) gw W2 (set4 W2 (bk m) (pv m) (.int .i64 x.1.2.1.1) (.string ⟨x.1.2.1.2.1.toArray⟩) (.int .i64 x.1.2.1.2.2) (.slice x.2.2.1 x.1.2.2 x.2.2.2)) ∧ Ik w W lo n l (k + 1) (set4 W2 (bk m) (pv m) (.int .i64 x.1.2.1.1) (.string ⟨x.1.2.1.2.1.toArray⟩) (.int .i64 x.1.2.1.2.2) (.slice x.2.2.1 x.1.2.2 x.2.2.2))) := fun W2 h2 => by
      obtain ⟨h1, h3, h4, h5⟩ := h2.mi.put HMW.out hk hx rfl m hm (by omega)
      have e2 : blkAt (l.drop (l.length - k)) w.heap.size (x.1.1.take m) = bk m := by rw [hbk]
      rw [hpv m (by omega), e2] at h5
      have h1' : ∀ c, c < 4 → ∃ v, W2.cell? ⟨bk m, pv m * 4 + c, none⟩ = some v ∧ W2.frozen? ⟨bk m, pv m * 4 + c, none⟩ = false := fun c hc => by
        obtain ⟨v, q1, q2⟩ := h1 c hc
        rw [hpv m (by omega), e2] at q1 q2
        exact ⟨v, q1, q2⟩
      rw [e2] at h4
      have hlne : l ≠ [] := fun e => by rw [e] at hk; simp at hk
      have hgq := HGR.out hlne
      have hb1 : bk m < w.heap.size + 1 ∧ bk m ≠ gw := by
        rcases h4 with e | ⟨y, hy, e⟩
        · exact ⟨by omega, by omega⟩
        · refine ⟨?_, fun q => hgq.2.2 y hy (by rw [← q]; exact e)⟩
          rcases HMW.out.args y hy with ⟨e3, _⟩ | ⟨B, e3, _, _, e4⟩
          · rw [e3] at e; cases e
          · rw [e3] at e; injection e with e; injection e with e; omega
      have hcells : ∃ c t f, W2.heap[bk m]? = some (Obj.cells c t f) := by
        obtain ⟨v, q1, _⟩ := h1' 0 (by omega)
        unfold World.cell? at q1
        cases hq : W2.heap[bk m]? with
        | none => simp [hq] at q1
        | some o =>
          cases o with
          | cells c t f => exact ⟨c, t, f, rfl⟩
          | _ => simp [hq] at q1
      refine ⟨h1', ⟨by rw [set4_size]; exact Nat.le_refl _, fun y o hy ho hoc => ?_⟩, ⟨set4_other _ _ _ _ _ _ _ _ (by omega), set4_other _ _ _ _ _ _ _ _ (fun q => hb1.2 q.symm)⟩, h5, ?_, by rw [set4_size]; exact h2.size⟩
      · rw [set4_other _ _ _ _ _ _ _ _ (by have := HLW.out.1; omega)]
        exact ho
      · rw [set4_other _ _ _ _ _ _ _ _ (by omega)]
        exact h2.box
    have hq0 := hpq W1 hi.mi.below 0 hpos
    rw [Nat.add_zero, hpv 0 hpos] at hq0
    rw [hpv 0 hpos] at hln
    have HPQ : Hid (∀ W2, Ik w W lo n l k W2 → ∀ j, j < m + 1 → W2.cell? ⟨pg, po + j, none⟩ = some (.int .i64 (pv j))) := fun W2 h2 j hj => by
      rw [← hpv j (by omega)]
      exact hpq W2 h2.mi.below j (by omega)
    unfold stV at hob
    unfold stV
    rw [hpa] at hob ⊢
    have b0 := heap_cell' (i := 0) hob rfl
    have c0 := heap_cell' (i := 0) hi.box rfl
    have HI : Hid (Ik w W lo n l k W1) := hi
    have hbk0 : bk 0 = w.heap.size := by rw [hbk]; rfl
    clear hi hpq hpv hbk hr hp hpl HPT hxm hx hne HMW HWA hgw hMi hLc hBt hbW hok hpa hsW
    generalize x.1.1.length = pl at *
    subst hm
    generalize x.1.2.1.1 = kd at *
    generalize x.1.2.1.2.1 = nm at *
    generalize x.1.2.1.2.2 = nu at *
    generalize x.2.2.1 = aa at *
    generalize x.1.2.2 = cn at *
    generalize x.2.2.2 = cp at *
    generalize x.2.1.2 = pc at *
    have HOB : Hid (W1.heap[b]? = some (.cells #[.slice (some ⟨pg, po, none⟩) (m + 1) pc, .int .i64 kd, .string ⟨nm.toArray⟩, .int .i64 nu, .slice aa cn cp] 123 (0, 0))) := hob
    clear hob
    dsimp only
    have i1 : (0 : Int) ≤ (pv 0 : Int) := by omega
    have i2 : (pv 0 : Int) < (n : Int) := by omega
    have mixed : Try.prog.follows .mixedOrders = true := by kernel_rfl
    gi_wp2
    gi_region_o
    all_goals
      have HI2 : Hid (Ik w W lo n l k W1.drew) := Ik.grown (row := none) (by have := HLW.out; omega) HI.out ⟨rfl, rfl, rfl, Nat.le_refl _, fun _ _ _ => rfl⟩ (fun r e => by cases e)
      have HOB2 : Hid (W1.drew.heap[b]? = some (.cells #[.slice (some ⟨pg, po, none⟩) (m + 1) pc, .int .i64 kd, .string ⟨nm.toArray⟩, .int .i64 nu, .slice aa cn cp] 123 (0, 0))) := HOB.out
      have HKD : Hid (∀ W3, (KeepsFrom W.heap.size W1.drew W3 ∧ KpB (w.heap.size + 1 + 1) gw W1.drew W3) → KeepsFrom W.heap.size W1 W3 ∧ KpB (w.heap.size + 1 + 1) gw W1 W3) := fun W3 h => ⟨⟨h.1.size, h.1.same⟩, h.2⟩
      clear HI HOB hq0 c0 b0 hbb hpl hr hgl hln
      obtain ⟨W2, hwd⟩ : ∃ W2, W2 = W1.drew := ⟨_, rfl⟩
      rw [← hwd] at HI2 HOB2 HKD ⊢
      clear hwd
      have b0 := heap_cell' (i := 0) HOB2.out rfl
      have b1 := heap_cell' (i := 1) HOB2.out rfl
      have b2 := heap_cell' (i := 2) HOB2.out rfl
      have b3 := heap_cell' (i := 3) HOB2.out rfl
      have b4 := heap_cell' (i := 4) HOB2.out rfl
      have e1 : (1 : Int) ≤ ((m + 1 : Nat) : Int) := by omega
      obtain ⟨h4, hkf, hkp, hik⟩ := HPU.out W2 HI2.out
      obtain ⟨u0, y0, z0⟩ := h4 0 (by omega)
      obtain ⟨u1, y1, z1⟩ := h4 1 (by omega)
      obtain ⟨u2, y2, z2⟩ := h4 2 (by omega)
      obtain ⟨u3, y3, z3⟩ := h4 3 (by omega)
      rw [Nat.add_zero] at y0 z0
      have HEND : Hid (KeepsFrom W.heap.size W1 (set4 W2 (bk m) (pv m) (.int .i64 kd) (.string ⟨nm.toArray⟩) (.int .i64 nu) (.slice aa cn cp)) ∧ KpB (w.heap.size + 1 + 1) gw W1 (set4 W2 (bk m) (pv m) (.int .i64 kd) (.string ⟨nm.toArray⟩) (.int .i64 nu) (.slice aa cn cp)) ∧ Ik w W lo n l (k + 1) (set4 W2 (bk m) (pv m) (.int .i64 kd) (.string ⟨nm.toArray⟩) (.int .i64 nu) (.slice aa cn cp))) := ⟨(HKD.out _ ⟨hkf, hkp⟩).1, (HKD.out _ ⟨hkf, hkp⟩).2, hik⟩
      have HB0 : Hid (bk 0 = w.heap.size) := hbk0
      clear h4 hkf hkp hik HKD HPU HOB2 hbk0
      by_cases hpc1 : pc = 1
      · obtain rfl : m = 0 := by omega
        subst hpc1
        rw [HB0.out] at y0 y1 y2 y3 z0 z1 z2 z3
        gi_wp2
        gi_loopw [8, 27] (fun v8 iv wr => v8 = .pointer (some ⟨w.heap.size, pv 0 * 4, none⟩) ∧ iv = .int .i64 0 ∧ wr = W2) (fun _ _ _ => 0)
        case atStart => exact ⟨rfl, rfl, rfl⟩
        case round =>
          obtain ⟨rfl, rfl, rfl⟩ := hrel
          gi_wp2
          have := HEND.out
          rw [HB0.out] at this
          exact this
      · gi_wp2
        gi_loopw [8, 27] (fun v8 iv wr => ∃ j : Nat, j ≤ m ∧ v8 = .pointer (some ⟨bk j, pv j * 4, none⟩) ∧ iv = .int .i64 j ∧ wr = W2) (fun _ iv _ => m - (intOf iv).toNat)
        case atStart => exact ⟨0, by omega, by rw [HB0.out], by go_num, rfl⟩
        case round =>
          obtain ⟨j, hj, rfl, rfl, rfl⟩ := hrel
          by_cases hjm : j < m
          · have q := HPQ.out _ HI2.out (j + 1) (by omega)
            obtain ⟨cnt, q2, hlt⟩ := HNX.out _ HI2.out j (by omega)
            have q : wr.cell? ⟨pg, po + 1 + j, none⟩ = some (.int .i64 (pv (j + 1))) := by rw [← q]; congr 2; omega
            have j1 : (0 : Int) ≤ (j : Int) := by omega
            have j2 : (j : Int) < (m : Int) := by omega
            have j3 : (0 : Int) ≤ (pv (j + 1) : Int) := by omega
            have j4 : (pv (j + 1) : Int) < (cnt : Int) := by omega
            gi_wp2
            exact ⟨⟨j + 1, hjm, rfl, by go_num, trivial⟩, by simp [intOf]; omega⟩
          · obtain rfl : j = m := by omega
            gi_wp2
            exact HEND.out
  case done =>
    intro D W1 hD hi hd
    have c0 := heap_cell' (i := 0) hi.box rfl
    have HI : Hid (Ik w W lo n l l.length W1) := hi
    have HD : Hid (W1.heap[D]? = some (.deferred (some [])) ∧ W.heap.size ≤ D) := ⟨hd, hD⟩
    clear hi hMi hLc hBt hbW hsW hgw hgl HGR HMW HWA hok hd hD
    gi_wp2
    refine ⟨by simp, .inl ⟨_, _, rfl, run_takeDeferred HD.out.1, ?_⟩⟩
    refine ⟨.slice (some ⟨w.heap.size, 0, none⟩) n n, by simp [results, Try.results40, go_sem], w.heap.size, rfl, Nat.le_refl _, ?_, ?_⟩
    · refine HI.out.mi.grown (B := W.heap.size) (by have := HLW.out; omega) (by have := HLW.out; have := HI.out.size; omega) (grownBy_putObj' W1 D _) (fun r e => ?_)
      injection e with e
      subst e
      exact ⟨HD.out.2, _, HD.out.1, rfl⟩
    · have h1 := HI.out.size
      have h2 := HLW.out
      have h3 : (W1.putObj D (.deferred none)).heap.size = W1.heap.size := by simp [World.putObj]
      rw [h3]
      omega
end Go.Proofs.Ytpdmkhnonbbhnaa
