/- The graph: the contract of typeOf. -/
import Derived.Test.YtikpipenhamdbaaMpx
import Derived.Test.YtikpipenhamdbaaMox
import Derived.Test.YtikpipenhamdbaaMmx
namespace Go.Proofs.Ytikpipenhamdbaa
open Go.RowKit Go.Maps

/-- The nodes, wherever they lead by now. -/
def Gr (w : World) (lo G b wk : Nat) (R : Nat → Prop) (xs : List Gx) (D : DataW Unit) (dn : Nat → List Nd) (rt rk : Nat → Nat) : Prop := ∃ ys, Eqg xs ys ∧ DenX ys dn rt rk ∧ GX w lo G b R ys D wk
/-- What typeOf answers. -/
def TypeP (lo G b wk : Nat) (R : Nat → Prop) (xs : List Gx) (D : DataW Unit) (dn : Nat → List Nd) (rt rk : Nat → Nat) (N i : Nat) (w : World) (e : Ending) (w' : World) : Prop :=
  ∃ (k : Int) (n : ByteArray) (ad : Option Addr) (len cap : Nat) (t : Tn N) (rws : List (Value × Nat)), e = .returned (.agg #[.int .i64 k, .string n, .slice ad len cap]) ∧ TyO w' w.heap.size N (.agg #[.int .i64 k, .string n, .slice ad len cap]) t rws ∧ SepB w.heap.size w'.heap.size rws ∧ flat N t = dn i ∧ Gk lo G b w w' ∧ Gr w' lo G b wk R xs D dn rt rk
theorem ok_name {k : Int} {n : List UInt8} {l : Nat} (h : okB k n l = true) : n.length ≤ 4096 := by
  unfold okB at h
  split at h
  · simp at h
    simp [h.1]
  · split at h
    · simp at h
      exact var_len h.1
    · split at h
      · simp at h
        simp [h.1]
      · split at h
        · simp only [Bool.and_eq_true, dataB, decide_eq_true_eq] at h
          exact h.1.1.2
        · cases h
theorem kind_any (k : Int) (hk : k = 1 ∨ k = 2 ∨ k = 3 ∨ k = 4) (w : World) : Calls Try.prog 51 #[.int .i64 k] w fun e w' => e = .returned (.int .i64 k) ∧ w' = w := by
  have key : (Instr.index 119 (.agg #[.int .i64 0, .int .i64 1, .int .i64 2, .int .i64 3, .int .i64 4]) (.int .i64 k)).run Try.prog w = .ok (.int .i64 k) w := by
    rcases hk with rfl | rfl | rfl | rfl <;> kernel_rfl
  go_enter Try.func51, Try.ntmps51
  go_wp2
  go_ret
  exact ⟨rfl, rfl⟩
/-- The cells of a node that leads nowhere. -/
def Six (W : World) (G g n cap r : Nat) (k : Int) (nm : List UInt8) (ad : Option Addr) (la : Nat) (ins : Bool) (wlk : Nat) : Prop := W.cell? ⟨G, 0, none⟩ = some (.slice (some ⟨g, 0, none⟩) n cap) ∧ W.cell? ⟨g, r * 6, none⟩ = some (.int .i64 k) ∧ W.cell? ⟨g, r * 6 + 1, none⟩ = some (.string ⟨nm.toArray⟩) ∧ W.cell? ⟨g, r * 6 + 2, none⟩ = some (.slice ad la la) ∧ W.cell? ⟨g, r * 6 + 3, none⟩ = some (.int .i64 (r : Nat)) ∧ W.cell? ⟨g, r * 6 + 4, none⟩ = some (.bool ins) ∧ W.cell? ⟨g, r * 6 + 5, none⟩ = some (.int .i64 wlk)
theorem GX.six {w : World} {lo G b wk : Nat} {R : Nat → Prop} {xs : List Gx} {D : DataW Unit} {dn : Nat → List Nd} {rt rk : Nat → Nat} (h : GX w lo G b R xs D wk) (d : DenX xs dn rt rk) (i : Nat) (hi : i < xs.length) : ∃ g cap ad, g ≠ G ∧ g < w.heap.size ∧ Six w G g xs.length cap (rt i) (lbX xs (rt i)).1 (lbX xs (rt i)).2 ad (arX xs (rt i)).length (inX xs (rt i)) (wkX xs (rt i)) ∧ (arX xs (rt i) = [] ∨ ∃ ga, ad = some ⟨ga, 0, none⟩ ∧ w.heap[ga]? = some (.cells ((arX xs (rt i)).map fun (x : Nat) => Value.int .i64 x).toArray 3 (0, 0))) := by
  have hr := Den.rt_lt d hi
  obtain ⟨g, cap, ad', c0, -, hgG, -, ⟨n0, n1, n2, n3, n4, n5⟩, -, -⟩ := h.at hr
  obtain ⟨ad, q1, q2⟩ := h.argRow hr c0
  have e1 : xs[rt i].is = (lbX xs (rt i)).1 := by unfold lbX; rw [getD_at hr]
  have e2 : xs[rt i].name = (lbX xs (rt i)).2 := by unfold lbX; rw [getD_at hr]
  have e3 : xs[rt i].tg = rt i := by
    have := Den.rt_tg d hi
    unfold tgX at this
    rw [getD_at hr] at this
    exact this
  have e4 : xs[rt i].ins = inX xs (rt i) := by unfold inX; rw [getD_at hr]
  have e5 : xs[rt i].walk = wkX xs (rt i) := by unfold wkX; rw [getD_at hr]
  rw [e1] at n0
  rw [e2] at n1
  rw [e3] at n3
  rw [e4] at n4
  rw [e5] at n5
  exact ⟨g, cap, ad, hgG, lt_cell n0, ⟨c0, n0, n1, q1, n3, n4, n5⟩, q2⟩
/-- A node's cells behind end. -/
theorem end_node {w : World} {lo G b wk : Nat} {R : Nat → Prop} {xs : List Gx} {D : DataW Unit} {dn : Nat → List Nd} {rt rk : Nat → Nat} (h : GX w lo G b R xs D wk) (d : DenX xs dn rt rk) (i : Nat) (hi : i < xs.length) {g cap la : Nat} {k : Int} {nm : List UInt8} {ad : Option Addr} {ins : Bool} {wlk : Nat} (hgG : g ≠ G) (hs : Six w G g xs.length cap (rt i) k nm ad la ins wlk) :
    Calls Try.prog 29 #[.pointer (some ⟨G, 0, none⟩), .int .i64 i] w fun e w' => e = .returned (.int .i64 (rt i : Nat)) ∧ Six w' G g xs.length cap (rt i) k nm ad la ins wlk ∧ (∀ j, j ≠ g → w'.heap[j]? = w.heap[j]?) ∧ Hid (Gk lo G b w w' ∧ w'.heap.size = w.heap.size ∧ Gr w' lo G b wk R xs D dn rt rk) := by
  obtain ⟨c0, n0, n1, n2, n3, n4, n5⟩ := hs
  refine Calls.mono (end_all h d i hi c0 (Ne.symm hgG)) ?_
  rintro e w' ⟨rfl, E0, hfr, hfc⟩
  have hr := Den.rt_lt d hi
  have c0' : w'.cell? ⟨G, 0, none⟩ = some (.slice (some ⟨g, 0, none⟩) xs.length cap) := (World.cell?_of_block (w := w) (hfr G (Ne.symm hgG))).trans c0
  obtain ⟨ys, hE, hd, hX⟩ := E0.ex
  have hr' : rt i < ys.length := by rw [hE.len]; exact hr
  obtain ⟨g', cap', ad', e0, -, -, -, ⟨-, -, -, n3', -, -⟩, -, -⟩ := hX.at hr'
  rw [c0'] at e0
  have eg := slice_block e0
  subst eg
  have e3 : ys[rt i].tg = rt i := by
    have := Den.rt_tg hd (i := i) (by rw [hE.len]; exact hi)
    unfold tgX at this
    rw [getD_at hr'] at this
    exact this
  rw [e3] at n3'
  exact ⟨rfl, ⟨c0', (hfc _ (by omega)).trans n0, (hfc _ (by omega)).trans n1, (hfc _ (by omega)).trans n2, n3', (hfc _ (by omega)).trans n4, (hfc _ (by omega)).trans n5⟩, hfr, E0.gk, E0.size, ys, hE, hd, hX⟩
/-- A block of another one has turned. -/
theorem GX.far {w w' : World} {lo G b wk : Nat} {R : Nat → Prop} {xs : List Gx} {D : DataW Unit} (h : GX w lo G b R xs D wk) {g n cap z : Nat} (c0 : w.cell? ⟨G, 0, none⟩ = some (.slice (some ⟨g, 0, none⟩) n cap)) (hz : z ≠ g) {c : Array Value} {ty : TypeId} {fz : Nat × Nat} (hzc : w.heap[z]? = some (.cells c ty fz)) (ht : ty ≠ 3 ∧ ty ≠ 51) (hg : w.grownBy w' (some z)) : GX w' lo G b R xs D wk := by
  obtain ⟨v, ns, e, h, hR⟩ := h
  have hk : ∀ (j : Nat) (o : Obj), w.heap[j]? = some o → j ≠ z → w'.heap[j]? = some o := fun j o hj hne => by
    rw [hg.block j (lt_of_heap hj) (fun e => hne (Option.some.inj e))]
    exact hj
  refine ⟨v, ns, e, ⟨hk _ _ h.box fun e => ?_, own_keep h.own fun j hj => ?_, h.map.kept hg (fun e => ?_), h.msz, fun n hn => ?_, h.loG, h.lob, h.num⟩, hR⟩
  · have := h.box
    rw [e, hzc] at this
    exact ht.2 (cells_ty this)
  · rcases h.own.2 with ⟨h0, _⟩ | ⟨g', cap', cur, hv, _, hh, _⟩
    · rw [h0] at hj; cases hj
    · have hv' := hv
      rw [hv] at hj
      cases hj
      refine (hk _ _ hh fun e => hz ?_).trans hh.symm
      have hb := h.box
      have : w.cell? ⟨G, 0, none⟩ = some v := by simp only [World.cell?, hb]; rfl
      rw [c0, hv'] at this
      rw [← e]
      exact (slice_block this).symm
  · obtain ⟨es, clock, hb, _⟩ := h.map
    have e := Option.some.inj e
    rw [e, hzc] at hb
    cases hb
  · rcases h.arg n hn with q1 | ⟨g', q1, q2, q3⟩
    · exact .inl q1
    · refine .inr ⟨g', q1, q2, hk _ _ q3 fun e => ?_⟩
      rw [e, hzc] at q3
      exact ht.1 (cells_ty q3)
theorem Gr.far {w w' : World} {lo G b wk : Nat} {R : Nat → Prop} {xs : List Gx} {D : DataW Unit} {dn : Nat → List Nd} {rt rk : Nat → Nat} (h : Gr w lo G b wk R xs D dn rt rk) {g n cap z : Nat} (c0 : w.cell? ⟨G, 0, none⟩ = some (.slice (some ⟨g, 0, none⟩) n cap)) (hz : z ≠ g) {c : Array Value} {ty : TypeId} {fz : Nat × Nat} (hzc : w.heap[z]? = some (.cells c ty fz)) (ht : ty ≠ 3 ∧ ty ≠ 51) (hg : w.grownBy w' (some z)) : Gr w' lo G b wk R xs D dn rt rk := by
  obtain ⟨ys, h1, h2, h3⟩ := h
  exact ⟨ys, h1, h2, h3.far c0 hz hzc ht hg⟩
theorem Gr.below {w w' : World} {lo G b wk : Nat} {R : Nat → Prop} {xs : List Gx} {D : DataW Unit} {dn : Nat → List Nd} {rt rk : Nat → Nat} (h : Gr w lo G b wk R xs D dn rt rk) (hb : Below w.heap.size w w') : Gr w' lo G b wk R xs D dn rt rk := by
  obtain ⟨ys, h1, h2, h3⟩ := h
  exact ⟨ys, h1, h2, h3.below hb⟩
theorem size_set (W : World) (a : Addr) (v : Value) : (W.setCell a v).heap.size = W.heap.size := by simp [World.setCell]
theorem grown_set {U : World} {z : Nat} {V : World} (h : U.grownBy V (some z)) (i : Nat) (v : Value) : U.grownBy (V.setCell ⟨z, i, none⟩ v) (some z) :=
  ⟨h.os, h.tape, h.output, by rw [size_set]; exact h.size, fun k hk hne => by rw [Below.heap_setCell _ _ _ _ (fun e => hne (by rw [e]))]; exact h.block k hk hne⟩
/-- Six stores into a block of six cells. -/
theorem store6 {U : World} {z : Nat} {a0 a1 a2 a3 a4 a5 : Value} {t : TypeId} (h : U.heap[z]? = some (.cells #[a0, a1, a2, a3, a4, a5] t (0, 0))) (b0 b1 b2 b3 b4 b5 : Value) : ∃ W, W = (((((U.setCell ⟨z, 0, none⟩ b0).setCell ⟨z, 1, none⟩ b1).setCell ⟨z, 2, none⟩ b2).setCell ⟨z, 3, none⟩ b3).setCell ⟨z, 4, none⟩ b4).setCell ⟨z, 5, none⟩ b5 ∧ W.heap[z]? = some (.cells #[b0, b1, b2, b3, b4, b5] t (0, 0)) ∧ W.heap.size = U.heap.size ∧ U.grownBy W (some z) := by
  have h0 : (U.setCell ⟨z, 0, none⟩ b0).heap[z]? = some (.cells #[b0, a1, a2, a3, a4, a5] t (0, 0)) := (setCell_block h).trans rfl
  have h1 : ((U.setCell ⟨z, 0, none⟩ b0).setCell ⟨z, 1, none⟩ b1).heap[z]? = some (.cells #[b0, b1, a2, a3, a4, a5] t (0, 0)) := (setCell_block h0).trans rfl
  have g1 : U.grownBy ((U.setCell ⟨z, 0, none⟩ b0).setCell ⟨z, 1, none⟩ b1) (some z) := grown_set (grown_set ⟨rfl, rfl, rfl, Nat.le_refl _, fun _ _ _ => rfl⟩ _ _) _ _
  have s1 : ((U.setCell ⟨z, 0, none⟩ b0).setCell ⟨z, 1, none⟩ b1).heap.size = U.heap.size := by rw [size_set, size_set]
  generalize (U.setCell ⟨z, 0, none⟩ b0).setCell ⟨z, 1, none⟩ b1 = U1 at *
  have h2 : (U1.setCell ⟨z, 2, none⟩ b2).heap[z]? = some (.cells #[b0, b1, b2, a3, a4, a5] t (0, 0)) := (setCell_block h1).trans rfl
  have h3 : ((U1.setCell ⟨z, 2, none⟩ b2).setCell ⟨z, 3, none⟩ b3).heap[z]? = some (.cells #[b0, b1, b2, b3, a4, a5] t (0, 0)) := (setCell_block h2).trans rfl
  have g3 : U.grownBy ((U1.setCell ⟨z, 2, none⟩ b2).setCell ⟨z, 3, none⟩ b3) (some z) := grown_set (grown_set g1 _ _) _ _
  have s3 : ((U1.setCell ⟨z, 2, none⟩ b2).setCell ⟨z, 3, none⟩ b3).heap.size = U.heap.size := by rw [size_set, size_set, s1]
  generalize (U1.setCell ⟨z, 2, none⟩ b2).setCell ⟨z, 3, none⟩ b3 = U3 at *
  have h4 : (U3.setCell ⟨z, 4, none⟩ b4).heap[z]? = some (.cells #[b0, b1, b2, b3, b4, a5] t (0, 0)) := (setCell_block h3).trans rfl
  exact ⟨_, rfl, (setCell_block h4).trans rfl, by rw [size_set, size_set, s3], grown_set (grown_set g3 _ _) _ _⟩
/-- A row of types has grown. -/
theorem GX.grow29 {w w' : World} {lo G b wk : Nat} {R : Nat → Prop} {xs : List Gx} {D : DataW Unit} (h : GX w lo G b R xs D wk) {row : Option Nat} (hg : w.grownBy w' row) (hr : ∀ z, row = some z → ∃ c fz, w.heap[z]? = some (.cells c 31 fz)) : GX w' lo G b R xs D wk := by
  obtain ⟨v, ns, e, h, hR⟩ := h
  have hk : ∀ (j : Nat) (o : Obj), w.heap[j]? = some o → (∀ c fz, o ≠ .cells c 31 fz) → w'.heap[j]? = some o := fun j o hj hne => by
    rw [hg.block j (lt_of_heap hj) (fun e => by
      obtain ⟨c, fz, hc⟩ := hr j e.symm
      rw [hc] at hj
      exact hne _ _ (Option.some.inj hj).symm)]
    exact hj
  refine ⟨v, ns, e, ⟨hk _ _ h.box (by intro c fz e; exact absurd (cells_ty (congrArg some e)) (by decide)), own_keep h.own fun j hj => ?_, h.map.kept hg (fun e => ?_), h.msz, fun n hn => ?_, h.loG, h.lob, h.num⟩, hR⟩
  · rcases h.own.2 with ⟨h0, _⟩ | ⟨g', cap', cur, hv, _, hh, _⟩
    · rw [h0] at hj; cases hj
    · rw [hv] at hj
      cases hj
      exact (hk _ _ hh (by intro c fz e; exact absurd (cells_ty (congrArg some e)) (by decide))).trans hh.symm
  · obtain ⟨es, clock, hb, _⟩ := h.map
    obtain ⟨c, fz, hc⟩ := hr b e.symm
    rw [hc] at hb
    cases hb
  · rcases h.arg n hn with q1 | ⟨g', q1, q2, q3⟩
    · exact .inl q1
    · exact .inr ⟨g', q1, q2, hk _ _ q3 (by intro c fz e; exact absurd (cells_ty (congrArg some e)) (by decide))⟩
theorem Gr.grow29 {w w' : World} {lo G b wk : Nat} {R : Nat → Prop} {xs : List Gx} {D : DataW Unit} {dn : Nat → List Nd} {rt rk : Nat → Nat} (h : Gr w lo G b wk R xs D dn rt rk) {row : Option Nat} (hg : w.grownBy w' row) (hr : ∀ z, row = some z → ∃ c fz, w.heap[z]? = some (.cells c 31 fz)) : Gr w' lo G b wk R xs D dn rt rk := by
  obtain ⟨ys, h1, h2, h3⟩ := h
  exact ⟨ys, h1, h2, h3.grow29 hg hr⟩
theorem RowO.keep {w w' : World} {lo d : Nat} {v : Value} {es : List El} {ts : List (Tn d)} {rss : List (List (Value × Nat))} (h : RowO w lo d v es ts rss) (hs : w.heap.size ≤ w'.heap.size) (hb : ∀ (g : Nat) (c : Array Value), lo ≤ g → w.heap[g]? = some (.cells c 31 (0, 0)) → w'.heap[g]? = w.heap[g]?) : RowO w' lo d v es ts rss := by
  have ho : ∀ {v : Value} {n : Nat} {xs : List Value}, w.ownsRow lo 31 3 v n xs → ∀ g, v.ownBlock = some g → w'.heap[g]? = w.heap[g]? := fun ho g hg => by
    rcases ho.2 with ⟨h0, _⟩ | ⟨g', cap', cur, hv, h1, hh, _⟩
    · rw [h0] at hg; cases hg
    · rw [hv] at hg
      cases hg
      exact hb _ _ h1 hh
  refine ⟨own_keep h.own (ho h.own), h.len, h.rlen, fun j a b c => TyO.on _ _ _ _ (fun p hp g hg => ?_) (h.each j a b c), ⟨fun p hp => ?_, h.sep.2⟩, h.away⟩
  · obtain ⟨xs, hx⟩ := TyO.each _ _ _ _ (h.each j a b c) p hp
    exact ho hx g hg
  · obtain ⟨g', e, h1, h2⟩ := h.sep.1 p hp
    exact ⟨g', e, h1, by omega⟩
/-- Between the rounds of typeOf. -/
structure TpW (w : World) (lo G b wk : Nat) (R : Nat → Prop) (xs : List Gx) (D : DataW Unit) (dn : Nat → List Nd) (rt rk : Nat → Nat) (zt : Nat) (k : Int) (nm : List UInt8) (ad : Option Addr) (aL : List Nat) (N : Nat) (wr : World) (v : Value) (es : List El) (ts : List (Tn N)) (rss : List (List (Value × Nat))) : Prop where
  gr : Gr wr lo G b wk R xs D dn rt rk
  gk : Gk lo G b w wr
  res : wr.heap[w.heap.size]? = some (.cells #[.int .i64 0, .string ⟨#[]⟩, .slice none 0 0] 31 (0, 0))
  made : wr.heap[zt]? = some (.cells #[.int .i64 k, .string ⟨nm.toArray⟩, v] 31 (0, 0))
  row : RowO wr (zt + 1) N v es ts rss
  flt : flats N ts = (aL.take ts.length).flatMap dn
  src : aL = [] ∨ ∃ ga, ad = some ⟨ga, 0, none⟩ ∧ wr.heap[ga]? = some (.cells (aL.map fun (x : Nat) => Value.int .i64 x).toArray 3 (0, 0))
  pos : w.heap.size < zt ∧ lo ≤ w.heap.size ∧ G < w.heap.size ∧ b < w.heap.size
/-- One more argument. -/
theorem TpW.step {w : World} {lo G b wk : Nat} {R : Nat → Prop} {xs : List Gx} {D : DataW Unit} {dn : Nat → List Nd} {rt rk : Nat → Nat} {zt : Nat} {k : Int} {nm : List UInt8} {ad : Option Addr} {aL : List Nat} {N : Nat} {wr : World} {va : Option Addr} {j vc : Nat} {es : List El} {ts : List (Tn N)} {rss : List (List (Value × Nat))} (h : TpW w lo G b wk R xs D dn rt rk zt k nm ad aL N wr (.slice va j vc) es ts rss) (hj : ts.length = j) (hjl : j < aL.length)
    {U w2 w3 : World} (hU : Sm wr U) (hk : Gk lo G b U w2) (hgr : Gr w2 lo G b wk R xs D dn rt rk) {e : El} {t : Tn N} {rws : List (Value × Nat)} (T : TyO w2 U.heap.size N (elV e) t rws) (S2 : SepB U.heap.size w2.heap.size rws) (hfl : flat N t = dn aL[j]) {o : Obj} {g cap3 : Nat}
    (hown : w3.ownsRow (zt + 1) 31 3 (.slice (some ⟨g, 0, none⟩) (j + 1) cap3) (j + 1) (es.flatMap elCells ++ elCells e)) (hgrow : (w2.alloc o).grownBy w3 (Value.slice va j vc).ownBlock) (hat : (Value.slice va j vc).ownBlock = some g ∨ g = w2.heap.size + 1) :
    w3.heap[zt]? = some (.cells #[.int .i64 k, .string ⟨nm.toArray⟩, .slice va j vc] 31 (0, 0)) ∧ ∃ V, V = w3.setCell ⟨zt, 2, none⟩ (.slice (some ⟨g, 0, none⟩) (j + 1) cap3) ∧ TpW w lo G b wk R xs D dn rt rk zt k nm ad aL N V (.slice (some ⟨g, 0, none⟩) (j + 1) cap3) (es ++ [e]) (ts ++ [t]) (rss ++ [rws]) := by
  obtain ⟨hp1, hp2, hp3, hp4⟩ := h.pos
  have hzt := lt_of_heap h.made
  have hsU : U.heap.size = wr.heap.size := by rw [hU.heap]
  have hs2 := hk.size
  have hkeep : ∀ (j : Nat) (o : Obj), wr.heap[j]? = some o → j ≠ G → j ≠ b → (∀ c fz, o ≠ .cells c 80 fz) → w2.heap[j]? = some o := fun j o h0 h1 h2 h3 => hk.keep j o (by rw [hU.heap]; exact h0) h1 h2 h3
  have hvb : ∀ j', (Value.slice va j vc).ownBlock = some j' → zt + 1 ≤ j' ∧ j' < wr.heap.size := fun j' hj' => h.row.own.lt j' hj'
  have hbl : ∀ j', j' < w2.heap.size → some j' ≠ (Value.slice va j vc).ownBlock → w3.heap[j']? = w2.heap[j']? := fun j' hj' hne => by
    rw [hgrow.block j' (by simp; omega) hne]
    exact Below.heap_alloc _ _ _ hj'
  have hsz3 : w2.heap.size ≤ w3.heap.size := by have := hgrow.size; simp at this; omega
  have c29 : ∀ (c : Array Value) (fz : Nat × Nat), ∀ c' fz', (Obj.cells c 31 fz) ≠ .cells c' 80 fz' := by intro c fz c' fz' e; exact absurd (cells_ty (congrArg some e)) (by decide)
  have hzt2 : w2.heap[zt]? = some (.cells #[.int .i64 k, .string ⟨nm.toArray⟩, .slice va j vc] 31 (0, 0)) := hkeep _ _ h.made (by omega) (by omega) (c29 _ _)
  have hzt3 : w3.heap[zt]? = some (.cells #[.int .i64 k, .string ⟨nm.toArray⟩, .slice va j vc] 31 (0, 0)) := by
    rw [hbl zt (by omega) (fun e => by have := hvb zt e.symm; omega)]
    exact hzt2
  have row2 : RowO w2 (zt + 1) N (.slice va j vc) es ts rss := h.row.keep (by omega) fun g c h1 h2 => by rw [hkeep g _ h2 (by omega) (by omega) (c29 _ _), h2]
  have row3 : RowO w3 (zt + 1) N (.slice (some ⟨g, 0, none⟩) (j + 1) cap3) (es ++ [e]) (ts ++ [t]) (rss ++ [rws]) := by
    refine row2.snoc (by omega) T S2 (by omega) ⟨fun p hp => ?_, row2.sep.2⟩ (fun j' hj' => by have := hvb j' hj'; omega) ?_ hsz3 hbl ?_
    · obtain ⟨g', e1, e2, e3⟩ := h.row.sep.1 p hp
      exact ⟨g', e1, e2, by omega⟩
    · rw [h.row.len, hj]; exact hown
    · rcases hat with hat | hat
      · exact .inl hat.symm
      · exact .inr ⟨g, rfl, by omega⟩
  have hrow29 : ∀ z, (Value.slice va j vc).ownBlock = some z → ∃ c fz, (w2.alloc o).heap[z]? = some (.cells c 31 fz) := fun z hz => by
    rcases h.row.own.2 with ⟨h0, _⟩ | ⟨g', cap', cur, hv, h1, hh, _⟩
    · rw [h0] at hz; cases hz
    · rw [hv] at hz
      cases hz
      have hz2 := hkeep _ _ hh (by omega) (by omega) (c29 _ _)
      exact ⟨_, _, (Below.heap_alloc _ _ _ (lt_of_heap hz2)).trans hz2⟩
  have gr3 : Gr w3 lo G b wk R xs D dn rt rk := (hgr.below ((Below.refl _ _).alloc (Nat.le_refl _) o)).grow29 hgrow hrow29
  have hset : w3.grownBy (w3.setCell ⟨zt, 2, none⟩ (.slice (some ⟨g, 0, none⟩) (j + 1) cap3)) (some zt) := grown_set ⟨rfl, rfl, rfl, Nat.le_refl _, fun _ _ _ => rfl⟩ _ _
  have low3 : ∀ j', j' < zt → w3.heap[j']? = w2.heap[j']? := fun j' hj' => hbl j' (by omega) (fun e => by have := hvb j' e.symm; omega)
  refine ⟨hzt3, _, rfl, ⟨gr3.grow29 hset fun z hz => ?_, ⟨?_, ?_, ?_, ?_, fun j' hj' => ?_, fun j' o' a1 a2 a3 a4 => ?_⟩, ?_, ?_, ?_, ?_, ?_, h.pos⟩⟩
  · have := Option.some.inj hz
    rw [← this]
    exact ⟨_, _, hzt3⟩
  · exact hgrow.os.trans (hk.os.trans (hU.os.trans h.gk.os))
  · exact hgrow.tape.trans (hk.tape.trans (hU.tape.trans h.gk.tape))
  · exact hgrow.output.trans (hk.output.trans (hU.output.trans h.gk.output))
  · have := h.gk.size
    rw [size_set]
    omega
  · rw [setCell_else (by omega), low3 j' (by omega), hk.low j' hj', hU.heap]
    exact h.gk.low j' hj'
  · have := lt_of_heap a1
    rw [setCell_else (by omega), low3 j' (by omega)]
    exact hkeep _ _ (h.gk.keep j' o' a1 a2 a3 a4) a2 a3 a4
  · rw [setCell_else (by omega), low3 _ hp1]
    exact hkeep _ _ h.res (by omega) (by omega) (c29 _ _)
  · rw [setCell_block hzt3]
    simp
  · exact row3.on (by rw [size_set]; exact Nat.le_refl _) fun j' hj' _ => setCell_else (by omega)
  · rw [flats_app, flats_cons, flats_nil, List.append_nil, h.flt, List.length_append, hj, hfl]
    show _ = (aL.take (j + 1)).flatMap dn
    rw [List.take_succ_eq_append_getElem hjl, List.flatMap_append]
    simp
  · rcases h.src with q | ⟨ga, q1, q2⟩
    · exact .inl q
    · refine .inr ⟨ga, q1, ?_⟩
      have n97 : ∀ c' fz', (Obj.cells (aL.map fun (x : Nat) => Value.int .i64 x).toArray 3 (0, 0)) ≠ .cells c' 80 fz' := by intro c' fz' e; exact absurd (cells_ty (congrArg some e)) (by decide)
      have hGb : ga ≠ G ∧ ga ≠ b := by
        obtain ⟨ys, _, _, v', ns, _, hG, _⟩ := h.gr
        refine ⟨fun e => ?_, fun e => ?_⟩
        · have := hG.box
          rw [← e, q2] at this
          exact absurd (cells_ty this) (by decide)
        · obtain ⟨es', clock, hb', _⟩ := hG.map
          rw [← e, q2] at hb'
          cases hb'
      have h2 := hkeep _ _ q2 hGb.1 hGb.2 n97
      rw [setCell_else (fun e => by rw [e, hzt2] at h2; exact absurd (cells_ty h2) (by decide)), hbl ga (lt_of_heap h2) (fun e => by
        rcases row2.own.2 with ⟨h0, _⟩ | ⟨g', cap', cur, hv, h1, hh, _⟩
        · rw [h0] at e; cases e
        · rw [hv] at e
          cases e
          rw [hh] at h2
          exact absurd (cells_ty h2) (by decide))]
      exact h2
/-- All arguments are there. -/
theorem TpW.fin {w : World} {lo G b wk : Nat} {R : Nat → Prop} {xs : List Gx} {D : DataW Unit} {dn : Nat → List Nd} {rt rk : Nat → Nat} {zt : Nat} {k : Int} {nm : List UInt8} {ad : Option Addr} {aL : List Nat} {N i : Nat} {wr : World} {va : Option Addr} {vc : Nat} {es : List El} {ts : List (Tn N)} {rss : List (List (Value × Nat))} (h : TpW w lo G b wk R xs D dn rt rk zt k nm ad aL N wr (.slice va aL.length vc) es ts rss) (hl : ts.length = aL.length) (hn : nm.length < 140737488355328) (h6 : aL.length ≤ 6) (hd : dn i = (k, nm, aL.length) :: aL.flatMap dn) :
    ∃ W, W = ((wr.setCell ⟨w.heap.size, 0, none⟩ (.int .i64 k)).setCell ⟨w.heap.size, 1, none⟩ (.string ⟨nm.toArray⟩)).setCell ⟨w.heap.size, 2, none⟩ (.slice va aL.length vc) ∧ W.heap[w.heap.size]? = some (.cells #[.int .i64 k, .string ⟨nm.toArray⟩, .slice va aL.length vc] 31 (0, 0)) ∧ TypeP lo G b wk R xs D dn rt rk (N + 1) i w (.returned (.agg #[.int .i64 k, .string ⟨nm.toArray⟩, .slice va aL.length vc])) W := by
  obtain ⟨hp1, hp2, hp3, hp4⟩ := h.pos
  obtain ⟨W, hW, k1, k2⟩ := put_box h.res (.int .i64 k) (.string ⟨nm.toArray⟩) (.slice va aL.length vc)
  have hg : wr.grownBy W (some w.heap.size) := by
    rw [hW]
    exact grown_set (grown_set (grown_set ⟨rfl, rfl, rfl, Nat.le_refl _, fun _ _ _ => rfl⟩ _ _) _ _) _ _
  have hsz : W.heap.size = wr.heap.size := by rw [hW, size_set, size_set, size_set]
  have hfar : ∀ j, j ≠ w.heap.size → W.heap[j]? = wr.heap[j]? := fun j hj => by
    rw [hW, setCell_else hj, setCell_else hj, setCell_else hj]
  have hgk : Gk lo G b w W := by
    have hh := h.gk
    refine ⟨hg.os.trans hh.os, hg.tape.trans hh.tape, hg.output.trans hh.output, by rw [hsz]; exact hh.size, fun j hj => ?_, fun j o a1 a2 a3 a4 => ?_⟩
    · rw [hfar j (by omega)]
      exact hh.low j hj
    · have := lt_of_heap a1
      rw [hfar j (by omega)]
      exact hh.keep j o a1 a2 a3 a4
  have hgr : Gr W lo G b wk R xs D dn rt rk := h.gr.grow29 hg fun z hz => by
    rw [← Option.some.inj hz]
    exact ⟨_, _, h.res⟩
  have hflat : flat (N + 1) ((k, nm), ts) = dn i := by
    rw [flat_succ, h.flt, hd, hl, List.take_length]
  have row : RowO W (zt + 1) N (.slice va aL.length vc) es ts rss := h.row.on (by omega) fun j hj _ => hfar j (by omega)
  refine ⟨W, hW, k1, ?_⟩
  by_cases h0 : ts = []
  · have hz : aL.length = 0 := by rw [← hl, h0]; rfl
    refine ⟨k, _, va, aL.length, vc, ((k, nm), ts), [], rfl, ⟨_, rfl, hn, by show ts.length < _; omega, .inl ⟨h0, ⟨va, vc, by rw [hz]⟩, rfl⟩⟩, ⟨fun p hp => by simp at hp, by simp⟩, hflat, hgk, hgr⟩
  · obtain ⟨T, S⟩ := row.tree h0 k nm hn (by omega)
    refine ⟨k, _, va, aL.length, vc, ((k, nm), ts), _, rfl, TyO.mono (by omega) _ _ _ _ T, ⟨fun p hp => ?_, S.2⟩, hflat, hgk, hgr⟩
    obtain ⟨g', e1, e2, e3⟩ := S.1 p hp
    exact ⟨g', e1, by omega, e3⟩
/-- The node is copied. -/
structure AtW (W0 wc : World) (lo G b wk : Nat) (R : Nat → Prop) (xs : List Gx) (D : DataW Unit) (dn : Nat → List Nd) (rt rk : Nat → Nat) (g : Nat) (k : Int) (nm : List UInt8) (ad : Option Addr) (la : Nat) (r : Nat) (ins : Bool) (wlk : Nat) : Prop where
  new : wc.heap[W0.heap.size]? = some (.cells #[.int .i64 k, .string ⟨nm.toArray⟩, .slice ad la la, .int .i64 r, .bool ins, .int .i64 wlk] 80 (0, 0))
  size : wc.heap.size = W0.heap.size + 1
  old : ∀ j, j ≠ g → j < W0.heap.size → wc.heap[j]? = W0.heap[j]?
  gk : Gk lo G b W0 wc
  gr : Gr wc lo G b wk R xs D dn rt rk
set_option maxHeartbeats 8000000 in
set_option maxRecDepth 10000 in
theorem type_step {lo G b wk : Nat} {R : Nat → Prop} {D : DataW Unit} {dn : Nat → List Nd} {rt rk : Nat → Nat} (N : Nat) (IH : ∀ (xs : List Gx) (w : World) (i : Nat), GX w lo G b R xs D wk → DenX xs dn rt rk → i < xs.length → (dn i).length ≤ N → Okr (dn i) → Calls Try.prog 36 #[.pointer (some ⟨G, 0, none⟩), .int .i64 i] w (TypeP lo G b wk R xs D dn rt rk N i w))
    (xs : List Gx) (w : World) (i : Nat) (h : GX w lo G b R xs D wk) (d : DenX xs dn rt rk) (hi : i < xs.length) (hN : (dn i).length ≤ N + 1) (hO : Okr (dn i)) :
    Calls Try.prog 36 #[.pointer (some ⟨G, 0, none⟩), .int .i64 i] w (TypeP lo G b wk R xs D dn rt rk (N + 1) i w) := by
  have hform := Den.form d hi
  have hr := Den.rt_lt d hi
  rw [hform] at hO
  obtain ⟨hok, hO2⟩ := Okr.cons.1 hO
  have CI : Hid (∀ (W : World) (a : Nat), Gr W lo G b wk R xs D dn rt rk → a ∈ arX xs (rt i) → Calls Try.prog 36 #[.pointer (some ⟨G, 0, none⟩), .int .i64 a] W (TypeP lo G b wk R xs D dn rt rk N a W)) := fun W a hG ha => by
    obtain ⟨ys, hE, hd, hX⟩ := hG
    have hlt := Den.less d hi ha
    refine Calls.mono (IH ys W a hX hd (by rw [hE.len]; exact Den.argr d hi ha) (by omega) fun nd hn => hO2 nd (List.mem_flatMap.2 ⟨a, ha, hn⟩)) ?_
    rintro e w' ⟨k, n, ad, len, cap, t, rws, h1, h2, h3, h4, h5, zs, z1, z2, z3⟩
    exact ⟨k, n, ad, len, cap, t, rws, h1, h2, h3, h4, h5, zs, hE.trans z1, z2, z3⟩
  have hnum := h.num
  obtain ⟨W0, hW0, hbW0, hsW0, _, _, _⟩ := cells_box w (.int .i64 0) (.string ⟨#[]⟩) (.slice none 0 0) 31
  have hz : W0.heap[w.heap.size]? = some (.cells #[.int .i64 0, .string ⟨#[]⟩, .slice none 0 0] 31 (0, 0)) := by rw [hW0]; exact heap_alloc_new w _
  have h0 := h.below hbW0
  obtain ⟨g, cap, ad, hgG, hgl, S0, hsrc⟩ := h0.six d i hi
  have C1 : ∀ W, Sm W0 W → Calls Try.prog 29 #[.pointer (some ⟨G, 0, none⟩), .int .i64 i] W fun e w' => e = .returned (.int .i64 (rt i : Nat)) ∧ Six w' G g xs.length cap (rt i) (lbX xs (rt i)).1 (lbX xs (rt i)).2 ad (arX xs (rt i)).length (inX xs (rt i)) (wkX xs (rt i)) ∧ Hid ((∀ j, j ≠ g → w'.heap[j]? = W0.heap[j]?) ∧ Gk lo G b W0 w' ∧ w'.heap.size = W0.heap.size ∧ Gr w' lo G b wk R xs D dn rt rk) := fun W s => by
    refine Calls.mono (end_node (h0.sm s) d i hi hgG (by obtain ⟨s0, s1, s2, s3, s4, s5, s6⟩ := S0; exact ⟨(s.cell _).trans s0, (s.cell _).trans s1, (s.cell _).trans s2, (s.cell _).trans s3, (s.cell _).trans s4, (s.cell _).trans s5, (s.cell _).trans s6⟩)) ?_
    rintro e w' ⟨rfl, h1, h2, h3, h4, h5⟩
    exact ⟨rfl, h1, fun j hj => (h2 j hj).trans (by rw [s.heap]), (Gk.of_sm s).trans h3, by rw [h4, s.heap], h5⟩
  have C2 : ∀ W, Sm (W0.alloc (Obj.cells #[.int .i64 0, .string ⟨#[]⟩, .slice none 0 0, .int .i64 0, .bool false, .int .i64 0] 80)) W → Calls Try.prog 29 #[.pointer (some ⟨G, 0, none⟩), .int .i64 i] W fun e w' => e = .returned (.int .i64 (rt i : Nat)) ∧ Six w' G g xs.length cap (rt i) (lbX xs (rt i)).1 (lbX xs (rt i)).2 ad (arX xs (rt i)).length (inX xs (rt i)) (wkX xs (rt i)) ∧ w'.heap[W0.heap.size]? = some (.cells #[.int .i64 0, .string ⟨#[]⟩, .slice none 0 0, .int .i64 0, .bool false, .int .i64 0] 80 (0, 0)) ∧ Hid ((∀ j, j ≠ g → j < W0.heap.size → w'.heap[j]? = W0.heap[j]?) ∧ Gk lo G b W0 w' ∧ w'.heap.size = W0.heap.size + 1 ∧ Gr w' lo G b wk R xs D dn rt rk) := fun W s => by
    have hb := (Below.refl W0.heap.size W0).alloc (Nat.le_refl _) (Obj.cells #[.int .i64 0, .string ⟨#[]⟩, .slice none 0 0, .int .i64 0, .bool false, .int .i64 0] 80)
    have hnew := heap_alloc_new W0 (.cells #[.int .i64 0, .string ⟨#[]⟩, .slice none 0 0, .int .i64 0, .bool false, .int .i64 0] 80)
    refine Calls.mono (end_node ((h0.below hb).sm s) d i hi hgG (by obtain ⟨s0, s1, s2, s3, s4, s5, s6⟩ := S0; exact ⟨(s.cell _).trans (alloc_keep s0 _), (s.cell _).trans (alloc_keep s1 _), (s.cell _).trans (alloc_keep s2 _), (s.cell _).trans (alloc_keep s3 _), (s.cell _).trans (alloc_keep s4 _), (s.cell _).trans (alloc_keep s5 _), (s.cell _).trans (alloc_keep s6 _)⟩)) ?_
    rintro e w' ⟨rfl, h1, h2, h3, h4, h5⟩
    refine ⟨rfl, h1, ?_, fun j hj hl => ?_, (Gk.of_below hb h0.num.2.1).trans ((Gk.of_sm s).trans h3), ?_, h5⟩
    · rw [h2 _ (by omega), s.heap]
      exact hnew
    · rw [h2 j hj, s.heap]
      exact hb.block j hl
    · rw [h4, s.heap]
      simp
  have i1 : (0 : Int) ≤ ((rt i : Nat) : Int) := by omega
  have i2 : ((rt i : Nat) : Int) < (xs.length : Int) := by omega
  obtain ⟨hk4, hL6⟩ := ok_kind hok
  have HSRC : Hid (arX xs (rt i) = [] ∨ ∃ ga, ad = some ⟨ga, 0, none⟩ ∧ ga ≠ g ∧ W0.heap[ga]? = some (.cells ((arX xs (rt i)).map fun (x : Nat) => Value.int .i64 x).toArray 3 (0, 0))) := by
    rcases hsrc with q | ⟨ga, q1, q2⟩
    · exact .inl q
    · refine .inr ⟨ga, q1, fun e => ?_, q2⟩
      obtain ⟨cur, hcur⟩ := h0.row S0.1 (by omega)
      rw [e, hcur] at q2
      exact absurd (cells_ty q2) (by decide)
  have HG97 : Hid (∃ cur, W0.heap[g]? = some (.cells cur 80 (0, 0))) := h0.row S0.1 (by omega)
  clear h h0 hN d IH hsrc
  generalize inX xs (rt i) = ins at *
  generalize wkX xs (rt i) = wlk at *
  generalize arX xs (rt i) = aL at *
  generalize (lbX xs (rt i)).1 = k at *
  generalize (lbX xs (rt i)).2 = nm at *
  unfold Six at S0 C1 C2
  go_enter Try.func36, Try.ntmps36
  go_upto_region 1 with fail
  rw [← hW0]
  clear hW0
  have q1 : ¬ G = W0.heap.size := by omega
  have q2 : ¬ g = W0.heap.size := by omega
  have q3 : ¬ W0.heap.size = G := fun e => q1 e.symm
  have q4 : ¬ W0.heap.size = g := fun e => q2 e.symm
  have HS0 : Hid (W0.heap.size = w.heap.size + 1) := hsW0
  clear hsW0
  go_cut [5] from 9 to 17 (fun s wc => s = .pointer (some ⟨W0.heap.size, 0, none⟩) ∧ Hid (AtW W0 wc lo G b wk R xs D dn rt rk g k nm ad aL.length (rt i) ins wlk))
  case first =>
    go_region_held3 (fun w' => w'.cell? ⟨G, 0, none⟩ = some (.slice (some ⟨g, 0, none⟩) xs.length cap) ∧ w'.cell? ⟨g, rt i * 6, none⟩ = some (.int .i64 k) ∧ w'.cell? ⟨g, rt i * 6 + 1, none⟩ = some (.string ⟨nm.toArray⟩) ∧ w'.cell? ⟨g, rt i * 6 + 2, none⟩ = some (.slice ad aL.length aL.length) ∧ w'.cell? ⟨g, rt i * 6 + 3, none⟩ = some (.int .i64 (rt i : Nat)) ∧ w'.cell? ⟨g, rt i * 6 + 4, none⟩ = some (.bool ins) ∧ w'.cell? ⟨g, rt i * 6 + 5, none⟩ = some (.int .i64 wlk)) (first | (with_reducible exact S0) | (with_reducible exact S5) | (with_reducible assumption) | go_keep) (first
      | (go_at_call 29; (with_reducible refine Calls.mono (C1 _ ?_) ?_); exact ⟨rfl, rfl, rfl, rfl⟩; rintro e' w5 ⟨rfl, S5, HE⟩)
      | (go_at_call 29; (with_reducible refine Calls.mono (C2 _ ?_) ?_); exact ⟨rfl, rfl, rfl, rfl⟩; rintro e' w5 ⟨rfl, S5, Z5, HE⟩; obtain ⟨⟨e0, e1, e2, e3, e4, e5⟩, f0, f1, f2, f3, f4, f5⟩ := six_cells Z5))
    · go_wp2_with fail
      go_meet
      obtain ⟨h1, h2, h3, h4⟩ := HE.out
      have hb := (Below.refl w5.heap.size w5).alloc (Nat.le_refl _) (Obj.cells #[.int .i64 k, .string ⟨nm.toArray⟩, .slice ad aL.length aL.length, .int .i64 (rt i : Nat), .bool ins, .int .i64 wlk] 80)
      refine ⟨by rw [h3], ?_, by simp [h3], fun j hj hl => ?_, h2.trans (Gk.of_below hb (by have := HS0.out; omega)), h4.below hb⟩
      · rw [← h3]
        exact heap_alloc_new w5 _
      · exact (hb.block j (by omega)).trans (h1 j hj)
    · go_wp2_with fail
      go_meet
      obtain ⟨h1, h2, h3, h4⟩ := HE.out
      obtain ⟨V, hV, v1, v2, v3⟩ := store6 Z5 (.int .i64 k) (.string ⟨nm.toArray⟩) (.slice ad aL.length aL.length) (.int .i64 (rt i : Nat)) (.bool ins) (.int .i64 wlk)
      rw [← hV]
      have hlo : lo ≤ W0.heap.size := by have := HS0.out; omega
      refine ⟨rfl, v1, by rw [v2, h3], fun j hj hl => ?_, ⟨v3.os.trans h2.os, v3.tape.trans h2.tape, v3.output.trans h2.output, by omega, fun j hj => ?_, fun j o a1 a2 a3 a4 => ?_⟩, h4.far S5.1 q4 Z5 ⟨by decide, by decide⟩ v3⟩
      · rw [v3.block j (by omega) (fun e => by have := Option.some.inj e; omega)]
        exact h1 j hj hl
      · rw [v3.block j (by omega) (fun e => by have := Option.some.inj e; omega)]
        exact h2.low j hj
      · have := lt_of_heap a1
        rw [v3.block j (by omega) (fun e => by have := Option.some.inj e; omega)]
        exact h2.keep j o a1 a2 a3 a4
  case rest =>
    obtain ⟨rfl, HA⟩ := hcut
    clear C1 C2 S0
    have hs1 : wc.heap.size = W0.heap.size + 1 := HA.out.size
    have HS1 : Hid (wc.heap.size = W0.heap.size + 1) := hs1
    have hx1 := HA.out.new
    have hz1 : wc.heap[w.heap.size]? = some (.cells #[.int .i64 0, .string ⟨#[]⟩, .slice none 0 0] 31 (0, 0)) := by
      have hlt := lt_of_heap hz
      rw [HA.out.old _ (fun e => ?_) hlt]
      · exact hz
      · have := HG97.out
        obtain ⟨cur, hc⟩ := this
        rw [← e, hz] at hc
        exact absurd (cells_ty hc) (by decide)
    obtain ⟨⟨e0, e1, e2, e3, e4, e5⟩, f0, f1, f2, f3, f4, f5⟩ := six_cells hx1
    have q5 : ¬ W0.heap.size = wc.heap.size := by omega
    have q6 : ¬ wc.heap.size = W0.heap.size := by omega
    clear hs1 q1 q2 q3 q4
    have CK : ∀ W, Calls Try.prog 51 #[.int .i64 k] W fun e w' => e = .returned (.int .i64 k) ∧ w' = W := fun W => kind_any k hk4 W
    go_upto_region 2 with fail
    go_cut [6] from 18 to 23 (fun s wd => s = .pointer (some ⟨wc.heap.size, 0, none⟩) ∧ wd = (wc.alloc (Obj.cells #[.int .i64 k, .string ⟨nm.toArray⟩, .slice none 0 0] 31)).drew)
    case first =>
      go_region_held3 (fun w' => w'.cell? ⟨W0.heap.size, 0, none⟩ = some (.int .i64 k) ∧ w'.cell? ⟨W0.heap.size, 1, none⟩ = some (.string ⟨nm.toArray⟩)) (first | exact ⟨e0, e1⟩ | assumption | exact ⟨alloc_keep e0 _, alloc_keep e1 _⟩ | go_keep) (first
        | (go_at_call 51; (with_reducible refine Calls.mono (CK _) ?_); rintro e' w5 ⟨rfl, rfl⟩))
      all_goals (go_wp2_with fail; go_meet; exact ⟨rfl, rfl⟩)
    case rest =>
      obtain ⟨rfl, rfl⟩ := hcut
      obtain ⟨W2, hW2⟩ : ∃ W2, W2 = (wc.alloc (Obj.cells #[.int .i64 k, .string ⟨nm.toArray⟩, .slice none 0 0] 31)).drew := ⟨_, rfl⟩
      rw [← hW2]
      have hb2 : Below wc.heap.size wc W2 := by rw [hW2]; exact ((Below.refl _ _).alloc (Nat.le_refl _) _).drew
      have hx2 : W2.heap[wc.heap.size]? = some (.cells #[.int .i64 k, .string ⟨nm.toArray⟩, .slice none 0 0] 31 (0, 0)) := by rw [hW2]; exact heap_alloc_new wc _
      have i2 : W2.cell? ⟨W0.heap.size, 2, none⟩ = some (.slice ad aL.length aL.length) := (World.cell?_of_block (w := wc) (hb2.block _ (lt_cell e2))).trans e2
      clear e0 e1 e2 e3 e4 e5 f0 f1 f2 f3 f4 f5 hW2
      have HT0 : Hid (TpW w lo G b wk R xs D dn rt rk wc.heap.size k nm ad aL N W2 (.slice none 0 0) [] [] []) := by
        have hs0 := HS0.out
        have hs1 := HS1.out
        have gk1 : Gk lo G b w wc := (Gk.of_below hbW0 (by omega)).trans HA.out.gk
        refine ⟨HA.out.gr.below hb2, gk1.trans (Gk.of_below hb2 (by omega)), (hb2.block _ (lt_of_heap hz1)).trans hz1, hx2, RowO.nil _ _ _, by simp [flats], ?_, by omega⟩
        rcases HSRC.out with q | ⟨ga, q1, q2, q3⟩
        · exact .inl q
        · have := lt_of_heap q3
          exact .inr ⟨ga, q1, (hb2.block _ (by omega)).trans ((HA.out.old ga q2 this).trans q3)⟩
      have HFIN : Hid (dn i = (k, nm, aL.length) :: aL.flatMap dn ∧ nm.length < 140737488355328 ∧ w.heap.size < wc.heap.size) := by
        refine ⟨hform, ?_, by have := HS0.out; have := HS1.out; omega⟩
        have h4 : nm.length ≤ 4096 := ok_name hok
        omega
      have hL6 : aL.length ≤ 6 := hL6
      clear hx1 hz1 hx2 hb2 HA HSRC CK q5 q6 HG97 hO hO2 hform hok hbW0 hz hgG hgl hk4
      generalize wc.heap.size = zt at *
      obtain ⟨i0, hi, hz0, hz1, hz2⟩ := info_parts Try.info31
      go_upto_region 3 with fail
      go_wp2
      go_loopw [27] (fun iv wr => ∃ (j : Nat) (v : Value) (es : List El) (ts : List (Tn N)) (rss : List (List (Value × Nat))), j ≤ aL.length ∧ iv = .int .i64 j ∧ Hid (ts.length = j ∧ TpW w lo G b wk R xs D dn rt rk zt k nm ad aL N wr v es ts rss)) (fun iv _ => aL.length - (intOf iv).toNat)
      case atStart => exact ⟨0, _, _, _, _, by omega, by go_num, rfl, HT0.out⟩
      case round =>
        obtain ⟨j, v, es, ts, rss, hj, rfl, HP⟩ := hrel
        obtain ⟨htl, T⟩ := HP.out
        obtain ⟨va, vc, rfl⟩ := row_form T.row
        rw [htl] at HP T
        clear HT0
        by_cases hlt : j < aL.length
        · have hlt' : (j : Int) < (aL.length : Int) := by omega
          obtain ⟨ga, rfl, hga⟩ := T.src.resolve_left (fun e => by rw [e] at hlt; simp at hlt)
          have hcell : wr.cell? ⟨ga, j, none⟩ = some (.int .i64 (aL[j] : Nat)) := by
            simp only [World.cell?, hga]
            simp [List.getElem?_eq_getElem hlt]
          have CJ : ∀ U, Sm wr U → Calls Try.prog 36 #[.pointer (some ⟨G, 0, none⟩), .int .i64 (aL[j] : Nat)] U (TypeP lo G b wk R xs D dn rt rk N aL[j] U) := fun U s => CI.out U _ (by
            obtain ⟨ys, h1, h2, h3⟩ := T.gr
            exact ⟨ys, h1, h2, h3.sm s⟩) (List.getElem_mem hlt)
          have hq := lt_of_heap T.made
          have hel0 : es.length = j := by rw [T.row.len]; exact htl
          have HOW : Hid (wr.ownsRow (zt + 1) 31 3 (.slice va j vc) j (es.flatMap elCells)) := by have := T.row.own; rw [hel0] at this; exact this
          have y2 : wr.cell? ⟨zt, 2, none⟩ = some (.slice va j vc) := (heap_cells T.made).2.2
          have HKP : Hid (∀ U w2, Sm wr U → Gk lo G b U w2 → w2.cell? ⟨zt, 2, none⟩ = some (.slice va j vc) ∧ w2.ownsRow (zt + 1) 31 3 (.slice va j vc) j (es.flatMap elCells) ∧ zt + 1 ≤ w2.heap.size) := fun U w2 s hk => by
            obtain ⟨hp1, hp2, hp3, hp4⟩ := T.pos
            have c29 : ∀ (c : Array Value) (fz : Nat × Nat), ∀ c' fz', (Obj.cells c 31 fz) ≠ .cells c' 80 fz' := by intro c fz c' fz' e; exact absurd (cells_ty (congrArg some e)) (by decide)
            have h2 := hk.keep _ _ (by rw [s.heap]; exact T.made) (by omega) (by omega) (c29 _ _)
            refine ⟨(heap_cells h2).2.2, own_keep HOW.out fun g hg => ?_, lt_of_heap h2⟩
            rcases HOW.out.2 with ⟨h0, _⟩ | ⟨g', cap', cur, hv, h1, hh, _⟩
            · rw [h0] at hg; cases hg
            · rw [hv] at hg
              cases hg
              rw [hk.keep _ _ (by rw [s.heap]; exact hh) (by show g' ≠ G; omega) (by show g' ≠ b; omega) (c29 _ _), hh]
          clear hga T
          generalize haj : aL[j] = aj at *
          have HAJ : Hid (∃ h : j < aL.length, aL[j] = aj) := ⟨hlt, haj⟩
          clear haj
          go_upto_block 1 with fail
          go_cut [8, 27] from 29 to 38 (fun _ i wx => i = .int .i64 j ∧ ∃ v' es' ts' rss', Hid (ts'.length = j + 1 ∧ TpW w lo G b wk R xs D dn rt rk zt k nm (some ⟨ga, 0, none⟩) aL N wx v' es' ts' rss'))
          case first =>
            go_upto_region 6 with fail
            go_region_law (first
              | (go_simp; go_at_call 36; (with_reducible refine Calls.mono (CJ _ ?_) ?_); exact ⟨rfl, rfl, rfl, rfl⟩; intro e' w2 hp; obtain ⟨k2, n2, ad2, l2, cp2, t2, rws2, rfl, hT2, hS2, hfl2, hk2, hgr2⟩ := hp; obtain ⟨c2, own2, hz2w⟩ := HKP.out wr.drew _ ⟨rfl, rfl, rfl, rfl⟩ hk2; have KA : ∀ o, (w2.alloc o).cell? ⟨zt, 2, none⟩ = some (.slice va j vc) := fun o => cellA c2 o)
              | (refine step_append_lies _ (by rfl) _ _ _ (by rfl) (zt + 1) 31 i0 _ 3 48 Try.underlying29 hi hz0 hz1 hz2 rfl (by omega) (.slice va j vc) j (es.flatMap elCells) (by rfl) (own2.alloc _) ⟨w2.heap.size, 0, none⟩ 1 1 [.int .i64 k2, .string n2, .slice ad2 l2 cp2] (by rfl) (by rfl) (World.news_of_block (cs := #[.int .i64 k2, .string n2, .slice ad2 l2 cp2]) (t := 31) (fr := (0, 0)) (heap_alloc_new w2 _)) (by simp [Value.oneCell']) (by omega) (by unfold maxLen; omega) (by omega) (by simp; omega) (w2.heap.size + 1) (by simp) ?_; intro g3 cap3 w3 hown3 hgrow hat hlt3; obtain ⟨hq3, V, hV, HPV⟩ := HP.out.2.step htl hlt (U := wr.drew) ⟨rfl, rfl, rfl, rfl⟩ hk2 hgr2 (e := (k2, n2, .slice ad2 l2 cp2)) hT2 hS2 (by rw [HAJ.out.2]; exact hfl2) hown3 hgrow hat; obtain ⟨e0, e1, e2⟩ := heap_cells hq3; have f2 := heap_frozen (o := 2) hq3))
            all_goals
              rw [← hV]
              have HPV : Hid (TpW w lo G b wk R xs D dn rt rk zt k nm (some ⟨ga, 0, none⟩) aL N V (.slice (some ⟨g3, 0, none⟩) (j + 1) cap3) (es ++ [(k2, n2, .slice ad2 l2 cp2)]) (ts ++ [t2]) (rss ++ [rws2])) := HPV
              clear hV hown3 hgrow hat hlt3 hT2 hS2 e0 e1 e2 f2 own2 KA
              go_wp2_with fail
              go_meet
              exact ⟨rfl, _, _, _, _, by simp [htl], HPV.out⟩
          case rest =>
            obtain ⟨rfl, v', es', ts', rss', HP'⟩ := hcut
            clear HP CJ HOW hel0 HKP y2 hcell
            go_wp2
            go_roundw
            case rel => exact ⟨j + 1, _, _, _, _, hlt, by go_num, HP'.out⟩
            case measure => simp [intOf]; omega
        · have hlt' : ¬ (j : Int) < (aL.length : Int) := by omega
          have hjl : j = aL.length := by omega
          obtain ⟨m0, m1, m2⟩ := heap_cells T.made
          obtain ⟨r0, r1, r2⟩ := heap_cells T.res
          have g0 := heap_frozen (o := 0) T.res
          have g1 := heap_frozen (o := 1) T.res
          have g2 := heap_frozen (o := 2) T.res
          have HT : Hid (TpW w lo G b wk R xs D dn rt rk zt k nm ad aL N wr (.slice va j vc) es ts rss) := T
          have q7 : ¬ zt = w.heap.size := by have := HFIN.out.2.2; omega
          have q8 : ¬ w.heap.size = zt := fun e => q7 e.symm
          subst hjl
          obtain ⟨W, hWe, k1, HTP⟩ := HT.out.fin htl HFIN.out.2.1 hL6 HFIN.out.1
          have HTP : Hid (TypeP lo G b wk R xs D dn rt rk (N + 1) i w (.returned (.agg #[.int .i64 k, .string ⟨nm.toArray⟩, .slice va aL.length vc])) W) := HTP
          clear T HP CI HT HFIN
          go_wp2
          rw [← hWe]
          obtain ⟨s0, s1, s2⟩ := heap_cells k1
          refine bodyPost_ret (v := .agg #[.int .i64 k, .string ⟨nm.toArray⟩, .slice va aL.length vc]) (by simp [results, Try.results36, go_sem, s0, s1, s2]) rfl ?_
          exact HTP.out
theorem type_any {lo G b wk : Nat} {R : Nat → Prop} {D : DataW Unit} {dn : Nat → List Nd} {rt rk : Nat → Nat} : ∀ (N : Nat) (xs : List Gx) (w : World) (i : Nat), GX w lo G b R xs D wk → DenX xs dn rt rk → i < xs.length → (dn i).length ≤ N → Okr (dn i) → Calls Try.prog 36 #[.pointer (some ⟨G, 0, none⟩), .int .i64 i] w (TypeP lo G b wk R xs D dn rt rk N i w)
  | 0, _, _, i, _, d, hi, hN, _ => by
    have := Den.form d hi
    rw [this] at hN
    simp at hN
  | N + 1, xs, w, i, h, d, hi, hN, hO => type_step N (type_any N) xs w i h d hi hN hO
end Go.Proofs.Ytikpipenhamdbaa
