/- The graph: between the rounds of bounds. -/
import Derived.Test.YtikpipenhamdbaaHn
import Derived.Test.YtikpipenhamdbaaMix
import Derived.Sort.EncStr
namespace Go.Proofs.Ytikpipenhamdbaa
open Go.RowKit Go.Maps

/-- The names of the variables. -/
def vnames (xs : List Gx) : List (List UInt8) := ((List.range xs.length).filter fun i => decide ((lbX xs i).1 = 2)).map fun i => (lbX xs i).2
theorem mem_vnames {xs : List Gx} {n : List UInt8} : n ∈ vnames xs ↔ ∃ i, i < xs.length ∧ lbX xs i = (2, n) := by
  unfold vnames
  rw [List.mem_map]
  constructor
  · rintro ⟨i, hi, rfl⟩
    obtain ⟨h1, h2⟩ := List.mem_filter.1 hi
    exact ⟨i, List.mem_range.1 h1, by rw [← of_decide_eq_true h2]⟩
  · rintro ⟨i, hi, e⟩
    exact ⟨i, List.mem_filter.2 ⟨List.mem_range.2 hi, by rw [e]; rfl⟩, by rw [e]⟩
theorem vnames_nodup {xs : List Gx} {dn : Nat → List Nd} {rt rk : Nat → Nat} (d : DenX xs dn rt rk) : (vnames xs).Nodup := by
  unfold vnames List.Nodup
  rw [List.pairwise_map]
  refine (List.Pairwise.filter _ List.nodup_range).imp_of_mem fun ha hb hne e => hne ?_
  obtain ⟨a1, a2⟩ := List.mem_filter.1 ha
  obtain ⟨b1, b2⟩ := List.mem_filter.1 hb
  exact Den.uni d _ _ (List.mem_range.1 a1) (List.mem_range.1 b1) (of_decide_eq_true a2) (of_decide_eq_true b2) e
/-- Is something else told of a name than the name? -/
def pL (L : List (List UInt8 × List Nd)) (n : List UInt8) : Bool := decide (subL L [(2, n, 0)] ≠ [(2, n, 0)])
/-- A variable that leads elsewhere stands for something else. -/
theorem Mn.leads {wk : Nat} {xs : List Gx} {D : DataW Unit} {dn : Nat → List Nd} {rt rk : Nat → Nat} {L : List (List UInt8 × List Nd)} (h : Mn wk xs D dn rt rk L) {i : Nat} {n : List UInt8} (hi : i < xs.length) (e : lbX xs i = (2, n)) : (rt i = i ↔ pL L n = false) ∧ dn i = subL L [(2, n, 0)] := by
  have hd := h.vb.dn i hi (by rw [e])
  rw [e] at hd
  refine ⟨?_, hd⟩
  have hf := Den.form h.den hi
  unfold pL
  rw [decide_eq_false_iff_not, Decidable.not_not, ← hd]
  constructor
  · intro q
    rw [q, e] at hf
    have ha := Den.var h.den i hi (by rw [e])
    rw [hf, ha]
    rfl
  · intro q
    rw [hf] at q
    injection q with q _
    have q1 : (lbX xs (rt i)).1 = 2 := congrArg (·.1) q
    have q2 : (lbX xs (rt i)).2 = n := congrArg (·.2.1) q
    exact Den.uni h.den _ _ (Den.rt_lt h.den hi) hi q1 (by rw [e]) (by rw [q2, e])
theorem RowB.keep {w w' : World} {lo : Nat} {v : Value} {es : List Bl4} {bs : List Bd} {rss : List (List (Value × Nat))} (h : RowB w lo v es bs rss) (hs : w.heap.size ≤ w'.heap.size) (hb : ∀ (g : Nat) (c : Array Value) (ty : TypeId), lo ≤ g → ty = 31 ∨ ty = 46 → w.heap[g]? = some (.cells c ty (0, 0)) → w'.heap[g]? = w.heap[g]?) : RowB w' lo v es bs rss := by
  have ho : ∀ {v : Value} {ty sz n : Nat} {xs : List Value}, ty = 31 ∨ ty = 46 → w.ownsRow lo ty sz v n xs → ∀ g, v.ownBlock = some g → w'.heap[g]? = w.heap[g]? := fun ht ho g hg => by
    rcases ho.2 with ⟨h0, _⟩ | ⟨g', cap', cur, hv, h1, hh, _⟩
    · rw [h0] at hg; cases hg
    · rw [hv] at hg
      cases hg
      exact hb _ _ _ h1 ht hh
  refine ⟨own_keep h.own (ho (.inr rfl) h.own), h.len, h.rlen, h.name, fun j a b c => TyO.on _ _ _ _ (fun p hp g hg => ?_) (h.each j a b c), ⟨fun p hp => ?_, h.sep.2⟩, h.away⟩
  · obtain ⟨xs, hx⟩ := TyO.each _ _ _ _ (h.each j a b c) p hp
    exact ho (.inl rfl) hx g hg
  · obtain ⟨g', e, h1, h2⟩ := h.sep.1 p hp
    exact ⟨g', e, h1, by omega⟩
/-- A row of bounds has grown. -/
theorem GX.grow48 {w w' : World} {lo G b wk : Nat} {R : Nat → Prop} {xs : List Gx} {D : DataW Unit} (h : GX w lo G b R xs D wk) {row : Option Nat} (hg : w.grownBy w' row) (hr : ∀ z, row = some z → ∃ c fz, w.heap[z]? = some (.cells c 46 fz)) : GX w' lo G b R xs D wk := by
  obtain ⟨v, ns, e, h, hR⟩ := h
  have hk : ∀ (j : Nat) (o : Obj), w.heap[j]? = some o → (∀ c fz, o ≠ .cells c 46 fz) → w'.heap[j]? = some o := fun j o hj hne => by
    rw [hg.block j (lt_of_heap hj) (fun e => by
      obtain ⟨c, fz, hc⟩ := hr j e.symm
      rw [hc] at hj
      exact hne _ _ (Option.some.inj hj).symm)]
    exact hj
  refine ⟨v, ns, e, ⟨hk _ _ h.box (by intro c fz e; exact absurd (cells_ty (congrArg some e)) (by decide)), own_keep h.own fun j hj => ?_, h.map.kept hg (fun e => ?_), h.msz, fun n hn => ?_, h.loG, h.lob, h.num⟩, hR⟩
  · rcases h.own.2 with ⟨h0, _⟩ | ⟨g', cap', cur, hv, _, hh, _⟩
    · rw [h0] at hj; cases hj
    · rw [hv] at hj
      cases hj
      exact (hk _ _ hh (by intro c fz e; exact absurd (cells_ty (congrArg some e)) (by decide))).trans hh.symm
  · obtain ⟨es, clock, hb, _⟩ := h.map
    obtain ⟨c, fz, hc⟩ := hr b e.symm
    rw [hc] at hb
    cases hb
  · rcases h.arg n hn with q1 | ⟨g', q1, q2, q3⟩
    · exact .inl q1
    · exact .inr ⟨g', q1, q2, hk _ _ q3 (by intro c fz e; exact absurd (cells_ty (congrArg some e)) (by decide))⟩
/-- Between the rounds of bounds: j names are done. -/
structure BoW (w : World) (lo G b wk : Nat) (xs : List Gx) (D : DataW Unit) (dn : Nat → List Nd) (rt rk : Nat → Nat) (L : List (List UInt8 × List Nd)) (ns : List (List UInt8)) (kv : Value) (j : Nat) (wr : World) (v : Value) (es : List Bl4) (bs : List Bd) (rss : List (List (Value × Nat))) : Prop where
  gr : Gr wr lo G b wk (fun _ => False) xs D dn rt rk
  gk : Gk lo G b w wr
  key : wr.ownsRow (w.heap.size + 1) 9 1 kv ns.length (ns.map encStr)
  row : RowB wr w.heap.size v es bs rss
  names : bs.map (·.1) = (ns.take j).filter (pL L)
  says : ∀ x ∈ bs, flat x.2.1 x.2.2 = subL L [(2, x.1, 0)]
  pos : lo ≤ w.heap.size ∧ G < w.heap.size ∧ b < w.heap.size
section
variable {w : World} {lo G b wk : Nat} {xs : List Gx} {D : DataW Unit} {dn : Nat → List Nd} {rt rk : Nat → Nat} {L : List (List UInt8 × List Nd)} {ns : List (List UInt8)} {kv : Value} {j : Nat} {wr : World} {v : Value} {es : List Bl4} {bs : List Bd} {rss : List (List (Value × Nat))}
theorem not97 {c : Array Value} {ty : TypeId} {fz : Nat × Nat} (h : ty ≠ 80) : ∀ c' fz', (Obj.cells c ty fz) ≠ .cells c' 80 fz' := by
  intro c' fz' e
  exact h (cells_ty (congrArg some e))
theorem BoW.move (h : BoW w lo G b wk xs D dn rt rk L ns kv j wr v es bs rss) {w' : World} (hk : Gk lo G b wr w') (hg : Gr w' lo G b wk (fun _ => False) xs D dn rt rk) : BoW w lo G b wk xs D dn rt rk L ns kv j w' v es bs rss := by
  obtain ⟨hp1, hp2, hp3⟩ := h.pos
  refine ⟨hg, h.gk.trans hk, own_keep h.key fun k hk' => ?_, h.row.keep hk.size fun g c ty h1 ht h2 => ?_, h.names, h.says, h.pos⟩
  · rcases h.key.2 with ⟨h0, _⟩ | ⟨g', cap', cur, hv, h1, hh, _⟩
    · rw [h0] at hk'; cases hk'
    · rw [hv] at hk'
      cases hk'
      exact (hk.keep _ _ hh (by show g' ≠ G; omega) (by show g' ≠ b; omega) (not97 (by decide))).trans hh.symm
  · rw [hk.keep _ _ h2 (by omega) (by omega) (not97 (by rcases ht with rfl | rfl <;> decide)), h2]
theorem BoW.skip (h : BoW w lo G b wk xs D dn rt rk L ns kv j wr v es bs rss) (hj : j < ns.length) (hp : pL L ns[j] = false) : BoW w lo G b wk xs D dn rt rk L ns kv (j + 1) wr v es bs rss := by
  obtain ⟨h1, h2, h3, h4, h5, h6, h7⟩ := h
  refine ⟨h1, h2, h3, h4, ?_, h6, h7⟩
  rw [h5, List.take_succ_eq_append_getElem hj, List.filter_append, List.filter_cons_of_neg (by rw [hp]; exact Bool.false_ne_true), List.filter_nil, List.append_nil]
theorem BoW.push {va : Option Addr} {m vc : Nat} (h : BoW w lo G b wk xs D dn rt rk L ns kv j wr (.slice va m vc) es bs rss) (hm : es.length = m) (hj : j < ns.length) (hp : pL L ns[j] = true) (hnl : ns[j].length < 140737488355328) {U w2 w3 : World} (hU : Sm wr U) (hk : Gk lo G b U w2) (hgr : Gr w2 lo G b wk (fun _ => False) xs D dn rt rk) {N : Nat} {t : Tn N} {k : Int} {n : ByteArray} {ad : Option Addr} {len cap : Nat} {rws : List (Value × Nat)}
    (T : TyO w2 U.heap.size N (.agg #[.int .i64 k, .string n, .slice ad len cap]) t rws) (S : SepB U.heap.size w2.heap.size rws) (hfl : flat N t = subL L [(2, ns[j], 0)]) {o : Obj} {g cap3 : Nat} (hown : w3.ownsRow w.heap.size 46 4 (.slice (some ⟨g, 0, none⟩) (m + 1) cap3) (m + 1) (es.flatMap bCells ++ bCells (ns[j], k, n, .slice ad len cap))) (hgrow : (w2.alloc o).grownBy w3 (Value.slice va m vc).ownBlock) (hat : (Value.slice va m vc).ownBlock = some g ∨ g = w2.heap.size + 1) :
    BoW w lo G b wk xs D dn rt rk L ns kv (j + 1) w3 (.slice (some ⟨g, 0, none⟩) (m + 1) cap3) (es ++ [(ns[j], k, n, .slice ad len cap)]) (bs ++ [(ns[j], ⟨N, t⟩)]) (rss ++ [rws]) := by
  have h2 := h.move ((Gk.of_sm hU).trans hk) hgr
  obtain ⟨hp1, hp2, hp3⟩ := h.pos
  have hsU : U.heap.size = wr.heap.size := by rw [hU.heap]
  have hs2 := hk.size
  have hsw := h.gk.size
  have hvb : ∀ g, (Value.slice va m vc).ownBlock = some g → w.heap.size ≤ g ∧ g < wr.heap.size := fun g hg => h.row.own.lt g hg
  have hbl : ∀ g, g < w2.heap.size → some g ≠ (Value.slice va m vc).ownBlock → w3.heap[g]? = w2.heap[g]? := fun g hg3 hne => by
    rw [hgrow.block g (by simp; omega) hne]
    exact Below.heap_alloc _ _ _ hg3
  have hs3 : w2.heap.size ≤ w3.heap.size := by have := hgrow.size; simp at this; omega
  have h48 : ∀ z, (Value.slice va m vc).ownBlock = some z → ∃ c, w2.heap[z]? = some (.cells c 46 (0, 0)) := fun z hz => by
    rcases h2.row.own.2 with ⟨h0, _⟩ | ⟨g', cap', cur, hv, _, hh, _⟩
    · rw [h0] at hz; cases hz
    · rw [hv] at hz
      cases hz
      exact ⟨_, hh⟩
  have hA : SepB w.heap.size U.heap.size rss.flatten := by
    rw [hsU]
    exact h.row.sep
  refine ⟨?_, ⟨hgrow.os.trans h2.gk.os, hgrow.tape.trans h2.gk.tape, hgrow.output.trans h2.gk.output, by omega, fun k hk => ?_, fun k o h1 h2' h3 h4 => ?_⟩, own_keep h2.key fun k hk => ?_, h2.row.snoc (by omega) T ⟨rfl, hnl⟩ S (by omega) hA (fun g hg => by have := (hvb g hg).2; omega) (by rw [hm]; exact hown) hs3 hbl ?_, ?_, fun x hx => ?_, h.pos⟩
  · obtain ⟨ys, y1, y2, y3⟩ := hgr
    refine ⟨ys, y1, y2, (y3.below ((Below.refl _ _).alloc (Nat.le_refl _) o)).grow48 hgrow fun z hz => ?_⟩
    obtain ⟨c, hc⟩ := h48 z hz
    exact ⟨c, _, (Below.heap_alloc _ _ _ (lt_of_heap hc)).trans hc⟩
  · rw [hbl k (by omega) (fun e => by have := (hvb k e.symm).1; omega)]
    exact h2.gk.low k hk
  · have := lt_of_heap h1
    rw [hbl k (by omega) (fun e => by have := (hvb k e.symm).1; omega)]
    exact h2.gk.keep k o h1 h2' h3 h4
  · rcases h2.key.2 with ⟨h0, _⟩ | ⟨g', cap', cur, hv, h1, hh, _⟩
    · rw [h0] at hk; cases hk
    · rw [hv] at hk
      cases hk
      rw [hbl g' (lt_of_heap hh) (fun e => by
        obtain ⟨c, hc⟩ := h48 g' e.symm
        rw [hh] at hc
        exact absurd (cells_ty hc) (by decide))]
  · rcases hat with hat | hat
    · exact .inl hat.symm
    · exact .inr ⟨g, rfl, by omega⟩
  · rw [List.map_append, h.names, List.take_succ_eq_append_getElem hj, List.filter_append, List.filter_cons_of_pos hp]
    rfl
  · rcases List.mem_append.1 hx with hx | hx
    · exact h.says x hx
    · rw [List.mem_singleton.1 hx]
      exact hfl
end
end Go.Proofs.Ytikpipenhamdbaa
