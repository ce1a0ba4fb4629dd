/- The graph: the contract of isAbove. The graph: between the rounds of bounds. The graph: the contract of bounds, over the contract of the sorted names. -/
import Derived.Test.YtikpipenhamdbaaGreatMapx
import Derived.Test.YtikpipenhamdbaaGreatGi
import Derived.Test.YtikpipenhamdbaaGreatMaix
import Derived.Sort.EncStr
import Derived.Sort.KeysCollected
namespace Go.Proofs.YtikpipenhamdbaaGreat
open Go.RowKit Go.Maps

theorem ranges_on {w w' : World} {k b r n cnt : Nat} {R : Value → Option (DataW Unit × List MemPlace)} {D : DataW Unit} {left : Lit → Bool} (h : w.ranges Tryz.prog k R b r n D left cnt) (hb : w'.heap[b]? = w.heap[b]?) (hr : w'.heap[r]? = w.heap[r]?) : w'.ranges Tryz.prog k R b r n D left cnt := by
 obtain ⟨es, clock, since, seen, c0, h1, h2, h3, h4, h5, h6⟩ := h
 exact ⟨es, clock, since, seen, c0, by rw [hb]; exact h1, h2, h3, h4, by rw [hr]; exact h5, h6⟩
theorem GX.c1 {w : World} {lo G b wk : Nat} {R : Nat → Prop} {xs : List Gx} {D : DataW Unit} (h : GX w lo G b R xs D wk) : w.cell? ⟨G, 1, none⟩ = some (.map (some b)) := by
 obtain ⟨v, ns, _, hG, _⟩ := h
 have := hG.box
 simp only [World.cell?, this]
 rfl
/-- Is some variable above so many nodes? -/
def Over (xs : List Gx) (dn : Nat → List Nd) : Prop := ∃ i, i < xs.length ∧ (lbX xs i).1 = 2 ∧ 500 < (dn i).length
set_option maxHeartbeats 8000000 in
set_option maxRecDepth 10000 in
theorem above_all {lo G b wk : Nat} {xs : List Gx} {D : DataW Unit} {dn : Nat → List Nd} {rt rk : Nat → Nat} {L : List (List UInt8 × List Nd)} (hM : Mn wk xs D dn rt rk L) (w : World) (h : GX w lo G b (fun _ => False) xs D wk) :
  Calls Tryz.prog 29 #[.pointer (some ⟨G, 0, none⟩)] w fun e w' => ((e = .returned (.bool false) ∧ ¬ Over xs dn) ∨ (e = .returned (.bool true) ∧ Over xs dn)) ∧ Gk lo G b w w' ∧ Gr w' lo G b wk (fun _ => False) xs D dn rt rk := by
 have hl := h.num
 have c1 := h.c1
 have hown : w.ownsMap Tryz.prog 9 (plainElem Tryz.prog 3) b (Maps.size D) D := by
  obtain ⟨v, ns, _, hG, _⟩ := h
  exact hG.map
 have HM : Hid (Mn wk xs D dn rt rk L) := hM
 have H0 : Hid (GX w lo G b (fun _ => False) xs D wk) := h
 clear hM h
 go_enter Tryz.func29, Tryz.ntmps29
 go_wp2_with (first
  | (at_range; refine wpList_range_own _ rfl _ 63 rfl 9 3 law9 Tryz.underlying63 _ b (Maps.size D) _ rfl hown ?_; intro w0 hrg0 hg0 hs0)
  | go_in)
 go_frame
 go_loopw [4] (fun _ wr => ∃ (left : Lit → Bool) (cnt : Nat), wr.ranges Tryz.prog 9 (plainElem Tryz.prog 3) b w.heap.size (Maps.size D) D left cnt ∧ Hid ((∀ i, i < xs.length → (lbX xs i).1 = 2 → left (.string (lbX xs i).2) = false → (dn i).length ≤ 500) ∧ Gr wr lo G b wk (fun _ => False) xs D dn rt rk ∧ Gk lo G b w wr))
  (fun _ wr => wr.rangeLeft b w.heap.size)
 case atStart =>
  have hb0 : Below w.heap.size w w0 := ⟨hg0.os, hg0.tape, hg0.output, hg0.size, fun k hk => hg0.block k hk (by simp)⟩
  refine ⟨_, _, hrg0, fun i hi h2 hf => ?_, ⟨xs, Eqg.refl xs, HM.out.den, H0.out.below hb0⟩, Gk.of_below hb0 hl.2.1⟩
  have := (HM.out.vm.has (lbX xs i).2).2 ⟨i, hi, by rw [← h2]⟩
  rw [this] at hf
  cases hf
 case round =>
  obtain ⟨left, cnt, hrg, HP⟩ := hrel
  clear hrg0 hg0 hs0 hown c1
  go_wp2_with (first
   | (at_next; refine wpList_next_ranges _ rfl _ rfl 9 law9 _ Value.string (Value.int .i64) (fun key kl hkey => Maps.keyOf_string_inv Tryz.underlying9 hkey) (fun v y hv => by obtain ⟨c, rfl, _⟩ := plainElem_int_inv Tryz.underlying3 hv; exact ⟨c, rfl⟩) b w.heap.size (Maps.size D) _ _ _ rfl hrg ?_ ?_)
   | go_in)
  ·intro _ hl0
   go_wp2
   go_ret
   obtain ⟨h1, h2, h3⟩ := HP.out
   refine ⟨.inl ⟨rfl, ?_⟩, h3, h2⟩
   rintro ⟨i, hi, h2, h5⟩
   have := h1 i hi h2 (hl0 _)
   omega
  ·intro x c kl y1 y2 w1 cnt1 hkey hlk hv hat hrg1 hlt hg1 hs1 hen
   obtain ⟨c', ec, hy, hwc⟩ := plainElem_int_inv Tryz.underlying3 hv
   cases ec
   have hat' : ∀ zd, D.atKey kl zd = .lit (.int .i64 c) := fun zd => by rw [hat zd]; exact congrArg Prod.fst hy
   obtain ⟨i, hi, hi2, hci⟩ := HM.out.vm.all kl c hat'
   subst hci
   obtain ⟨p1, p2, p3⟩ := HP.out
   have hX1 : Gr w1 lo G b wk (fun _ => False) xs D dn rt rk ∧ Gk lo G b w w1 := by
    obtain ⟨ys, y1, y2, hX⟩ := p2
    obtain ⟨es, clock, since, seen, c0, _, _, _, _, hr, _⟩ := hrg
    refine ⟨⟨ys, y1, y2, hX.other hr (by intro c t fz e; cases e) (by intro c t e; cases e) hg1.size ⟨hg1.os, hg1.tape, hg1.output⟩ (fun k hk hne => hg1.block k hk (fun e => hne (Option.some.inj e)))⟩, ⟨hg1.os.trans p3.os, hg1.tape.trans p3.tape, hg1.output.trans p3.output, Nat.le_trans p3.size hg1.size, fun k hk => ?_, fun k o h1 h2 h3 h4 => ?_⟩⟩
    ·rw [hg1.block k (by have := p3.size; omega) (fun e => by have := Option.some.inj e; omega)]
     exact p3.low k hk
    ·rw [hg1.block k (by have := lt_of_heap h1; have := p3.size; omega) (fun e => by have := Option.some.inj e; have := lt_of_heap h1; omega)]
     exact p3.keep k o h1 h2 h3 h4
   have HMS : Hid (w1.rangeLeft b w.heap.size < wr.rangeLeft b w.heap.size) := by
    show _ < _
    rw [hrg1.left_eq, hrg.left_eq]; exact hlt
   have HIT : Hid (∃ o, w1.heap[b]? = some o ∧ (∀ c fz, o ≠ .cells c 97 fz) ∧ ∃ o', w1.heap[w.heap.size]? = some o' ∧ ∀ c fz, o' ≠ .cells c 97 fz) := by
    obtain ⟨es, clock, since, seen, c0, hb, _, _, _, hr, _⟩ := hrg1
    exact ⟨_, hb, (by intro c fz e; cases e), _, hr, (by intro c fz e; cases e)⟩
   have HNX : Hid ((dn i).length ≤ 500 → ∀ j, j < xs.length → (lbX xs j).1 = 2 → (left (.string (lbX xs j).2) && !(Lit.string (lbX xs j).2).sameKey kl) = false → (dn j).length ≤ 500) := fun h5 j hj hj2 hf => by
    cases hlj : left (.string (lbX xs j).2) with
    | false => exact p1 j hj hj2 hlj
    | true =>
     rw [hlj, Bool.true_and, Bool.not_eq_false'] at hf
     have hkl : kl = .string (lbX xs j).2 := by
      cases kl <;> simp [Lit.sameKey] at hf
      rw [hf]
     have hg := HM.out.vm.get j hj hj2
     rw [← hkl, hat'] at hg
     injection hg with hg
     injection hg with _ hg
     have : i = j := by omega
     rw [← this]
     exact h5
   have HX1 : Hid (Gr w1 lo G b wk (fun _ => False) xs D dn rt rk ∧ Gk lo G b w w1) := hX1
   have CL : Calls Tryz.prog 50 #[.pointer (some ⟨G, 0, none⟩), .int .i64 i, .int .i64 500] w1 fun e w' => e = .returned (.int .i64 (leftN (dn i).length 500)) ∧ Hid ((Gr w' lo G b wk (fun _ => False) xs D dn rt rk ∧ Gk lo G b w w') ∧ w'.heap[b]? = w1.heap[b]? ∧ w'.heap[w.heap.size]? = w1.heap[w.heap.size]?) := by
    obtain ⟨⟨ys, y1, y2, y3⟩, p5⟩ := HX1.out
    refine Calls.mono (nleft_any (dn i).length ys w1 i 500 y3 y2 (by rw [y1.ar]; exact HM.out.few) (by rw [y1.len]; exact hi) (Nat.le_refl _) (Nat.le_refl _)) ?_
    rintro e w' ⟨rfl, E⟩
    obtain ⟨zs, z1, z2, z3⟩ := E.ex
    obtain ⟨o, o1, o2, o', o3, o4⟩ := HIT.out
    exact ⟨rfl, ⟨⟨zs, y1.trans z1, z2, z3⟩, p5.trans E.gk⟩, E.same b fun c fz e => o2 c fz (Option.some.inj (o1.symm.trans e)), E.same _ fun c fz e => o4 c fz (Option.some.inj (o3.symm.trans e))⟩
   have HRG : Hid (w1.ranges Tryz.prog 9 (plainElem Tryz.prog 3) b w.heap.size (Maps.size D) D (fun z => left z && !z.sameKey kl) cnt1) := hrg1
   clear hg1 p1 p2 p3 hX1 HP hrg hrg1 HX1 HIT hat hat' hlt hlk hv hy
   by_cases h5 : (dn i).length ≤ 500
   ·rw [leftN_ok h5] at CL
    obtain ⟨l5, hl5⟩ : ∃ l5, l5 = 500 - (dn i).length := ⟨_, rfl⟩
    rw [← hl5] at CL
    have hl0 : ¬ (l5 : Int) < 0 := by omega
    have HH5 : Hid ((dn i).length ≤ 500) := h5
    clear hl5 h5
    go_wp2_with (first
     | (go_at_call 50; (with_reducible refine Calls.mono CL ?_); rintro e' w2 ⟨rfl, HN⟩)
     | go_in)
    obtain ⟨⟨n1, n2⟩, n3, n4⟩ := HN.out
    have hrn := ranges_on HRG.out n3 n4
    go_roundw
    case rel => exact ⟨_, cnt1, hrn, HNX.out HH5.out, n1, n2⟩
    case measure =>
     rw [hrn.left_eq, ← HRG.out.left_eq]
     exact HMS.out
   ·rw [leftN_bad h5] at CL
    have HH5 : Hid (Over xs dn) := ⟨i, hi, hi2, by omega⟩
    clear h5
    go_wp2_with (first
     | (go_at_call 50; (with_reducible refine Calls.mono CL ?_); rintro e' w2 ⟨rfl, HN⟩)
     | go_in)
    go_ret
    obtain ⟨⟨n1, n2⟩, n3, n4⟩ := HN.out
    exact ⟨.inr ⟨rfl, HH5.out⟩, n2, n1⟩
end Go.Proofs.YtikpipenhamdbaaGreat

namespace Go.Proofs.YtikpipenhamdbaaGreat
open Go.RowKit Go.Maps

/-- The names of the variables. -/
def vnames (xs : List Gx) : List (List UInt8) := ((List.range xs.length).filter fun i => decide ((lbX xs i).1 = 2)).map fun i => (lbX xs i).2
theorem mem_vnames {xs : List Gx} {n : List UInt8} : n ∈ vnames xs ↔ ∃ i, i < xs.length ∧ lbX xs i = (2, n) := by
 unfold vnames
 rw [List.mem_map]
 constructor
 ·rintro ⟨i, hi, rfl⟩
  obtain ⟨h1, h2⟩ := List.mem_filter.1 hi
  exact ⟨i, List.mem_range.1 h1, by rw [← of_decide_eq_true h2]⟩
 ·rintro ⟨i, hi, e⟩
  exact ⟨i, List.mem_filter.2 ⟨List.mem_range.2 hi, by rw [e]; rfl⟩, by rw [e]⟩
theorem vnames_nodup {xs : List Gx} {dn : Nat → List Nd} {rt rk : Nat → Nat} (d : DenX xs dn rt rk) : (vnames xs).Nodup := by
 unfold vnames List.Nodup
 rw [List.pairwise_map]
 refine (List.Pairwise.filter _ List.nodup_range).imp_of_mem fun ha hb hne e => hne ?_
 obtain ⟨a1, a2⟩ := List.mem_filter.1 ha
 obtain ⟨b1, b2⟩ := List.mem_filter.1 hb
 exact Den.uni d _ _ (List.mem_range.1 a1) (List.mem_range.1 b1) (of_decide_eq_true a2) (of_decide_eq_true b2) e
/-- Is something else told of a name than the name? -/
def pL (L : List (List UInt8 × List Nd)) (n : List UInt8) : Bool := decide (subL L [(2, n, 0)] ≠ [(2, n, 0)])
/-- A variable that leads elsewhere stands for something else. -/
theorem Mn.leads {wk : Nat} {xs : List Gx} {D : DataW Unit} {dn : Nat → List Nd} {rt rk : Nat → Nat} {L : List (List UInt8 × List Nd)} (h : Mn wk xs D dn rt rk L) {i : Nat} {n : List UInt8} (hi : i < xs.length) (e : lbX xs i = (2, n)) : (rt i = i ↔ pL L n = false) ∧ dn i = subL L [(2, n, 0)] := by
 have hd := h.vb.dn i hi (by rw [e])
 rw [e] at hd
 refine ⟨?_, hd⟩
 have hf := Den.form h.den hi
 unfold pL
 rw [decide_eq_false_iff_not, Decidable.not_not, ← hd]
 constructor
 ·intro q
  rw [q, e] at hf
  have ha := Den.var h.den i hi (by rw [e])
  rw [hf, ha]
  rfl
 ·intro q
  rw [hf] at q
  injection q with q _
  have q1 : (lbX xs (rt i)).1 = 2 := congrArg (·.1) q
  have q2 : (lbX xs (rt i)).2 = n := congrArg (·.2.1) q
  exact Den.uni h.den _ _ (Den.rt_lt h.den hi) hi q1 (by rw [e]) (by rw [q2, e])
theorem RowB.keep {w w' : World} {lo : Nat} {v : Value} {es : List Bl4} {bs : List Bd} {rss : List (List (Value × Nat))} (h : RowB w lo v es bs rss) (hs : w.heap.size ≤ w'.heap.size) (hb : ∀ (g : Nat) (c : Array Value) (ty : TypeId), lo ≤ g → ty = 29 ∨ ty = 48 → w.heap[g]? = some (.cells c ty (0, 0)) → w'.heap[g]? = w.heap[g]?) : RowB w' lo v es bs rss := by
 have ho : ∀ {v : Value} {ty sz n : Nat} {xs : List Value}, ty = 29 ∨ ty = 48 → w.ownsRow lo ty sz v n xs → ∀ g, v.ownBlock = some g → w'.heap[g]? = w.heap[g]? := fun ht ho g hg => by
  rcases ho.2 with ⟨h0, _⟩ | ⟨g', cap', cur, hv, h1, hh, _⟩
  ·rw [h0] at hg; cases hg
  ·rw [hv] at hg
   cases hg
   exact hb _ _ _ h1 ht hh
 refine ⟨own_keep h.own (ho (.inr rfl) h.own), h.len, h.rlen, h.name, fun j a b c => TyO.on _ _ _ _ (fun p hp g hg => ?_) (h.each j a b c), ⟨fun p hp => ?_, h.sep.2⟩, h.away⟩
 ·obtain ⟨xs, hx⟩ := TyO.each _ _ _ _ (h.each j a b c) p hp
  exact ho (.inl rfl) hx g hg
 ·obtain ⟨g', e, h1, h2⟩ := h.sep.1 p hp
  exact ⟨g', e, h1, by omega⟩
/-- A row of bounds has grown. -/
theorem GX.grow48 {w w' : World} {lo G b wk : Nat} {R : Nat → Prop} {xs : List Gx} {D : DataW Unit} (h : GX w lo G b R xs D wk) {row : Option Nat} (hg : w.grownBy w' row) (hr : ∀ z, row = some z → ∃ c fz, w.heap[z]? = some (.cells c 48 fz)) : GX w' lo G b R xs D wk := by
 obtain ⟨v, ns, e, h, hR⟩ := h
 have hk : ∀ (j : Nat) (o : Obj), w.heap[j]? = some o → (∀ c fz, o ≠ .cells c 48 fz) → w'.heap[j]? = some o := fun j o hj hne => by
  rw [hg.block j (lt_of_heap hj) (fun e => by
   obtain ⟨c, fz, hc⟩ := hr j e.symm
   rw [hc] at hj
   exact hne _ _ (Option.some.inj hj).symm)]
  exact hj
 refine ⟨v, ns, e, ⟨hk _ _ h.box (by intro c fz e; exact absurd (cells_ty (congrArg some e)) (by decide)), own_keep h.own fun j hj => ?_, h.map.kept hg (fun e => ?_), h.msz, fun n hn => ?_, h.loG, h.lob, h.num⟩, hR⟩
 ·rcases h.own.2 with ⟨h0, _⟩ | ⟨g', cap', cur, hv, _, hh, _⟩
  ·rw [h0] at hj; cases hj
  ·rw [hv] at hj
   cases hj
   exact (hk _ _ hh (by intro c fz e; exact absurd (cells_ty (congrArg some e)) (by decide))).trans hh.symm
 ·obtain ⟨es, clock, hb, _⟩ := h.map
  obtain ⟨c, fz, hc⟩ := hr b e.symm
  rw [hc] at hb
  cases hb
 ·rcases h.arg n hn with q1 | ⟨g', q1, q2, q3⟩
  ·exact .inl q1
  ·exact .inr ⟨g', q1, q2, hk _ _ q3 (by intro c fz e; exact absurd (cells_ty (congrArg some e)) (by decide))⟩
/-- Between the rounds of bounds: j names are done. -/
structure BoW (w : World) (lo G b wk : Nat) (xs : List Gx) (D : DataW Unit) (dn : Nat → List Nd) (rt rk : Nat → Nat) (L : List (List UInt8 × List Nd)) (ns : List (List UInt8)) (kv : Value) (j : Nat) (wr : World) (v : Value) (es : List Bl4) (bs : List Bd) (rss : List (List (Value × Nat))) : Prop where
 gr : Gr wr lo G b wk (fun _ => False) xs D dn rt rk
 gk : Gk lo G b w wr
 key : wr.ownsRow (w.heap.size + 1) 9 1 kv ns.length (ns.map encStr)
 row : RowB wr w.heap.size v es bs rss
 names : bs.map (·.1) = (ns.take j).filter (pL L)
 says : ∀ x ∈ bs, flat x.2.1 x.2.2 = subL L [(2, x.1, 0)]
 pos : lo ≤ w.heap.size ∧ G < w.heap.size ∧ b < w.heap.size
section
variable {w : World} {lo G b wk : Nat} {xs : List Gx} {D : DataW Unit} {dn : Nat → List Nd} {rt rk : Nat → Nat} {L : List (List UInt8 × List Nd)} {ns : List (List UInt8)} {kv : Value} {j : Nat} {wr : World} {v : Value} {es : List Bl4} {bs : List Bd} {rss : List (List (Value × Nat))}
theorem not97 {c : Array Value} {ty : TypeId} {fz : Nat × Nat} (h : ty ≠ 97) : ∀ c' fz', (Obj.cells c ty fz) ≠ .cells c' 97 fz' := by
 intro c' fz' e
 exact h (cells_ty (congrArg some e))
theorem BoW.move (h : BoW w lo G b wk xs D dn rt rk L ns kv j wr v es bs rss) {w' : World} (hk : Gk lo G b wr w') (hg : Gr w' lo G b wk (fun _ => False) xs D dn rt rk) : BoW w lo G b wk xs D dn rt rk L ns kv j w' v es bs rss := by
 obtain ⟨hp1, hp2, hp3⟩ := h.pos
 refine ⟨hg, h.gk.trans hk, own_keep h.key fun k hk' => ?_, h.row.keep hk.size fun g c ty h1 ht h2 => ?_, h.names, h.says, h.pos⟩
 ·rcases h.key.2 with ⟨h0, _⟩ | ⟨g', cap', cur, hv, h1, hh, _⟩
  ·rw [h0] at hk'; cases hk'
  ·rw [hv] at hk'
   cases hk'
   exact (hk.keep _ _ hh (by show g' ≠ G; omega) (by show g' ≠ b; omega) (not97 (by decide))).trans hh.symm
 ·rw [hk.keep _ _ h2 (by omega) (by omega) (not97 (by rcases ht with rfl | rfl <;> decide)), h2]
theorem BoW.skip (h : BoW w lo G b wk xs D dn rt rk L ns kv j wr v es bs rss) (hj : j < ns.length) (hp : pL L ns[j] = false) : BoW w lo G b wk xs D dn rt rk L ns kv (j + 1) wr v es bs rss := by
 obtain ⟨h1, h2, h3, h4, h5, h6, h7⟩ := h
 refine ⟨h1, h2, h3, h4, ?_, h6, h7⟩
 rw [h5, List.take_succ_eq_append_getElem hj, List.filter_append, List.filter_cons_of_neg (by rw [hp]; exact Bool.false_ne_true), List.filter_nil, List.append_nil]
theorem BoW.push {va : Option Addr} {m vc : Nat} (h : BoW w lo G b wk xs D dn rt rk L ns kv j wr (.slice va m vc) es bs rss) (hm : es.length = m) (hj : j < ns.length) (hp : pL L ns[j] = true) (hnl : ns[j].length < 140737488355328) {U w2 w3 : World} (hU : Sm wr U) (hk : Gk lo G b U w2) (hgr : Gr w2 lo G b wk (fun _ => False) xs D dn rt rk) {N : Nat} {t : Tn N} {k : Int} {n : ByteArray} {ad : Option Addr} {len cap : Nat} {rws : List (Value × Nat)}
  (T : TyO w2 U.heap.size N (.agg #[.int .i64 k, .string n, .slice ad len cap]) t rws) (S : SepB U.heap.size w2.heap.size rws) (hfl : flat N t = subL L [(2, ns[j], 0)]) {o : Obj} {g cap3 : Nat} (hown : w3.ownsRow w.heap.size 48 4 (.slice (some ⟨g, 0, none⟩) (m + 1) cap3) (m + 1) (es.flatMap bCells ++ bCells (ns[j], k, n, .slice ad len cap))) (hgrow : (w2.alloc o).grownBy w3 (Value.slice va m vc).ownBlock) (hat : (Value.slice va m vc).ownBlock = some g ∨ g = w2.heap.size + 1) :
  BoW w lo G b wk xs D dn rt rk L ns kv (j + 1) w3 (.slice (some ⟨g, 0, none⟩) (m + 1) cap3) (es ++ [(ns[j], k, n, .slice ad len cap)]) (bs ++ [(ns[j], ⟨N, t⟩)]) (rss ++ [rws]) := by
 have h2 := h.move ((Gk.of_sm hU).trans hk) hgr
 obtain ⟨hp1, hp2, hp3⟩ := h.pos
 have hsU : U.heap.size = wr.heap.size := by rw [hU.heap]
 have hs2 := hk.size
 have hsw := h.gk.size
 have hvb : ∀ g, (Value.slice va m vc).ownBlock = some g → w.heap.size ≤ g ∧ g < wr.heap.size := fun g hg => h.row.own.lt g hg
 have hbl : ∀ g, g < w2.heap.size → some g ≠ (Value.slice va m vc).ownBlock → w3.heap[g]? = w2.heap[g]? := fun g hg3 hne => by
  rw [hgrow.block g (by simp; omega) hne]
  exact Below.heap_alloc _ _ _ hg3
 have hs3 : w2.heap.size ≤ w3.heap.size := by have := hgrow.size; simp at this; omega
 have h48 : ∀ z, (Value.slice va m vc).ownBlock = some z → ∃ c, w2.heap[z]? = some (.cells c 48 (0, 0)) := fun z hz => by
  rcases h2.row.own.2 with ⟨h0, _⟩ | ⟨g', cap', cur, hv, _, hh, _⟩
  ·rw [h0] at hz; cases hz
  ·rw [hv] at hz
   cases hz
   exact ⟨_, hh⟩
 have hA : SepB w.heap.size U.heap.size rss.flatten := by
  rw [hsU]
  exact h.row.sep
 refine ⟨?_, ⟨hgrow.os.trans h2.gk.os, hgrow.tape.trans h2.gk.tape, hgrow.output.trans h2.gk.output, by omega, fun k hk => ?_, fun k o h1 h2' h3 h4 => ?_⟩, own_keep h2.key fun k hk => ?_, h2.row.snoc (by omega) T ⟨rfl, hnl⟩ S (by omega) hA (fun g hg => by have := (hvb g hg).2; omega) (by rw [hm]; exact hown) hs3 hbl ?_, ?_, fun x hx => ?_, h.pos⟩
 ·obtain ⟨ys, y1, y2, y3⟩ := hgr
  refine ⟨ys, y1, y2, (y3.below ((Below.refl _ _).alloc (Nat.le_refl _) o)).grow48 hgrow fun z hz => ?_⟩
  obtain ⟨c, hc⟩ := h48 z hz
  exact ⟨c, _, (Below.heap_alloc _ _ _ (lt_of_heap hc)).trans hc⟩
 ·rw [hbl k (by omega) (fun e => by have := (hvb k e.symm).1; omega)]
  exact h2.gk.low k hk
 ·have := lt_of_heap h1
  rw [hbl k (by omega) (fun e => by have := (hvb k e.symm).1; omega)]
  exact h2.gk.keep k o h1 h2' h3 h4
 ·rcases h2.key.2 with ⟨h0, _⟩ | ⟨g', cap', cur, hv, h1, hh, _⟩
  ·rw [h0] at hk; cases hk
  ·rw [hv] at hk
   cases hk
   rw [hbl g' (lt_of_heap hh) (fun e => by
    obtain ⟨c, hc⟩ := h48 g' e.symm
    rw [hh] at hc
    exact absurd (cells_ty hc) (by decide))]
 ·rcases hat with hat | hat
  ·exact .inl hat.symm
  ·exact .inr ⟨g, rfl, by omega⟩
 ·rw [List.map_append, h.names, List.take_succ_eq_append_getElem hj, List.filter_append, List.filter_cons_of_pos hp]
  rfl
 ·rcases List.mem_append.1 hx with hx | hx
  ·exact h.says x hx
  ·rw [List.mem_singleton.1 hx]
   exact hfl
end
end Go.Proofs.YtikpipenhamdbaaGreat

namespace Go.Proofs.YtikpipenhamdbaaGreat
open Go.RowKit Go.Maps

/-- What bounds answers. -/
def BoundsP (lo G b : Nat) (xs : List Gx) (L : List (List UInt8 × List Nd)) (w : World) (e : Ending) (w' : World) : Prop :=
 ∃ (v : Value) (es : List Bl4) (bs : List Bd) (rss : List (List (Value × Nat))) (ns : List (List UInt8)), e = .returned v ∧ RowB w' w.heap.size v es bs rss ∧ ns.Nodup ∧ ns.Pairwise (fun a b => a ≤ b) ∧ (∀ n, n ∈ ns ↔ ∃ i, i < xs.length ∧ lbX xs i = (2, n)) ∧ bs.map (·.1) = ns.filter (pL L) ∧ (∀ x ∈ bs, flat x.2.1 x.2.2 = subL L [(2, x.1, 0)]) ∧ Gk lo G b w w' ∧ ns.length ≤ 200000000
theorem Tryz.info48b : (Tryz.prog.info? 48).map (fun i => (i.zero, i.size, i.bytes)) = some (some (.agg #[.string ⟨#[]⟩, .int .i64 0, .string ⟨#[]⟩, .slice none 0 0]), 4, 64) := by kernel_rfl
theorem add_zero_at (g i : Nat) : (⟨g, 0, none⟩ : Addr).add i = ⟨g, i, none⟩ := by
 unfold Addr.add
 split
 ·rename_i h0; rw [h0]
 ·simp
theorem row_len4 {w : World} {lo : Nat} {v : Value} {es : List Bl4} {bs : List Bd} {rss : List (List (Value × Nat))} (h : RowB w lo v es bs rss) : ∃ va vc, v = .slice va es.length vc := by
 rcases h.own.2 with ⟨h0, h1⟩ | ⟨g, cap, _, h1, _⟩
 ·exact ⟨none, 0, by rw [h0, h1]⟩
 ·exact ⟨_, cap, h1⟩
theorem sorted_le (ss : List (List UInt8)) : (ss.mergeSort (fun x y => decide (x ≤ y))).Pairwise (fun a b => a ≤ b) := by
 have h2 : (ss.mergeSort (fun x y => decide (x ≤ y))).Pairwise (fun a b => decide (a ≤ b) = true) := List.pairwise_mergeSort (fun a b c h k => by
  simp at h k ⊢
  exact List.le_trans h k) (fun a b => by
  simp
  exact List.le_total a b) ss
 exact h2.imp fun h => of_decide_eq_true h
set_option maxHeartbeats 16000000 in
set_option maxRecDepth 10000 in
theorem bounds_of {lo G b wk : Nat} {xs : List Gx} {D : DataW Unit} {dn : Nat → List Nd} {rt rk : Nat → Nat} {L : List (List UInt8 × List Nd)} (hM : Mn wk xs D dn rt rk L) (hO : Okl L) (h5 : ¬ Over xs dn) (w : World) (h : GX w lo G b (fun _ => False) xs D wk)
  (C1 : Calls Tryz.prog 52 #[.map (some b)] w fun e w' => e = .returned (.func (.func 72) #[] #[.pointer (some ⟨w.heap.size, 0, none⟩)]) ∧ w' = w.alloc (.cells #[.map (some b)] 63))
  (C2 : Calls Tryz.prog 51 #[.func (.func 72) #[] #[.pointer (some ⟨w.heap.size, 0, none⟩)]] (w.alloc (.cells #[.map (some b)] 63)) fun e w' => ∃ (v : Value) (ss : List (List UInt8)), e = .returned v ∧ ss.Perm (strKeys D) ∧ w'.ownsRow (w.alloc (.cells #[.map (some b)] 63)).heap.size 9 1 v ss.length ((ss.mergeSort (fun x y => decide (x ≤ y))).map encStr) ∧ (v = .slice none 0 0 ↔ ss = []) ∧ Below (w.alloc (.cells #[.map (some b)] 63)).heap.size (w.alloc (.cells #[.map (some b)] 63)) w') :
  Calls Tryz.prog 30 #[.pointer (some ⟨G, 0, none⟩)] w (BoundsP lo G b xs L w) := by
 have hl := h.num
 have c1 := h.c1
 have hperm : (vnames xs).Perm (strKeys D) := by
  have hown : w.ownsMap Tryz.prog 9 (plainElem Tryz.prog 3) b (Maps.size D) D := by
   obtain ⟨v, ns, _, hG, _⟩ := h
   exact hG.map
  obtain ⟨es, hD, hpw, _⟩ := hown.entries law9
  obtain ⟨es', hD', hko⟩ := hown.keysOf
  obtain rfl : es = es' := by rw [hD] at hD'; simpa using hD'
  have hhas := hM.vm.has
  rw [hD] at hhas ⊢
  exact perm_strKeys hpw (fun p hp => by obtain ⟨v, hv⟩ := hko p hp; obtain ⟨x, _, hx, _⟩ := Maps.keyOf_str Tryz.underlying9 hv; exact ⟨x, hx⟩) (vnames_nodup hM.den) (fun x => by rw [mem_vnames, hhas])
 have hvl : (vnames xs).length ≤ xs.length := by
  unfold vnames
  rw [List.length_map]
  have := List.length_filter_le (fun i => decide ((lbX xs i).1 = 2)) (List.range xs.length)
  rw [List.length_range] at this
  exact this
 have C3 : Calls Tryz.prog 51 #[.func (.func 72) #[] #[.pointer (some ⟨w.heap.size, 0, none⟩)]] (w.alloc (.cells #[.map (some b)] 63)) fun e w' => ∃ (ns : List (List UInt8)) (kad : Option Addr) (kcap : Nat), e = .returned (.slice kad ns.length kcap) ∧ ns.length ≤ 200000000 ∧ Hid (BoW w lo G b wk xs D dn rt rk L ns (.slice kad ns.length kcap) 0 w' (.slice none 0 0) [] [] [] ∧ ns.Nodup ∧ ns.Pairwise (fun a b => a ≤ b) ∧ ∀ n, n ∈ ns ↔ ∃ i, i < xs.length ∧ lbX xs i = (2, n)) := by
  refine Calls.mono C2 ?_
  rintro e w' ⟨v, ss, rfl, hp, ho, _, hbel⟩
  have hs0 : (w.alloc (Obj.cells #[.map (some b)] 63)).heap.size = w.heap.size + 1 := by simp
  have hb0 := (Below.refl w.heap.size w).alloc (Nat.le_refl _) (Obj.cells #[.map (some b)] 63)
  have hb : Below w.heap.size w w' := hb0.trans (hbel.mono (by omega))
  have hpn : (ss.mergeSort (fun x y => decide (x ≤ y))).Perm (vnames xs) := (List.mergeSort_perm ss _).trans (hp.trans hperm.symm)
  have hle := sorted_le ss
  have hlen : (ss.mergeSort (fun x y => decide (x ≤ y))).length = ss.length := List.length_mergeSort _
  rw [hs0, ← hlen] at ho
  generalize ss.mergeSort (fun x y => decide (x ≤ y)) = ns at *
  have hnl : ns.length ≤ 200000000 := by rw [hpn.length_eq]; omega
  have hK : Hid (∀ kv, v = kv → BoW w lo G b wk xs D dn rt rk L ns kv 0 w' (.slice none 0 0) [] [] [] ∧ ns.Nodup ∧ ns.Pairwise (fun a b => a ≤ b) ∧ ∀ n, n ∈ ns ↔ ∃ i, i < xs.length ∧ lbX xs i = (2, n)) := fun kv e => by
   subst e
   exact ⟨⟨⟨xs, Eqg.refl xs, hM.den, h.below hb⟩, Gk.of_below hb hl.2.1, ho, RowB.nil _ _, by simp, fun x hx => by simp at hx, hl.2⟩, hpn.nodup_iff.2 (vnames_nodup hM.den), hle, fun n => by rw [hpn.mem_iff, mem_vnames]⟩
  rcases id ho.2 with ⟨hv, h0⟩ | ⟨g, cap, cur, hv, _⟩
  ·exact ⟨ns, none, 0, by rw [hv, h0], hnl, hK.out _ (by rw [hv, h0])⟩
  ·exact ⟨ns, _, cap, by rw [hv], hnl, hK.out _ hv⟩
 have HM : Hid (Mn wk xs D dn rt rk L ∧ Okl L ∧ ¬ Over xs dn) := ⟨hM, hO, h5⟩
 clear C2 hM hO h5 hperm h hvl
 obtain ⟨i0, hi, hz0, hz1, hz2⟩ := info_parts Tryz.info48b
 go_enter Tryz.func30, Tryz.ntmps30
 go_upto_region 3 with (first
  | (go_at_call 52; (with_reducible refine Calls.mono C1 ?_); rintro e' w0 ⟨rfl, rfl⟩)
  | (go_at_call 51; (with_reducible refine Calls.mono C3 ?_); rintro e' w1 ⟨ns, kad, kcap, rfl, hnl, HO⟩))
 clear C1 C3 c1
 go_loopw [3, 14] (fun lv iv wr => ∃ (j m : Nat) (va : Option Addr) (vc : Nat) (es : List Bl4) (bs : List Bd) (rss : List (List (Value × Nat))), j ≤ ns.length ∧ iv = .int .i64 j ∧ lv = .slice va m vc ∧ m ≤ j ∧ Hid (es.length = m ∧ BoW w lo G b wk xs D dn rt rk L ns (.slice kad ns.length kcap) j wr (.slice va m vc) es bs rss)) (fun _ iv _ => ns.length - (intOf iv).toNat)
 case atStart => exact ⟨0, 0, none, 0, [], [], [], by omega, by go_num, rfl, Nat.le_refl _, rfl, HO.out.1⟩
 case round =>
  obtain ⟨j, m, va, vc, es, bs, rss, hj, rfl, rfl, hmj, HP⟩ := hrel
  by_cases hlt : j < ns.length
  ·have hlt' : (j : Int) < (ns.length : Int) := by omega
   obtain ⟨hel, T⟩ := HP.out
   obtain ⟨hM, hO, h5⟩ := HM.out
   obtain ⟨i, hil, hie⟩ := (HO.out.2.2.2 ns[j]).1 (List.getElem_mem hlt)
   obtain ⟨hlead, hdn⟩ := hM.leads hil hie
   have hvn : varB ns[j] = true := by
    have := hM.vm.nn i hil (by rw [hie])
    rw [hie] at this
    exact this
   have hnj : ns[j].length < 140737488355328 := by have := var_len hvn; omega
   have hok : Okr (dn i) := by
    rw [hdn]
    exact hO.subL _ (Okr.cons.2 ⟨ok_two hvn, Okr.nil⟩)
   have h500 : (dn i).length ≤ 500 := by
    rcases Nat.lt_or_ge 500 (dn i).length with q | q
    ·exact absurd ⟨i, hil, by rw [hie], q⟩ h5
    ·exact q
   have hxl : xs.length ≤ 200000000 := hl.1
   have hrl := Den.rt_lt hM.den hil
   obtain ⟨kg, hkad, k0⟩ : ∃ kg, kad = some ⟨kg, 0, none⟩ ∧ wr.cell? ⟨kg, j, none⟩ = some (.string ⟨ns[j].toArray⟩) := by
    rcases id T.key.2 with ⟨hv, h0⟩ | ⟨g, cp, cur, hv, hg, hh, hcap, _⟩
    ·omega
    ·have := T.key.cells (g := g) (by rw [hv]; rfl) j (encStr ns[j]) (by rw [List.getElem?_map, List.getElem?_eq_getElem hlt]; rfl)
     rw [add_zero_at] at this
     simp only [Value.slice.injEq] at hv
     exact ⟨g, hv.1, this⟩
   subst hkad
   have c1 : wr.cell? ⟨G, 1, none⟩ = some (.map (some b)) := by
    obtain ⟨ys, _, _, y3⟩ := T.gr
    exact y3.c1
   have hrun : (Instr.lookup 63 (.map (some b)) (.string ⟨ns[j].toArray⟩) false).run Tryz.prog wr = .ok (.int .i64 i) wr := by
    obtain ⟨ys, _, _, v, nn, _, hG, _⟩ := T.gr
    obtain ⟨c, hr, hat, _⟩ := hG.map.lookup_int law9 Tryz.underlying63 Tryz.underlying3 (Tryz.zeroValue3 _) (key9 ns[j] hnj)
    have hg := hM.vm.get i hil (by rw [hie])
    rw [hie, hat] at hg
    cases hg
    exact hr
   have CE : Calls Tryz.prog 46 #[.pointer (some ⟨G, 0, none⟩), .int .i64 i] wr fun e w' => e = .returned (.int .i64 (rt i : Nat)) ∧ Hid (BoW w lo G b wk xs D dn rt rk L ns (.slice (some ⟨kg, 0, none⟩) ns.length kcap) j w' (.slice va m vc) es bs rss) := by
    obtain ⟨ys, y1, y2, y3⟩ := T.gr
    refine Calls.mono (end_any y3 y2 i (by rw [y1.len]; exact hil)) ?_
    rintro e w' ⟨rfl, E⟩
    obtain ⟨zs, z1, z2, z3⟩ := E.ex
    exact ⟨rfl, T.move E.gk ⟨zs, y1.trans z1, z2, z3⟩⟩
   have CT : ∀ W, Hid (BoW w lo G b wk xs D dn rt rk L ns (.slice (some ⟨kg, 0, none⟩) ns.length kcap) j W (.slice va m vc) es bs rss) → Calls Tryz.prog 53 #[.pointer (some ⟨G, 0, none⟩), .int .i64 i] W (TypeP lo G b wk (fun _ => False) xs D dn rt rk 500 i W) := fun W hB => by
    obtain ⟨ys, y1, y2, y3⟩ := hB.out.gr
    refine Calls.mono (type_any 500 ys W i y3 y2 (by rw [y1.len]; exact hil) h500 hok) ?_
    rintro e w' ⟨k, n, ad, len, cap, t, rws, h1, h2, h3, h4, h5, zs, z1, z2, z3⟩
    exact ⟨k, n, ad, len, cap, t, rws, h1, h2, h3, h4, h5, zs, y1.trans z1, z2, z3⟩
   have i1 : (0 : Int) ≤ (j : Int) := by omega
   have HLT : Hid (j < ns.length) := hlt
   by_cases hrt : rt i = i
   ·rw [hrt] at CE
    have HSK : Hid (∀ W, BoW w lo G b wk xs D dn rt rk L ns (.slice (some ⟨kg, 0, none⟩) ns.length kcap) j W (.slice va m vc) es bs rss → BoW w lo G b wk xs D dn rt rk L ns (.slice (some ⟨kg, 0, none⟩) ns.length kcap) (j + 1) W (.slice va m vc) es bs rss) := fun W hB => hB.skip hlt (hlead.1 hrt)
    have HEL : Hid (es.length = m) := hel
    clear HP T hM hO h5 hie hlead hdn hvn hok CT hrt hel
    generalize ns[j] = nj at *
    go_wp2_with (go_at_call 46; (with_reducible refine Calls.mono CE ?_); rintro e' w5 ⟨rfl, H5⟩)
    go_roundw
    case rel => exact ⟨j + 1, m, va, vc, es, bs, rss, HLT.out, by go_num, rfl, by omega, HEL.out, HSK.out _ H5.out⟩
    case measure => have := HLT.out; simp [intOf]; omega
   ·have hpl : pL L ns[j] = true := by
     cases hp : pL L ns[j] with
     | true => rfl
     | false => exact absurd (hlead.2 hp) hrt
    have hne : ¬ ((rt i : Nat) : Int) = (i : Int) := by omega
    have hneb : (((rt i : Nat) : Int) == (i : Int)) = false := by simpa using hne
    have HPU : Hid (pL L ns[j] = true ∧ ns[j].length < 140737488355328 ∧ dn i = subL L [(2, ns[j], 0)] ∧ es.length = m) := ⟨hpl, hnj, hdn, hel⟩
    have HKP : Hid (∀ W w6, BoW w lo G b wk xs D dn rt rk L ns (.slice (some ⟨kg, 0, none⟩) ns.length kcap) j W (.slice va m vc) es bs rss → Gk lo G b W w6 → Gr w6 lo G b wk (fun _ => False) xs D dn rt rk → w6.ownsRow w.heap.size 48 4 (.slice va m vc) m (es.flatMap bCells) ∧ w.heap.size ≤ w6.heap.size) := fun W w6 hB hk hg => by
     have h6 := hB.move hk hg
     have hr6 := h6.row.own
     rw [hel] at hr6
     exact ⟨hr6, h6.gk.size⟩
    clear HP T hM hO h5 hie hlead hdn hvn hok hrt hpl hnj hel
    generalize hnj : ns[j] = nj at *
    have HNJ : Hid (ns[j] = nj) := hnj
    clear hnj
    go_wp2_with (first
     | (go_at_call 46; (with_reducible refine Calls.mono CE ?_); rintro e' w5 ⟨rfl, H5⟩)
     | (go_at_call 53; (with_reducible refine Calls.mono (CT _ H5) ?_); intro e' w6 hp; obtain ⟨k3, n3, ad3, l3, cp3, t3, rws3, rfl, hT3, hS3, hfl3, hk3, hgr3⟩ := hp; obtain ⟨own3, hU4⟩ := HKP.out _ _ H5.out hk3 hgr3)
     | (at_builtin; refine wpList_append_lies _ rfl _ _ 23 rfl w.heap.size 48 i0 _ 4 64 Tryz.underlying23 hi hz0 hz1 hz2 rfl (by decide) (.slice va m vc) m (es.flatMap bCells) rfl (own3.alloc _) ⟨w6.heap.size, 0, none⟩ 1 1 [.string ⟨nj.toArray⟩, .int .i64 k3, .string n3, .slice ad3 l3 cp3] rfl rfl (World.news_of_block (cs := #[.string ⟨nj.toArray⟩, .int .i64 k3, .string n3, .slice ad3 l3 cp3]) (t := 48) (fr := (0, 0)) (heap_alloc_new w6 _)) (by simp [Value.oneCell']) (by omega) (by unfold maxLen; omega) (by omega) (by simp; omega) (w6.heap.size + 1) (by simp) ?_; intro g cap3 w7 hown4 hgrow hat hlt4))
    have hnj := HNJ.out
    subst hnj
    obtain ⟨u1, u2, u3, u4⟩ := HPU.out
    have HL := H5.out.push u4 HLT.out u1 u2 (Sm.refl _) hk3 hgr3 hT3 hS3 (by rw [hfl3]; exact u3) hown4 hgrow hat
    go_roundw
    case rel => exact ⟨j + 1, m + 1, _, _, _, _, _, HLT.out, by go_num, rfl, by omega, by simp [u4], HL⟩
    case measure => have := HLT.out; simp [intOf]; omega
  ·have h1 : ¬ (j : Int) < (ns.length : Int) := by omega
   have HE : Hid (BoW w lo G b wk xs D dn rt rk L ns (.slice kad ns.length kcap) ns.length wr (.slice va m vc) es bs rss) := by
    have e1 : j = ns.length := by omega
    have := HP.out.2
    rw [e1] at this
    exact this
   clear HP
   go_wp2
   go_ret
   obtain ⟨b1, b2, b3, b4, b5, b6, b7⟩ := HE.out
   obtain ⟨-, o2, o3, o4⟩ := HO.out
   exact ⟨_, es, bs, rss, ns, rfl, b4, o2, o3, o4, by rw [b5, List.take_length], b6, b2, hnl⟩
end Go.Proofs.YtikpipenhamdbaaGreat
