/- The graph: the contract of isAbove. -/
import Derived.Test.YtikpipenhamdbaaHm
import Derived.Test.YtikpipenhamdbaaMpx
import Derived.Test.YtikpipenhamdbaaGi
namespace Go.Proofs.Ytikpipenhamdbaa
open Go.RowKit Go.Maps

theorem ranges_on {w w' : World} {k b r n cnt : Nat} {R : Value → Option (DataW Unit × List MemPlace)} {D : DataW Unit} {left : Lit → Bool} (h : w.ranges Try.prog k R b r n D left cnt) (hb : w'.heap[b]? = w.heap[b]?) (hr : w'.heap[r]? = w.heap[r]?) : w'.ranges Try.prog k R b r n D left cnt := by
  obtain ⟨es, clock, since, seen, c0, h1, h2, h3, h4, h5, h6⟩ := h
  exact ⟨es, clock, since, seen, c0, by rw [hb]; exact h1, h2, h3, h4, by rw [hr]; exact h5, h6⟩
theorem GX.c1 {w : World} {lo G b wk : Nat} {R : Nat → Prop} {xs : List Gx} {D : DataW Unit} (h : GX w lo G b R xs D wk) : w.cell? ⟨G, 1, none⟩ = some (.map (some b)) := by
  obtain ⟨v, ns, _, hG, _⟩ := h
  have := hG.box
  simp only [World.cell?, this]
  rfl
/-- Is some variable above so many nodes? -/
def Over (xs : List Gx) (dn : Nat → List Nd) : Prop := ∃ i, i < xs.length ∧ (lbX xs i).1 = 2 ∧ 500 < (dn i).length
set_option maxHeartbeats 8000000 in
set_option maxRecDepth 10000 in
theorem above_all {lo G b wk : Nat} {xs : List Gx} {D : DataW Unit} {dn : Nat → List Nd} {rt rk : Nat → Nat} {L : List (List UInt8 × List Nd)} (hM : Mn wk xs D dn rt rk L) (w : World) (h : GX w lo G b (fun _ => False) xs D wk) :
    Calls Try.prog 19 #[.pointer (some ⟨G, 0, none⟩)] w fun e w' => ((e = .returned (.bool false) ∧ ¬ Over xs dn) ∨ (e = .returned (.bool true) ∧ Over xs dn)) ∧ Gk lo G b w w' ∧ Gr w' lo G b wk (fun _ => False) xs D dn rt rk := by
  have hl := h.num
  have c1 := h.c1
  have hown : w.ownsMap Try.prog 9 (plainElem Try.prog 3) b (Maps.size D) D := by
    obtain ⟨v, ns, _, hG, _⟩ := h
    exact hG.map
  have HM : Hid (Mn wk xs D dn rt rk L) := hM
  have H0 : Hid (GX w lo G b (fun _ => False) xs D wk) := h
  clear hM h
  go_enter Try.func19, Try.ntmps19
  go_wp2_with (first
    | (at_range; refine wpList_range_own _ rfl _ 48 rfl 9 3 law9 Try.underlying48 _ b (Maps.size D) _ rfl hown ?_; intro w0 hrg0 hg0 hs0)
    | go_in)
  go_frame
  go_loopw [4] (fun _ wr => ∃ (left : Lit → Bool) (cnt : Nat), wr.ranges Try.prog 9 (plainElem Try.prog 3) b w.heap.size (Maps.size D) D left cnt ∧ Hid ((∀ i, i < xs.length → (lbX xs i).1 = 2 → left (.string (lbX xs i).2) = false → (dn i).length ≤ 500) ∧ Gr wr lo G b wk (fun _ => False) xs D dn rt rk ∧ Gk lo G b w wr))
    (fun _ wr => wr.rangeLeft b w.heap.size)
  case atStart =>
    have hb0 : Below w.heap.size w w0 := ⟨hg0.os, hg0.tape, hg0.output, hg0.size, fun k hk => hg0.block k hk (by simp)⟩
    refine ⟨_, _, hrg0, fun i hi h2 hf => ?_, ⟨xs, Eqg.refl xs, HM.out.den, H0.out.below hb0⟩, Gk.of_below hb0 hl.2.1⟩
    have := (HM.out.vm.has (lbX xs i).2).2 ⟨i, hi, by rw [← h2]⟩
    rw [this] at hf
    cases hf
  case round =>
    obtain ⟨left, cnt, hrg, HP⟩ := hrel
    clear hrg0 hg0 hs0 hown c1
    go_wp2_with (first
      | (at_next; refine wpList_next_ranges _ rfl _ rfl 9 law9 _ Value.string (Value.int .i64) (fun key kl hkey => Maps.keyOf_string_inv Try.underlying9 hkey) (fun v y hv => by obtain ⟨c, rfl, _⟩ := plainElem_int_inv Try.underlying3 hv; exact ⟨c, rfl⟩) b w.heap.size (Maps.size D) _ _ _ rfl hrg ?_ ?_)
      | go_in)
    · intro _ hl0
      go_wp2
      go_ret
      obtain ⟨h1, h2, h3⟩ := HP.out
      refine ⟨.inl ⟨rfl, ?_⟩, h3, h2⟩
      rintro ⟨i, hi, h2, h5⟩
      have := h1 i hi h2 (hl0 _)
      omega
    · intro x c kl y1 y2 w1 cnt1 hkey hlk hv hat hrg1 hlt hg1 hs1 hen
      obtain ⟨c', ec, hy, hwc⟩ := plainElem_int_inv Try.underlying3 hv
      cases ec
      have hat' : ∀ zd, D.atKey kl zd = .lit (.int .i64 c) := fun zd => by rw [hat zd]; exact congrArg Prod.fst hy
      obtain ⟨i, hi, hi2, hci⟩ := HM.out.vm.all kl c hat'
      subst hci
      obtain ⟨p1, p2, p3⟩ := HP.out
      have hX1 : Gr w1 lo G b wk (fun _ => False) xs D dn rt rk ∧ Gk lo G b w w1 := by
        obtain ⟨ys, y1, y2, hX⟩ := p2
        obtain ⟨es, clock, since, seen, c0, _, _, _, _, hr, _⟩ := hrg
        refine ⟨⟨ys, y1, y2, hX.other hr (by intro c t fz e; cases e) (by intro c t e; cases e) hg1.size ⟨hg1.os, hg1.tape, hg1.output⟩ (fun k hk hne => hg1.block k hk (fun e => hne (Option.some.inj e)))⟩, ⟨hg1.os.trans p3.os, hg1.tape.trans p3.tape, hg1.output.trans p3.output, Nat.le_trans p3.size hg1.size, fun k hk => ?_, fun k o h1 h2 h3 h4 => ?_⟩⟩
        · rw [hg1.block k (by have := p3.size; omega) (fun e => by have := Option.some.inj e; omega)]
          exact p3.low k hk
        · rw [hg1.block k (by have := lt_of_heap h1; have := p3.size; omega) (fun e => by have := Option.some.inj e; have := lt_of_heap h1; omega)]
          exact p3.keep k o h1 h2 h3 h4
      have HMS : Hid (w1.rangeLeft b w.heap.size < wr.rangeLeft b w.heap.size) := by
        show _ < _
        rw [hrg1.left_eq, hrg.left_eq]; exact hlt
      have HIT : Hid (∃ o, w1.heap[b]? = some o ∧ (∀ c fz, o ≠ .cells c 80 fz) ∧ ∃ o', w1.heap[w.heap.size]? = some o' ∧ ∀ c fz, o' ≠ .cells c 80 fz) := by
        obtain ⟨es, clock, since, seen, c0, hb, _, _, _, hr, _⟩ := hrg1
        exact ⟨_, hb, (by intro c fz e; cases e), _, hr, (by intro c fz e; cases e)⟩
      have HNX : Hid ((dn i).length ≤ 500 → ∀ j, j < xs.length → (lbX xs j).1 = 2 → (left (.string (lbX xs j).2) && !(Lit.string (lbX xs j).2).sameKey kl) = false → (dn j).length ≤ 500) := fun h5 j hj hj2 hf => by
        cases hlj : left (.string (lbX xs j).2) with
        | false => exact p1 j hj hj2 hlj
        | true =>
          rw [hlj, Bool.true_and, Bool.not_eq_false'] at hf
          have hkl : kl = .string (lbX xs j).2 := by
            cases kl <;> simp [Lit.sameKey] at hf
            rw [hf]
          have hg := HM.out.vm.get j hj hj2
          rw [← hkl, hat'] at hg
          injection hg with hg
          injection hg with _ hg
          have : i = j := by omega
          rw [← this]
          exact h5
      have HX1 : Hid (Gr w1 lo G b wk (fun _ => False) xs D dn rt rk ∧ Gk lo G b w w1) := hX1
      have CL : Calls Try.prog 33 #[.pointer (some ⟨G, 0, none⟩), .int .i64 i, .int .i64 500] w1 fun e w' => e = .returned (.int .i64 (leftN (dn i).length 500)) ∧ Hid ((Gr w' lo G b wk (fun _ => False) xs D dn rt rk ∧ Gk lo G b w w') ∧ w'.heap[b]? = w1.heap[b]? ∧ w'.heap[w.heap.size]? = w1.heap[w.heap.size]?) := by
        obtain ⟨⟨ys, y1, y2, y3⟩, p5⟩ := HX1.out
        refine Calls.mono (nleft_any (dn i).length ys w1 i 500 y3 y2 (by rw [y1.ar]; exact HM.out.few) (by rw [y1.len]; exact hi) (Nat.le_refl _) (Nat.le_refl _)) ?_
        rintro e w' ⟨rfl, E⟩
        obtain ⟨zs, z1, z2, z3⟩ := E.ex
        obtain ⟨o, o1, o2, o', o3, o4⟩ := HIT.out
        exact ⟨rfl, ⟨⟨zs, y1.trans z1, z2, z3⟩, p5.trans E.gk⟩, E.same b fun c fz e => o2 c fz (Option.some.inj (o1.symm.trans e)), E.same _ fun c fz e => o4 c fz (Option.some.inj (o3.symm.trans e))⟩
      have HRG : Hid (w1.ranges Try.prog 9 (plainElem Try.prog 3) b w.heap.size (Maps.size D) D (fun z => left z && !z.sameKey kl) cnt1) := hrg1
      clear hg1 p1 p2 p3 hX1 HP hrg hrg1 HX1 HIT hat hat' hlt hlk hv hy
      by_cases h5 : (dn i).length ≤ 500
      · rw [leftN_ok h5] at CL
        obtain ⟨l5, hl5⟩ : ∃ l5, l5 = 500 - (dn i).length := ⟨_, rfl⟩
        rw [← hl5] at CL
        have hl0 : ¬ (l5 : Int) < 0 := by omega
        have HH5 : Hid ((dn i).length ≤ 500) := h5
        clear hl5 h5
        go_wp2_with (first
          | (go_at_call 33; (with_reducible refine Calls.mono CL ?_); rintro e' w2 ⟨rfl, HN⟩)
          | go_in)
        obtain ⟨⟨n1, n2⟩, n3, n4⟩ := HN.out
        have hrn := ranges_on HRG.out n3 n4
        go_roundw
        case rel => exact ⟨_, cnt1, hrn, HNX.out HH5.out, n1, n2⟩
        case measure =>
          rw [hrn.left_eq, ← HRG.out.left_eq]
          exact HMS.out
      · rw [leftN_bad h5] at CL
        have HH5 : Hid (Over xs dn) := ⟨i, hi, hi2, by omega⟩
        clear h5
        go_wp2_with (first
          | (go_at_call 33; (with_reducible refine Calls.mono CL ?_); rintro e' w2 ⟨rfl, HN⟩)
          | go_in)
        go_ret
        obtain ⟨⟨n1, n2⟩, n3, n4⟩ := HN.out
        exact ⟨.inr ⟨rfl, HH5.out⟩, n2, n1⟩
end Go.Proofs.Ytikpipenhamdbaa
