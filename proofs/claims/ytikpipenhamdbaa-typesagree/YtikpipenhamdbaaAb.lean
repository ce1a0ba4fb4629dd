/- The program's isAbove. -/
import Derived.Test.YtikpipenhamdbaaMrx
import Derived.Test.YtikpipenhamdbaaMix
import Derived.Test.YtikpipenhamdbaaEv
import Derived.RangeFuncWrites
import Derived.Maps.OwnIn
namespace Go.Proofs.Ytikpipenhamdbaa
open Go.RowKit Go.Maps Go.Shelf
attribute [local go_sem] Oper.semAt_some

/-- How many nodes more a name brings. -/
def moreN (bs : List Bd) (n : List UInt8) : Nat := match bdSays bs n with | some u => (flat u.1 u.2).length - 1 | none => 0
/-- How many nodes there are when these names have come. -/
def totN (k : Nat) (bs : List Bd) (pre : List Nn) : Nat := k + ((pre.map Subtype.val).map (moreN bs)).sum
theorem totN_snoc (k : Nat) (bs : List Bd) (pre : List Nn) (x : Nn) : totN k bs (pre ++ [x]) = totN k bs pre + moreN bs x.1 := by
  unfold totN
  simp
  omega
theorem below_sum (f : List UInt8 → Nat) (l : List (List UInt8)) (k : Nat) : ((l.take k).map f).sum ≤ (l.map f).sum := by
  conv => rhs; rw [← List.take_append_drop k l, List.map_append, List.sum_append]
  omega
theorem wrap_small (x : Int) (h0 : 0 ≤ x) (h1 : x ≤ 10000000) : IntKind.i64.wrap x = x := by rw [IntKind.wrap_i64]; omega
theorem wrap_two (tp uu tq : Nat) (h : tq = tp + (uu - 1)) (h1 : tp ≤ 500) (h2 : uu ≤ 4194304) : IntKind.i64.wrap ((tp : Int) + IntKind.i64.wrap ((uu - 1 : Nat) : Int)) = (tq : Int) := by
  rw [wrap_small ((uu - 1 : Nat) : Int) (by omega) (by omega), wrap_small _ (by omega) (by omega), h]
  omega
set_option maxHeartbeats 16000000 in
set_option maxRecDepth 100000 in
theorem above_any (b B : Nat) (bs : List Bd) (d : Nat) (x : Value) (t : Tn d) (w : World) (hT : TyAt w w.heap.size d x t) (hB : B ≤ w.heap.size) (hV : Vs w b B bs) (hs : ∀ n u, bdSays bs n = some u → (flat u.1 u.2).length ≤ 4194304) (hle : (flat d t).length ≤ 500) :
    Calls Try.prog 22 #[.map (some b), x] w fun r w' => r = .returned (.bool (decide (500 < (flat d t).length + ((namesT d t).map (moreN bs)).sum))) ∧ Below w.heap.size w w' := by
  obtain ⟨k, n, ad, len, cap, rfl⟩ := tree_form hT
  obtain ⟨ys, hys⟩ := sub_list (namesT d t) (names_short d _ t hT)
  obtain ⟨W, hW⟩ : ∃ W, W = ((w.alloc (Obj.cells #[.map (some b)] 56)).alloc (Obj.cells #[.int .i64 k, .string n, .slice ad len cap] 31)).alloc (Obj.cells #[.bool false] 4) := ⟨_, rfl⟩
  have hbW : Below w.heap.size w W := by rw [hW]; exact (((Below.refl _ _).alloc (Nat.le_refl _) _).alloc (by simp) _).alloc (by simp; omega) _
  have hsW : W.heap.size = w.heap.size + 3 := by rw [hW]; simp
  have xm : W.heap[w.heap.size]? = some (.cells #[.map (some b)] 56 (0, 0)) := by
    rw [hW, Below.heap_alloc _ _ _ (by simp; omega), Below.heap_alloc _ _ _ (by simp)]
    show (w.heap.push _)[w.heap.size]? = _
    simp
  have xt : W.heap[w.heap.size + 1]? = some (.cells #[.int .i64 k, .string n, .slice ad len cap] 31 (0, 0)) := by
    rw [hW, Below.heap_alloc _ _ _ (by simp)]
    show ((w.heap.push _).push _)[w.heap.size + 1]? = _
    rw [Array.getElem?_push, if_pos (by simp)]
  have xr : W.heap[w.heap.size + 1 + 1]? = some (.cells #[.bool false] 4 (0, 0)) := by
    rw [hW]
    show (((w.heap.push _).push _).push _)[w.heap.size + 1 + 1]? = _
    rw [Array.getElem?_push, if_pos (by simp)]
  have C1 := nodesOf_any d _ t W w.heap.size hbW.size (hT.on hbW) (by omega)
  have HX : Hid (∀ w1, Below W.heap.size W w1 → Below w.heap.size w w1 ∧ W.heap.size ≤ w1.heap.size ∧ w1.heap[w.heap.size]? = some (.cells #[.map (some b)] 56 (0, 0)) ∧ w1.heap[w.heap.size + 1]? = some (.cells #[.int .i64 k, .string n, .slice ad len cap] 31 (0, 0)) ∧ w1.heap[w.heap.size + 1 + 1]? = some (.cells #[.bool false] 4 (0, 0))) := fun w1 hb => ⟨hbW.trans (hb.mono (by omega)), hb.size, (hb.block _ (lt_of_heap xm)).trans xm, (hb.block _ (lt_of_heap xt)).trans xt, (hb.block _ (lt_of_heap xr)).trans xr⟩
  have xc := heap_cells xt
  obtain ⟨c0, c1, c2⟩ := xc
  clear xm xt xr hbW
  refine (callsIn_wide (n := 6)).1 ?_
  have f62 : Fence.wide.fn 38 := trivial
  have f29 : Fence.wide.fn 39 := trivial
  refine callsIn_of_wp_marks Try.func22 rfl trivial ?_ rfl
  simp only [Try.ntmps22, List.size_toArray, List.length_cons, List.length_nil, Nat.reduceAdd, Nat.reduceSub, Array.replicate_succ, Array.replicate_zero, List.push_toArray, List.append_toArray, List.nil_append, List.cons_append]
  gi_wp2_with (first
    | (rw [← hW]; gi_at_call 38; refine (callsIn_wide.2 C1).mono ?_; rintro e' w1 ⟨rfl, hb1⟩; obtain ⟨hB1, hs1, ym, yt, yr⟩ := HX.out _ hb1; have hlt1 := lt_of_heap yt; have bm : Below w1.heap.size w1 (w1.alloc (Obj.cells #[.int .i64 (flat d t).length] 3)) := (Below.refl _ _).alloc (Nat.le_refl _) _; obtain ⟨z0, z1, z2⟩ := heap_cells ((bm.block _ hlt1).trans yt))
    | (gi_at_call 39; refine (callsIn_wide.2 (varsOf_any k n ad len cap _)).mono ?_; rintro e' w2 ⟨rfl, rfl⟩))
  obtain ⟨Wl, hWl⟩ : ∃ Wl, Wl = (w1.alloc (Obj.cells #[.int .i64 (flat d t).length] 3)).alloc (Obj.cells #[.int .i64 k, .string n, .slice ad len cap] 31) := ⟨_, rfl⟩
  rw [← hWl]
  have bl : Below w1.heap.size w1 Wl := by rw [hWl]; exact bm.alloc (by simp) _
  have hsl : Wl.heap.size = w1.heap.size + 2 := by rw [hWl]; simp
  have xn : Wl.heap[w1.heap.size]? = some (.cells #[.int .i64 (flat d t).length] 3 (0, 0)) := by
    rw [hWl, Below.heap_alloc _ _ _ (by simp)]
    show (w1.heap.push _)[w1.heap.size]? = _
    simp
  have hbt : Wl.heap[w1.heap.size + 1]? = some (.cells #[.int .i64 k, .string n, .slice ad len cap] 31 (0, 0)) := by
    rw [hWl]
    show ((w1.heap.push _).push _)[w1.heap.size + 1]? = _
    rw [Array.getElem?_push, if_pos (by simp)]
  obtain ⟨b0, b1, b2⟩ := heap_cells hbt
  have hTl := hT.on (hB1.trans (bl.mono hB1.size))
  have hszz := hB1.size
  have hlV := hV.lt
  have hw1 : w.heap.size + 3 ≤ w1.heap.size := by omega
  have HV : Hid (∀ W, Below w1.heap.size w1 W → Vs W b B bs ∧ W.cell? ⟨w.heap.size, 0, none⟩ = some (.map (some b))) := fun W hb => by
    have hb2 : Below w.heap.size w W := hB1.trans (hb.mono hszz)
    refine ⟨hV.on (hb2.block _ hlV) (hb2.mono hB), ?_⟩
    have := (hb.block _ (lt_of_heap ym)).trans ym
    simp only [World.cell?, this]
    rfl
  have HRC : Hid (∀ W, Below w1.heap.size w1 W → W.cell? ⟨w.heap.size + 1 + 1, 0, none⟩ = some (.bool false)) := fun W hb => by
    have := (hb.block _ (lt_of_heap yr)).trans yr
    simp only [World.cell?, this]
    rfl
  have HRF : Hid (∀ W, Below w1.heap.size w1 W → W.frozen? ⟨w.heap.size + 1 + 1, 0, none⟩ = false) := fun W hb => by
    have := (hb.block _ (lt_of_heap yr)).trans yr
    simp [World.frozen?, this]
  have HSM : Hid (∀ pre : List Nn, pre <+: ys → totN (flat d t).length bs pre ≤ (flat d t).length + ((namesT d t).map (moreN bs)).sum) := fun pre he => by
    have h1 := below_sum (moreN bs) (namesT d t) pre.length
    rw [← hys, ← List.map_take, ← List.prefix_iff_eq_take.1 he] at h1
    rw [← hys]
    unfold totN
    omega
  have HSA : Hid (totN (flat d t).length bs ys = (flat d t).length + ((namesT d t).map (moreN bs)).sum) := by
    show _ = _
    unfold totN
    rw [hys]
  have HS0 : Hid (totN (flat d t).length bs [] ≤ 500) := by show _ ≤ _; simp [totN]; omega
  have HSU : Hid (∀ n u, bdSays bs n = some u → (flat u.1 u.2).length ≤ 4194304 ∧ 0 < (flat u.1 u.2).length ∧ moreN bs n = (flat u.1 u.2).length - 1) := fun n u h => ⟨hs n u h, flat_pos _ _, by unfold moreN; rw [h]⟩
  clear hWl hW C1 HX z0 z1 z2 bm hbt c0 c1 c2 hs hle hV
  refine wpIn_rangeFunc_ownG rfl (by omega) (gf := 53) (lb := #[.pointer (some ⟨w1.heap.size + 1, 0, none⟩)]) rfl trivial (enters_of Try.func53 (by kernel_rfl) rfl)
    (vars_stops Fence.wide rfl (6 - 1) trivial trivial rfl (w1.heap.size + 1) w.heap.size d k n ad len cap t ys Wl (by omega) (by omega) b0 b1 b2 hTl hys) belowK_t (belowK_b (by omega)) (Below.refl _ _) (fun _ => rfl)
    (fun pre W => (W.cell? ⟨w1.heap.size, 0, none⟩ = some (.int .i64 (totN (flat d t).length bs pre)) ∧ W.frozen? ⟨w1.heap.size, 0, none⟩ = false) ∧ Below w1.heap.size w1 W ∧ totN (flat d t).length bs pre ≤ 500)
    (fun c pre W => (c = .ret ∧ 500 < totN (flat d t).length bs pre) ∧ W.cell? ⟨w.heap.size + 1 + 1, 0, none⟩ = some (.bool true) ∧ Below w.heap.size w W)
    (OwnFrom.and (Own.from (fun s A B row hs hg hr => ⟨cell_kept hs.1 hg hr, (frozen_kept hs.1 hg hr).trans hs.2⟩) _) (OwnFrom.and (ownFrom_below (Nat.le_refl _) (by omega)) (fun _ _ _ _ hs _ _ => hs)))
    (fun c => OwnFrom.and (fun _ _ _ _ hs _ _ => hs) (OwnFrom.and (Own.from (fun s A B row hs hg hr => cell_kept hs hg hr) _) (ownFrom_below (Nat.le_refl _) (by omega))))
    ⟨⟨by simp only [World.cell?, xn]; simp [totN], by simp [World.frozen?, xn]⟩, bl, HS0.out⟩
    (fun x => { tmps := #[.map (some b), Value.agg #[.int .i64 k, .string n, .slice ad len cap], .pointer (some ⟨w.heap.size, 0, none⟩), .pointer (some ⟨w.heap.size + 1, 0, none⟩), .pointer (some ⟨w.heap.size + 1 + 1, 0, none⟩), .pointer (some ⟨w1.heap.size, 0, none⟩), .string ⟨x.1.toArray⟩, undef, undef, Value.agg #[.int .i64 k, .string n, .slice ad len cap], .int .i64 (flat d t).length, Value.agg #[.int .i64 k, .string n, .slice ad len cap], .func (.func 53) #[] #[.pointer (some ⟨w1.heap.size + 1, 0, none⟩)], .string ⟨x.1.toArray⟩, undef, undef, undef, undef, undef, undef, undef, undef, undef, undef, undef, undef, undef, undef], defers := [] }) ?assign ?body ?done ?stop
  case assign =>
    intro l x W K hK
    gi_wp2
    exact hK
  case body =>
    rintro l pre x W ⟨⟨hc, hf⟩, hB2, h5⟩ hlt
    obtain ⟨⟨s, hM, hsay⟩, hcm⟩ := HV.out W hB2
    have hlk := hM.look x.1 x.2
    have hszB := hB2.size
    rcases hsay x.1 with ⟨e1, e2⟩ | ⟨v, u, e1, e2, hTu⟩
    · have e3 : totN (flat d t).length bs (pre ++ [x]) = totN (flat d t).length bs pre := by rw [totN_snoc, moreN, e2]; rfl
      rw [e1] at hlk
      simp only [Option.getD_none, Option.isSome_none, zeroT] at hlk
      obtain ⟨U, hU⟩ : ∃ U, U = W.alloc (Obj.cells #[.int .i64 0, .string ⟨#[]⟩, .slice none 0 0] 31) := ⟨_, rfl⟩
      have cU : U.cell? ⟨w1.heap.size, 0, none⟩ = some (.int .i64 (totN (flat d t).length bs pre)) := by rw [hU]; exact cell_kept hc (World.grownBy_alloc W _ none) (fun r e => by cases e)
      have fU : U.frozen? ⟨w1.heap.size, 0, none⟩ = false := by rw [hU]; exact (frozen_kept hc (World.grownBy_alloc W _ none) (fun r e => by cases e)).trans hf
      have HEND : Hid (KeepsFrom Wl.heap.size W U ∧ Below w.heap.size W U ∧ (U.cell? ⟨w1.heap.size, 0, none⟩ = some (.int .i64 (totN (flat d t).length bs (pre ++ [x]))) ∧ U.frozen? ⟨w1.heap.size, 0, none⟩ = false) ∧ Below w1.heap.size w1 U ∧ totN (flat d t).length bs (pre ++ [x]) ≤ 500) := by
        rw [e3]
        refine ⟨(by rw [hU]; exact (KeepsOthers.alloc _ _).from _), by rw [hU]; exact (Below.refl _ W).alloc (by omega) _, ⟨cU, fU⟩, by rw [hU]; exact hB2.alloc hB2.size _, h5⟩
      have hng : ¬ (500 : Int) < ((totN (flat d t).length bs pre : Nat) : Int) := by omega
      generalize totN (flat d t).length bs pre = tp at *
      clear hsay hM e1 e2 e3 HV HSM HSU h5 hszB
      subst hU
      rw [hsl] at HEND
      gi_wp2
      exact HEND.out
    · obtain ⟨hsz1, hpos, hmore⟩ := HSU.out _ _ e2
      have e3 : totN (flat d t).length bs (pre ++ [x]) = totN (flat d t).length bs pre + ((flat u.1 u.2).length - 1) := by rw [totN_snoc, hmore]
      rw [e1] at hlk
      simp only [Option.getD_some, Option.isSome_some] at hlk
      obtain ⟨k3, n3, ad3, len3, cap3, rfl⟩ := tree_form hTu
      obtain ⟨U, hU⟩ : ∃ U, U = W.alloc (Obj.cells #[.int .i64 k3, .string n3, .slice ad3 len3 cap3] 31) := ⟨_, rfl⟩
      have hbU : Below W.heap.size W U := by rw [hU]; exact (Below.refl _ W).alloc (Nat.le_refl _) _
      have cU : U.cell? ⟨w1.heap.size, 0, none⟩ = some (.int .i64 (totN (flat d t).length bs pre)) := by rw [hU]; exact cell_kept hc (World.grownBy_alloc W _ none) (fun r e => by cases e)
      have fU : U.frozen? ⟨w1.heap.size, 0, none⟩ = false := by rw [hU]; exact (frozen_kept hc (World.grownBy_alloc W _ none) (fun r e => by cases e)).trans hf
      have xU : U.heap[W.heap.size]? = some (.cells #[.int .i64 k3, .string n3, .slice ad3 len3 cap3] 31 (0, 0)) := by
        rw [hU]
        show (W.heap.push _)[W.heap.size]? = _
        simp
      obtain ⟨a0, a1, a2⟩ := heap_cells xU
      have hltU : W.heap.size < U.heap.size := lt_of_heap xU
      have hltN : w1.heap.size < W.heap.size := World.block_lt_of_cell? W _ hc
      have hbUd : Below U.heap.size U U.drew := (Below.refl _ U).drew
      have C62 := nodesOf_any u.1 _ u.2 U.drew B (by show B ≤ U.heap.size; omega) ((hTu.on (hbU.mono (by omega))).on (hbUd.mono (by omega))) hsz1
      have KW : Hid (∀ w5, Below U.drew.heap.size U.drew w5 → (w5.cell? ⟨w1.heap.size, 0, none⟩ = some (.int .i64 (totN (flat d t).length bs pre)) ∧ w5.frozen? ⟨w1.heap.size, 0, none⟩ = false ∧ w5.cell? ⟨W.heap.size, 0, none⟩ = some (.int .i64 k3) ∧ w5.cell? ⟨W.heap.size, 1, none⟩ = some (.string n3) ∧ w5.cell? ⟨W.heap.size, 2, none⟩ = some (.slice ad3 len3 cap3)) ∧ ∀ v, KeepsFrom Wl.heap.size W (w5.setCell ⟨w1.heap.size, 0, none⟩ v) ∧ Below w.heap.size W (w5.setCell ⟨w1.heap.size, 0, none⟩ v) ∧ ((w5.setCell ⟨w1.heap.size, 0, none⟩ v).cell? ⟨w1.heap.size, 0, none⟩ = some v ∧ (w5.setCell ⟨w1.heap.size, 0, none⟩ v).frozen? ⟨w1.heap.size, 0, none⟩ = false) ∧ Below w1.heap.size w1 (w5.setCell ⟨w1.heap.size, 0, none⟩ v)) := fun w5 hb5 => by
        have b5 : Below W.heap.size W w5 := (hbU.trans (hbUd.mono (by omega))).trans (hb5.mono (by show W.heap.size ≤ U.heap.size; omega))
        have c5 : w5.cell? ⟨w1.heap.size, 0, none⟩ = some (.int .i64 (totN (flat d t).length bs pre)) := (b5.cell (p := ⟨w1.heap.size, 0, none⟩) hltN).trans hc
        have g5 : W.grownBy w5 none := ⟨b5.os, b5.tape, b5.output, b5.size, fun g hg _ => b5.block g hg⟩
        have f5 : w5.frozen? ⟨w1.heap.size, 0, none⟩ = false := (frozen_kept hc g5 (fun r e => by cases e)).trans hf
        obtain ⟨q0, q1, q2⟩ := heap_cells ((hb5.block _ hltU).trans xU)
        refine ⟨⟨c5, f5, q0, q1, q2⟩, fun v => ⟨?_, ?_, ⟨World.cell?_setCell_same' _ _ _ (by rw [c5]; rfl), by rw [World.frozen?_setCell]; exact f5⟩, ?_⟩⟩
        · exact ((KeepsOthers.of_grownBy g5 (fun j o e => by cases e)).trans (KeepsOthers.setCell _ _ _)).from _
        · exact (b5.mono (by omega)).setCell (p := ⟨w1.heap.size, 0, none⟩) (by show w.heap.size ≤ w1.heap.size; omega) _
        · exact (hB2.trans (b5.mono (by omega))).setCell (p := ⟨w1.heap.size, 0, none⟩) (Nat.le_refl _) _
      have hmx : Try.prog.follows .mixedOrders = true := by kernel_rfl
      have f62' : Fence.wide.fn 38 := trivial
      have HE3 : Hid (totN (flat d t).length bs (pre ++ [x]) = totN (flat d t).length bs pre + ((flat u.1 u.2).length - 1)) := e3
      have hcast : ((flat u.1 u.2).length : Int) - 1 = (((flat u.1 u.2).length - 1 : Nat) : Int) := by omega
      generalize totN (flat d t).length bs pre = tp at *
      obtain ⟨tq, htq⟩ : ∃ tq, tq = totN (flat d t).length bs (pre ++ [x]) := ⟨_, rfl⟩
      have HTQ : Hid (totN (flat d t).length bs (pre ++ [x]) = tq) := htq.symm
      rw [← htq] at HE3
      clear htq
      generalize (flat u.1 u.2).length = uu at *
      have hw2 : IntKind.i64.wrap ((tp : Int) + IntKind.i64.wrap ((uu - 1 : Nat) : Int)) = (tq : Int) := wrap_two tp uu tq HE3.out h5 hsz1
      clear hsay hM e1 e2 e3 HV HSM HSU hmore hTu hbUd xU
      rw [hsl] at KW
      gi_wp2
      rw [← hU]
      clear hU hlk hc hf
      gi_region_with_o (gi_at_call 38; refine (CallsIn.inRound l (callsIn_wide.2 C62)).mono ?_; rintro e w5 ⟨rfl, hb5⟩; obtain ⟨⟨c5, f5, q0, q1, q2⟩, KV⟩ := KW.out w5 hb5)
      all_goals
        obtain ⟨k1, k2, k3, k4⟩ := KV (.int .i64 tq)
        by_cases hgt : 500 < tq
        · have hgt' : (500 : Int) < (tq : Int) := by omega
          obtain ⟨k31, k32⟩ := k3
          have hrc := HRC.out _ k4
          have hrf := HRF.out _ k4
          have HK : Hid (KeepsFrom (w1.heap.size + 2) W (w5.setCell ⟨w1.heap.size, 0, none⟩ (.int .i64 tq)) ∧ Below w.heap.size w (w5.setCell ⟨w1.heap.size, 0, none⟩ (.int .i64 tq)) ∧ (w5.setCell ⟨w1.heap.size, 0, none⟩ (.int .i64 tq)).cell? ⟨w.heap.size + 1 + 1, 0, none⟩ = some (.bool false)) := ⟨k1, hB1.trans (k4.mono hszz), hrc⟩
          clear k1 k2 k4
          gi_wp2
          obtain ⟨m1, m2, m3⟩ := HK.out
          exact ⟨by rw [hsl]; exact m1.trans ((KeepsOthers.setCell _ _ _).from _), ⟨rfl, Nat.lt_of_lt_of_le hgt (Nat.le_of_eq HTQ.out.symm)⟩, World.cell?_setCell_same' _ _ _ (by rw [m3]; rfl), m2.setCell (p := ⟨w.heap.size + 1 + 1, 0, none⟩) (by show w.heap.size ≤ w.heap.size + 1 + 1; omega) _⟩
        · have hgt' : ¬ (500 : Int) < (tq : Int) := by omega
          have HK : Hid (KeepsFrom (w1.heap.size + 2) W (w5.setCell ⟨w1.heap.size, 0, none⟩ (.int .i64 tq)) ∧ Below w.heap.size W (w5.setCell ⟨w1.heap.size, 0, none⟩ (.int .i64 tq)) ∧ ((w5.setCell ⟨w1.heap.size, 0, none⟩ (.int .i64 tq)).cell? ⟨w1.heap.size, 0, none⟩ = some (.int .i64 tq) ∧ (w5.setCell ⟨w1.heap.size, 0, none⟩ (.int .i64 tq)).frozen? ⟨w1.heap.size, 0, none⟩ = false) ∧ Below w1.heap.size w1 (w5.setCell ⟨w1.heap.size, 0, none⟩ (.int .i64 tq))) := ⟨k1, k2, k3, k4⟩
          obtain ⟨k31, k32⟩ := k3
          clear k1 k2 k4
          gi_wp2
          obtain ⟨m1, m2, m3, m4⟩ := HK.out
          exact ⟨m1, m2, ⟨m3.1.trans (by rw [HTQ.out]), m3.2⟩, m4, Nat.le_trans (Nat.le_of_eq HTQ.out) (by omega)⟩
  case done =>
    rintro D _ W hD rfl ⟨⟨hc, hf⟩, hB2, h5⟩ hK
    have HNO : Hid (decide (500 < (flat d t).length + ((namesT d t).map (moreN bs)).sum) = false) := by have := HSA.out; exact decide_eq_false (by omega)
    have hrc := HRC.out _ hB2
    have hrf := HRF.out _ hB2
    have hDW := lt_of_heap hK
    have HB2 : Hid (Below w1.heap.size w1 W ∧ Below w.heap.size w w1) := ⟨hB2, hB1⟩
    clear HSM HSU HV hc hf h5 hB2 hTl
    gi_wp2
    obtain ⟨V, hV⟩ : ∃ V, V = W.setCell ⟨w.heap.size + 1 + 1, 0, none⟩ (.bool false) := ⟨_, rfl⟩
    rw [← hV]
    have hkV : V.heap[D]? = some (.deferred (some [])) := by rw [hV]; exact (KeepsOthers.setCell _ _ _).same D _ hK rfl
    have ho2 : ∀ g, g ≠ D → (V.putObj D (.deferred none)).heap[g]? = V.heap[g]? := fun g hne => World.putObj_heap_other hne
    have hvc : (V.putObj D (.deferred none)).cell? ⟨w.heap.size + 1 + 1, 0, none⟩ = some (.bool false) := by
      rw [World.cell?_of_block (ho2 (w.heap.size + 1 + 1) (by omega)), hV]
      exact World.cell?_setCell_same' _ _ _ (by rw [hrc]; rfl)
    have hbV : Below w.heap.size w V := by rw [hV]; exact (HB2.out.2.trans (HB2.out.1.mono hszz)).setCell (p := ⟨w.heap.size + 1 + 1, 0, none⟩) (by show w.heap.size ≤ w.heap.size + 1 + 1; omega) _
    refine ⟨by simp, .inl ⟨_, _, rfl, run_takeDeferred hkV, ?_⟩⟩
    refine ⟨.bool false, by simp [results, Try.results22, go_sem, hvc], by rw [HNO.out], ?_⟩
    exact hbV.trans (belowK_b (w := w) (Nat.le_refl _) V D _ _ (by omega) hkV rfl rfl)
  case stop =>
    rintro D c pre W hD hp ⟨⟨rfl, hgt⟩, hcr, hbV⟩ hK
    have HYES : Hid (decide (500 < (flat d t).length + ((namesT d t).map (moreN bs)).sum) = true) := by have := HSM.out pre hp; exact decide_eq_true (by omega)
    have ho2 : ∀ g, g ≠ D → (W.putObj D (.deferred none)).heap[g]? = W.heap[g]? := fun g hne => World.putObj_heap_other hne
    have hvc : (W.putObj D (.deferred none)).cell? ⟨w.heap.size + 1 + 1, 0, none⟩ = some (.bool true) := by
      rw [World.cell?_of_block (ho2 (w.heap.size + 1 + 1) (by omega))]
      exact hcr
    gi_wp2
    refine ⟨by simp, .inl ⟨_, _, rfl, run_takeDeferred hK, ?_⟩⟩
    refine ⟨.bool true, by simp [results, Try.results22, go_sem, hvc], by rw [HYES.out], ?_⟩
    exact hbV.trans (belowK_b (w := w) (Nat.le_refl _) W D _ _ (by omega) hK rfl rfl)
end Go.Proofs.Ytikpipenhamdbaa
