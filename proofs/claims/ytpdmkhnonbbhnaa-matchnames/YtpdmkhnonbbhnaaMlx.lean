/- tree. numbersOf: the numbers of the rows. -/
import Derived.Test.YtpdmkhnonbbhnaaTk
namespace Go.Proofs.Ytpdmkhnonbbhnaa
open Go.RowKit Go.Maps

structure TrIn (fs : List Fam) (fa : Option Addr) (fc b m n : Nat) (rv : Value) (w W1 : World) : Prop where
  kx : Kx m w W1
  size : W1.heap.size = w.heap.size + 2
  box : W1.heap[w.heap.size]? = some (.cells #[rv] 28 (0, 0))
  res : W1.heap[w.heap.size + 1]? = some (.cells #[.int .i64 0, .int .i64 0, .slice none 0 0, .slice none 0 0, .slice none 0 0] 32 (0, 0))
  mblk : W1.heap[m]? = some (.cells #[.slice fa fs.length fc, .map (some b), .int .i64 (n + 1 : Nat)] 65 (0, 0))
theorem tree_in {fs : List Fam} {fa : Option Addr} {fc b m n : Nat} {rv : Value} {w A : World} (hA : A = (w.alloc (.cells #[rv] 28)).alloc (.cells #[.int .i64 0, .int .i64 0, .slice none 0 0, .slice none 0 0, .slice none 0 0] 32)) (h : w.heap[m]? = some (.cells #[.slice fa fs.length fc, .map (some b), .int .i64 n] 65 (0, 0))) :
    A.heap[m]? = some (.cells #[.slice fa fs.length fc, .map (some b), .int .i64 n] 65 (0, 0)) ∧ TrIn fs fa fc b m n rv w (A.setCell ⟨m, 2, none⟩ (.int .i64 (n + 1 : Nat))) := by
  have hml := lt_of_heap h
  have hb : Below w.heap.size w A := by
    rw [hA]
    exact ((Below.refl _ _).alloc (Nat.le_refl _) _).alloc (by simp) _
  have hm := (hb.block m hml).trans h
  have hs : A.heap.size = w.heap.size + 2 := by rw [hA]; simp
  have hx : A.heap[w.heap.size]? = some (.cells #[rv] 28 (0, 0)) := by
    rw [hA]
    exact (Below.heap_alloc _ _ _ (by simp)).trans (new_block w _)
  have hr : A.heap[w.heap.size + 1]? = some (.cells #[.int .i64 0, .int .i64 0, .slice none 0 0, .slice none 0 0, .slice none 0 0] 32 (0, 0)) := by
    have := new_block (w.alloc (.cells #[rv] 28)) (.cells #[.int .i64 0, .int .i64 0, .slice none 0 0, .slice none 0 0, .slice none 0 0] 32)
    rw [← hA] at this
    simpa using this
  refine ⟨hm, (Kx.of hb).setCell 2 _, by simp [World.setCell, hs], ?_, ?_, ?_⟩
  · rw [Below.heap_setCell _ _ _ _ (show w.heap.size ≠ m by omega)]
    exact hx
  · rw [Below.heap_setCell _ _ _ _ (show w.heap.size + 1 ≠ m by omega)]
    exact hr
  · exact setCell_block hm
/-- The end of tree: what it says is stored. -/
theorem tree_end {k : Kn} {fs : List Fam} {fa : Option Addr} {fc b m f n : Nat} {cols : List Col} {rows : List Nat} {rv x : Value} {w W1 w2 U : World} (h : TrIn fs fa fc b m n rv w W1) (hml : m < w.heap.size) (hk : Kx m W1 w2) (hus : U.heap.size = w2.heap.size) (huk : ∀ y, y ≠ w.heap.size + 1 → U.heap[y]? = w2.heap[y]?) (huo : U.os = w2.os ∧ U.tape = w2.tape ∧ U.output = w2.output)
    (hm : w2.heap[m]? = some (.cells #[.slice fa fs.length fc, .map (some b), .int .i64 (treeP k fs f n cols rows).2] 65 (0, 0))) (hc : (5000 ≤ n → (treeP k fs f n cols rows).2 = n + 1) ∧ (n < 5000 → (treeP k fs f n cols rows).2 ≤ 5001 + 201 * f)) (ht : TrV w2 (fun y => W1.heap.size ≤ y ∧ y < w2.heap.size) f x (treeP k fs f n cols rows).1) :
    Kx m w U ∧ U.heap[m]? = some (.cells #[.slice fa fs.length fc, .map (some b), .int .i64 (treeP k fs f n cols rows).2] 65 (0, 0)) ∧ ((5000 ≤ n → (treeP k fs f n cols rows).2 = n + 1) ∧ (n < 5000 → (treeP k fs f n cols rows).2 ≤ 5001 + 201 * f)) ∧
    ∃ x', Ending.returned x = .returned x' ∧ TrV U (fun b => w.heap.size ≤ b ∧ b < U.heap.size) f x' (treeP k fs f n cols rows).1 := by
  have h1 := h.kx.trans hk
  have hs := h.size
  refine ⟨⟨huo.1.trans h1.os, huo.2.1.trans h1.tape, huo.2.2.trans h1.output, by rw [hus]; exact h1.size, fun y hy hym => (huk y (by omega)).trans (h1.block y hy hym)⟩, (huk m (by omega)).trans hm, hc, x, rfl, ?_⟩
  exact TrV.below (fun y hy => huk y (by omega)) (fun y hy => ⟨by omega, by omega⟩) f _ _ ht
set_option maxHeartbeats 8000000 in
set_option maxRecDepth 10000 in
theorem tree_step {k : Kn} {fs : List Fam} {fa : Option Addr} {fc b m f : Nat} (hK : KnOk k fs) (hT : ∀ f', f = f' + 1 → TreeC k fs fa fc b m f') : TreeC k fs fa fc b m f := by
  intro n cols rows cv rv S w h
  have hml := lt_of_heap h.blk
  obtain ⟨ra, rc, rfl, hrow⟩ := RowP.open h.hrows
  have HROW : Hid (rows ≠ [] → ∃ g o, ra = some ⟨g, o, none⟩ ∧ rows.length ≤ rc ∧ ∀ j (h : j < rows.length), S g ∧ w.cell? ⟨g, o + j * 1, none⟩ = some (.int .i64 rows[j])) := hrow
  clear hrow
  have hA : ∃ A, A = (w.alloc (.cells #[.slice ra rows.length rc] 28)).alloc (.cells #[.int .i64 0, .int .i64 0, .slice none 0 0, .slice none 0 0, .slice none 0 0] 32) := ⟨_, rfl⟩
  obtain ⟨A, hA⟩ := hA
  obtain ⟨hAm, hin⟩ := tree_in hA h.blk
  have m2 := heap_cell hAm (i := 2) rfl
  have f2 := heap_frozen (o := 2) hAm
  have hnb := h.cnt
  have hw1 : IntKind.i64.wrap ((n : Int) + 1) = ((n + 1 : Nat) : Int) := by rw [IntKind.wrap_i64]; omega
  obtain ⟨W1, hW1⟩ : ∃ W1, W1 = A.setCell ⟨m, 2, none⟩ (.int .i64 ((n : Int) + 1)) := ⟨_, rfl⟩
  rw [show (((n + 1 : Nat)) : Int) = (n : Int) + 1 from rfl, ← hW1] at hin
  have HI : Hid (TreeIn k fs fa fc b m f n cols rows cv (.slice ra rows.length rc) S w) := h
  have HX : Hid (TrIn fs fa fc b m n (.slice ra rows.length rc) w W1) := hin
  have HML : Hid (m < w.heap.size) := hml
  clear hAm hin hml h
  go_enter Try.func20, Try.ntmps20
  go_upto_region 1 with fail
  rw [← hA]
  clear hA
  go_upto_region 2 with fail
  rw [← hW1]
  clear hW1
  have n2 : W1.cell? ⟨m, 2, none⟩ = some (.int .i64 ((n : Int) + 1)) := heap_cell HX.out.mblk (i := 2) rfl
  have b0 := heap_cell HX.out.box (i := 0) rfl
  clear m2 f2
  have hR5 := HX.out.res
  have s0 := heap_cell hR5 (i := 0) rfl
  have s1 := heap_cell hR5 (i := 1) rfl
  have s2 := heap_cell hR5 (i := 2) rfl
  have s3 := heap_cell hR5 (i := 3) rfl
  have s4 := heap_cell hR5 (i := 4) rfl
  have z0 := heap_frozen (o := 0) hR5
  have z1 := heap_frozen (o := 1) hR5
  have z2 := heap_frozen (o := 2) hR5
  have z3 := heap_frozen (o := 3) hR5
  have z4 := heap_frozen (o := 4) hR5
  have HST : Hid (∀ v0 v1 v2 v3 v4, _) := fun v0 v1 v2 v3 v4 => store5 hR5 v0 v1 v2 v3 v4
  have HSQ : Hid (∀ q v0 v1 v2 v3 v4, _) := fun q v0 v1 v2 v3 v4 => store5 (w := W1.drewN q) hR5 v0 v1 v2 v3 v4
  clear hR5
  by_cases hn : 5000 ≤ n
  · have c1 : (5000 : Int) < (n : Int) + 1 := by omega
    obtain ⟨U, hU, hUR, hUs, hUk, hUo⟩ := HST.out (.int .i64 0) (.int .i64 0) (.slice none 0 0) (.slice none 0 0) (.slice none 0 0)
    have HU : Hid (U.heap.size = W1.heap.size ∧ (∀ x, x ≠ w.heap.size + 1 → U.heap[x]? = W1.heap[x]?) ∧ U.os = W1.os ∧ U.tape = W1.tape ∧ U.output = W1.output) := ⟨hUs, hUk, hUo⟩
    clear hUs hUk hUo
    go_wp2
    rw [← hU]
    have u0 := heap_cell hUR (i := 0) rfl
    have u1 := heap_cell hUR (i := 1) rfl
    have u2 := heap_cell hUR (i := 2) rfl
    have u3 := heap_cell hUR (i := 3) rfl
    have u4 := heap_cell hUR (i := 4) rfl
    refine bodyPost_ret (v := .agg #[.int .i64 0, .int .i64 0, .slice none 0 0, .slice none 0 0, .slice none 0 0]) (by simp [results, Try.results20, go_sem, u0, u1, u2, u3, u4]) rfl ?_
    have hE := HU.out
    have e := treeP_big k fs f n cols rows hn
    exact tree_end HX.out HML.out (Kx.refl _ _) hE.1 hE.2.1 hE.2.2 (by rw [e]; exact HX.out.mblk) ⟨fun _ => by rw [e], fun h => by omega⟩ (by rw [e]; exact trZero_at _ _ _)
  · have c1 : ¬ (5000 : Int) < (n : Int) + 1 := by omega
    have hfu := HI.out.fuel
    obtain ⟨f, rfl⟩ : ∃ f', f = f' + 1 := ⟨f - 1, by omega⟩
    have hT := hT f rfl
    have HN : Hid (n < 5000) := Nat.lt_of_not_le hn
    clear hn
    rcases (show rows = [] ∨ ∃ r rows', rows = r :: rows' by cases rows with | nil => exact .inl rfl | cons r l => exact .inr ⟨r, l, rfl⟩) with rfl | ⟨r, rows', hrw⟩
    · skip
      obtain ⟨U, hU, hUR, hUs, hUk, hUo⟩ := HST.out (.int .i64 1) (.int .i64 0) (.slice none 0 0) (.slice none 0 0) (.slice none 0 0)
      have HU : Hid (U.heap.size = W1.heap.size ∧ (∀ x, x ≠ w.heap.size + 1 → U.heap[x]? = W1.heap[x]?) ∧ U.os = W1.os ∧ U.tape = W1.tape ∧ U.output = W1.output) := ⟨hUs, hUk, hUo⟩
      clear hUs hUk hUo
      simp only [List.length_nil] at b0 ⊢
      go_wp2
      rw [← hU]
      have u0 := heap_cell hUR (i := 0) rfl
      have u1 := heap_cell hUR (i := 1) rfl
      have u2 := heap_cell hUR (i := 2) rfl
      have u3 := heap_cell hUR (i := 3) rfl
      have u4 := heap_cell hUR (i := 4) rfl
      refine bodyPost_ret (v := .agg #[.int .i64 1, .int .i64 0, .slice none 0 0, .slice none 0 0, .slice none 0 0]) (by simp [results, Try.results20, go_sem, u0, u1, u2, u3, u4]) rfl ?_
      have hE := HU.out
      have hn := HN.out
      have e := treeP_none k fs f n cols hn
      exact tree_end (x := .agg #[.int .i64 1, .int .i64 0, .slice none 0 0, .slice none 0 0, .slice none 0 0]) HX.out HML.out (Kx.refl _ _) hE.1 hE.2.1 hE.2.2 (by rw [e]; exact HX.out.mblk) ⟨fun h => by omega, fun h => by rw [e]; show n + 1 ≤ _; omega⟩ (by rw [e]; exact ⟨none, 0, none, 0, none, 0, rfl, .inl ⟨rfl, _, _, rfl⟩, .inl ⟨rfl, _, _, rfl⟩, .inl ⟨rfl, _, _, rfl⟩⟩)
    · have hrl : 0 < rows.length := by rw [hrw]; simp
      obtain ⟨rg, ro, hra, hrc, hr0⟩ := HROW.out (fun e => by rw [e] at hrl; simp at hrl)
      subst hra
      have hr0 := hr0 0 hrl
      have hre : rows[0] = r := by simp only [hrw, List.getElem_cons_zero]
      have hrS := hr0.1
      have hr1 := hr0.2
      rw [Nat.zero_mul, Nat.add_zero, hre] at hr1
      have hrg : rg < w.heap.size ∧ rg ≠ m := HI.out.set rg hrS
      have hlow : r < 200 := HI.out.low r (by rw [hrw]; simp)
      have hkS : Keeps S w W1 := fun x hx => HX.out.kx.block x (HI.out.set x hx).1 (HI.out.set x hx).2
      have hr2 := (hkS.cell (p := ⟨rg, ro, none⟩) hrS).trans hr1
      have hnum := HI.out.num
      have CI := index_any (w := W1) cv cols w.heap.size rg ro rows.length rc r (HI.out.hcols.on hkS) b0 hr2 hrl hlow (by omega)
      have hl1 : (0 : Int) < (rows.length : Int) := by omega
      have hl0 : ¬ ((rows.length : Int) = 0) := by omega
      have HKS : Hid (Keeps S w W1) := hkS
      clear hr0 hr1 hrg hkS
      cases hfi : cols.findIdx? (hasRow r) with
      | none =>
        rw [hfi] at CI
        simp only [idx] at CI
        go_upto_region 7 with (first | (go_at_call 33; (with_reducible refine Calls.mono CI ?_); rintro e' w2 ⟨rfl, q, rfl⟩))
        obtain ⟨U, hU, hUR, hUs, hUk, hUo⟩ := HSQ.out q (.int .i64 2) (.int .i64 r) (.slice none 0 0) (.slice none 0 0) (.slice none 0 0)
        have HU : Hid (U.heap.size = W1.heap.size ∧ (∀ x, x ≠ w.heap.size + 1 → U.heap[x]? = W1.heap[x]?) ∧ U.os = W1.os ∧ U.tape = W1.tape ∧ U.output = W1.output) := ⟨hUs, hUk, hUo⟩
        clear hUs hUk hUo
        go_wp2
        rw [← hU]
        have u0 := heap_cell hUR (i := 0) rfl
        have u1 := heap_cell hUR (i := 1) rfl
        have u2 := heap_cell hUR (i := 2) rfl
        have u3 := heap_cell hUR (i := 3) rfl
        have u4 := heap_cell hUR (i := 4) rfl
        refine bodyPost_ret (v := .agg #[.int .i64 2, .int .i64 r, .slice none 0 0, .slice none 0 0, .slice none 0 0]) (by simp [results, Try.results20, go_sem, u0, u1, u2, u3, u4]) rfl ?_
        have hE := HU.out
        have hn := HN.out
        have e := treeP_row k fs f n cols r rows' hn hfi
        rw [← hrw] at e
        exact tree_end (x := .agg #[.int .i64 2, .int .i64 r, .slice none 0 0, .slice none 0 0, .slice none 0 0]) HX.out HML.out (Kx.refl _ _) hE.1 hE.2.1 hE.2.2 (by rw [e]; exact HX.out.mblk) ⟨fun h => by omega, fun h => by rw [e]; show n + 1 ≤ _; omega⟩ (by rw [e]; exact ⟨none, 0, none, 0, none, 0, rfl, .inl ⟨rfl, _, _, rfl⟩, .inl ⟨rfl, _, _, rfl⟩, .inl ⟨rfl, _, _, rfl⟩⟩)
      | some ax =>
        have hfx := List.findIdx?_eq_some_iff_getElem.1 hfi
        obtain ⟨ha, hhas, -⟩ := hfx
        have hne : ofRows cols[ax].2.2 rows ≠ [] := fun e => by
          unfold hasRow at hhas
          rw [List.any_eq_true] at hhas
          obtain ⟨s, hs, hs2⟩ := hhas
          have : s ∈ ofRows cols[ax].2.2 rows := by
            unfold ofRows
            rw [List.mem_filter]
            refine ⟨hs, ?_⟩
            have : s.1 = r := by simpa using hs2
            rw [this, hrw]
            simp
          rw [e] at this
          simp at this
        have CB : ∀ q, Calls Try.prog 35 #[.pointer (some ⟨m, 0, none⟩), cv, .int .i64 ax, .slice (some ⟨rg, ro, none⟩) rows.length rc] (W1.drewN q) fun r w' => ∃ x0 x1 pa pl pc ca cl cc ea el ec, r = .returned (.agg #[.int .i64 x0, .int .i64 x1, .slice pa pl pc, .slice ca cl cc, .slice ea el ec]) ∧ Hid (Kx m W1 w' ∧ w'.heap[m]? = some (.cells #[.slice fa fs.length fc, .map (some b), .int .i64 (treeP k fs (f + 1) n cols rows).2] 65 (0, 0)) ∧ (treeP k fs (f + 1) n cols rows).2 ≤ 5001 + 201 * (f + 1) ∧ TrV w' (fun y => W1.heap.size ≤ y ∧ y < w'.heap.size) (f + 1) (.agg #[.int .i64 x0, .int .i64 x1, .slice pa pl pc, .slice ca cl cc, .slice ea el ec]) (treeP k fs (f + 1) n cols rows).1) := fun q => by
          have hI := HI.out
          have hn := HN.out
          have hkq : Keeps S w (W1.drewN q) := HKS.out
          have e := treeP_branch k fs f n cols r rows' ax ha hn hfi
          rw [← hrw] at e
          refine (branch_any hK hT (n := n + 1) (S := S) (w := W1.drewN q) ⟨by omega, HX.out.mblk, fun x hx => ⟨Nat.lt_of_lt_of_le (hI.set x hx).1 HX.out.kx.size, (hI.set x hx).2⟩, hI.map.on (HX.out.kx.block b (Mv.lt hI.map) hI.mapne), hI.mapne, hI.fams.on hkq, hI.hcols.on hkq, hI.hrows.on hkq, fun c hc => (hI.good c hc).up (by omega), by have := hI.num; omega, hI.rise, hI.low⟩ ax ha hne).mono fun r w' h => ?_
          obtain ⟨e1, e2, e3, x, rfl, e4⟩ := h
          rw [← e] at e2 e3 e4
          obtain ⟨x0, x1, pa, pl, pc, ca, cl, cc', ea, el, ec, rfl⟩ := e4.parts
          exact ⟨x0, x1, pa, pl, pc, ca, cl, cc', ea, el, ec, rfl, ⟨e1.os, e1.tape, e1.output, e1.size, e1.block⟩, e2, e3, e4⟩
        rw [hfi] at CI
        simp only [idx] at CI
        have i1 : ((ax : Int) < 0) = False := by simp
        have HRW : Hid (rows = r :: rows') := hrw
        have HHA : Hid (ax < cols.length) := ha
        clear hrw hfi hhas hne hre ha
        have HCB : Hid (∀ q, _) := CB
        clear CB
        go_upto_region 7 with (first | (go_at_call 33; (with_reducible refine Calls.mono CI ?_); rintro e' w2 ⟨rfl, q, rfl⟩))
        go_upto_region 9 with fail
        have CB := HCB.out
        have CB1 := CB q
        clear CB CI
        have HRS : Hid (W1.heap[w.heap.size + 1]? = some (.cells #[.int .i64 0, .int .i64 0, .slice none 0 0, .slice none 0 0, .slice none 0 0] 32 (0, 0))) := HX.out.res
        clear s0 s1 s2 s3 s4 z0 z1 z2 z3 z4 HST HSQ
        go_wp2_with (first | (go_at_call 35; (with_reducible refine Calls.mono CB1 ?_); rintro e' w3 ⟨x0, x1, pa, pl, pc, ca, cl, cc', ea, el, ec, rfl, HB3⟩; have hR3 := (HB3.out.1.block (w.heap.size + 1) (by have := HX.out.size; omega) (by have := HML.out; omega)).trans HRS.out; have s0 := heap_cell hR3 (i := 0) rfl; have s1 := heap_cell hR3 (i := 1) rfl; have s2 := heap_cell hR3 (i := 2) rfl; have s3 := heap_cell hR3 (i := 3) rfl; have s4 := heap_cell hR3 (i := 4) rfl; have z0 := heap_frozen (o := 0) hR3; have z1 := heap_frozen (o := 1) hR3; have z2 := heap_frozen (o := 2) hR3; have z3 := heap_frozen (o := 3) hR3; have z4 := heap_frozen (o := 4) hR3))
        obtain ⟨U, hU, hUR, hUs, hUk, hUo⟩ := store5 hR3 (.int .i64 x0) (.int .i64 x1) (.slice pa pl pc) (.slice ca cl cc') (.slice ea el ec)
        rw [← hU]
        have u0 := heap_cell hUR (i := 0) rfl
        have u1 := heap_cell hUR (i := 1) rfl
        have u2 := heap_cell hUR (i := 2) rfl
        have u3 := heap_cell hUR (i := 3) rfl
        have u4 := heap_cell hUR (i := 4) rfl
        refine bodyPost_ret (v := .agg #[.int .i64 x0, .int .i64 x1, .slice pa pl pc, .slice ca cl cc', .slice ea el ec]) (by simp [results, Try.results20, go_sem, u0, u1, u2, u3, u4]) rfl ?_
        have hn := HN.out
        have h3 := HB3.out
        exact tree_end HX.out HML.out h3.1 hUs hUk hUo h3.2.1 ⟨fun h => by omega, fun _ => h3.2.2.1⟩ h3.2.2.2
/-- tree, whatever the fuel. -/
theorem tree_any {k : Kn} {fs : List Fam} {fa : Option Addr} {fc b m : Nat} (hK : KnOk k fs) : ∀ f, TreeC k fs fa fc b m f
  | 0 => tree_step hK fun _ h => by omega
  | f + 1 => tree_step hK fun f' h => by
    obtain rfl : f' = f := by omega
    exact tree_any hK f'
end Go.Proofs.Ytpdmkhnonbbhnaa

namespace Go.Proofs.Ytpdmkhnonbbhnaa
open Go.RowKit Go.Maps

theorem make_ints (w : World) (n : Nat) (hn : n ≤ 1000) : ∃ c, (Instr.makeSlice 28 (.int .i64 n) (.int .i64 n)).run Try.prog w = .ok (.slice (some ⟨w.heap.size, 0, none⟩) n n) (w.alloc (.cells c 3)) ∧ c.size = n := by
  obtain ⟨i0, hi, hz0, hz1, hz2⟩ := info_parts Try.info3
  have := run_makeSlice (P := Try.prog) w 28 3 i0 _ Try.underlying28 hi hz0 .i64 .i64 n n (by omega) (Int.le_refl _) (by rw [hz1]; simp; omega) (by rw [hz2]; omega) (by omega)
  refine ⟨_, by simpa using this, ?_⟩
  simp [madeCells, hz1]
structure Nw (n Lb : Nat) (W : World) (i : Nat) (cur : Array Value) (wr : World) : Prop where
  below : Below Lb W wr
  blk : wr.heap[Lb]? = some (.cells cur 3 (0, 0))
  size : cur.size = n
  row : ∀ j, j < i → j < n → cur[j]? = some (.int .i64 j)
theorem Nw.put {n Lb : Nat} {W : World} {i : Nat} {cur : Array Value} {wr : World} (h : Nw n Lb W i cur wr) (hi : i < n) : Nw n Lb W (i + 1) (cur.setIfInBounds i (.int .i64 i)) (wr.setCell ⟨Lb, i, none⟩ (.int .i64 i)) := by
  refine ⟨h.below.setCell (p := ⟨Lb, i, none⟩) (Nat.le_refl _) _, setCell_block h.blk, by simpa using h.size, fun j hj hn => ?_⟩
  have hs := h.size
  by_cases e : j = i
  · subst e
    rw [Array.getElem?_setIfInBounds, if_pos rfl, if_pos (by omega)]
  · rw [Array.getElem?_setIfInBounds, if_neg (by omega)]
    exact h.row j (by omega) hn
set_option maxHeartbeats 4000000 in
set_option maxRecDepth 10000 in
theorem numbers_any {w : World} (ad : Option Addr) (n cap : Nat) (hn : n ≤ 200) : Calls Try.prog 21 #[.slice ad n cap] w fun r w' => Below w.heap.size w w' ∧ ∃ v, r = .returned v ∧ Nats w' (fun b => w.heap.size ≤ b ∧ b < w'.heap.size) v (List.range n) := by
  obtain ⟨c0, hmk, hc0⟩ := make_ints w n (by omega)
  have HX : Hid (Nw n w.heap.size (w.alloc (.cells c0 3)) 0 c0 (w.alloc (.cells c0 3))) := ⟨Below.refl _ _, new_block w _, hc0, fun j h => by omega⟩
  have HX2 : Hid (Below w.heap.size w (w.alloc (.cells c0 3))) := (Below.refl w.heap.size w).alloc (Nat.le_refl _) _
  generalize hW2 : w.alloc (.cells c0 3) = W2 at *
  clear hW2 hc0
  go_enter Try.func21, Try.ntmps21
  go_wp2
  go_loopw [10] (fun iv wr => ∃ (i : Nat) (cur : Array Value), i ≤ n ∧ iv = .int .i64 i ∧ Hid (Nw n w.heap.size W2 i cur wr)) (fun iv _ => n - (intOf iv).toNat)
  case atStart => exact ⟨0, c0, by omega, by go_num, HX.out⟩
  case round =>
    obtain ⟨i, cur, hi, rfl, HT⟩ := hrel
    by_cases hil : i < n
    · have i1 : (0 : Int) ≤ (i : Int) := by omega
      have i2 : (i : Int) < (n : Int) := by omega
      have hcs := HT.out.size
      have y0 := heap_cell HT.out.blk (Array.getElem?_eq_getElem (show i < cur.size by omega))
      have z0 := heap_frozen (o := i) HT.out.blk
      generalize cur[i] = cv0 at y0
      clear hcs
      go_wp2
      go_roundw
      case rel => exact ⟨i + 1, _, hil, by go_num, HT.out.put hil⟩
      case measure => simp [intOf]; omega
    · obtain rfl : i = n := by omega
      go_wp2
      go_ret
      have hb := HX2.out.trans HT.out.below
      refine ⟨hb, _, rfl, ?_⟩
      by_cases h0 : i = 0
      · subst h0
        exact .inl ⟨rfl, _, _, rfl⟩
      · refine .inr ⟨w.heap.size, 0, i, by rw [List.length_range]; rfl, by simpa using h0, by simp, fun j hj => ?_⟩
        have hj' : j < i := by simpa using hj
        refine ⟨⟨Nat.le_refl _, lt_of_heap HT.out.blk⟩, ?_⟩
        rw [List.getElem_range, Nat.zero_add, Nat.mul_one]
        exact heap_cell HT.out.blk (HT.out.row j hj' hj')
end Go.Proofs.Ytpdmkhnonbbhnaa
