/- tree. nestOf: how many levels a tree has. What is known of the tree of rows: not too many cases, its rows are of the rows given. numbersOf: the numbers of the rows. -/
import Derived.Test.YtpdmkhnonbbhnaaTk
namespace Go.Proofs.Ytpdmkhnonbbhnaa
open Go.RowKit Go.Maps

structure TrIn (fs : List Fam) (fa : Option Addr) (fc b m n : Nat) (rv : Value) (w W1 : World) : Prop where
  kx : Kx m w W1
  size : W1.heap.size = w.heap.size + 2
  box : W1.heap[w.heap.size]? = some (.cells #[rv] 28 (0, 0))
  res : W1.heap[w.heap.size + 1]? = some (.cells #[.int .i64 0, .int .i64 0, .slice none 0 0, .slice none 0 0, .slice none 0 0] 32 (0, 0))
  mblk : W1.heap[m]? = some (.cells #[.slice fa fs.length fc, .map (some b), .int .i64 (n + 1 : Nat)] 65 (0, 0))
theorem tree_in {fs : List Fam} {fa : Option Addr} {fc b m n : Nat} {rv : Value} {w A : World} (hA : A = (w.alloc (.cells #[rv] 28)).alloc (.cells #[.int .i64 0, .int .i64 0, .slice none 0 0, .slice none 0 0, .slice none 0 0] 32)) (h : w.heap[m]? = some (.cells #[.slice fa fs.length fc, .map (some b), .int .i64 n] 65 (0, 0))) :
    A.heap[m]? = some (.cells #[.slice fa fs.length fc, .map (some b), .int .i64 n] 65 (0, 0)) ∧ TrIn fs fa fc b m n rv w (A.setCell ⟨m, 2, none⟩ (.int .i64 (n + 1 : Nat))) := by
  have hml := lt_of_heap h
  have hb : Below w.heap.size w A := by
    rw [hA]
    exact ((Below.refl _ _).alloc (Nat.le_refl _) _).alloc (by simp) _
  have hm := (hb.block m hml).trans h
  have hs : A.heap.size = w.heap.size + 2 := by rw [hA]; simp
  have hx : A.heap[w.heap.size]? = some (.cells #[rv] 28 (0, 0)) := by
    rw [hA]
    exact (Below.heap_alloc _ _ _ (by simp)).trans (new_block w _)
  have hr : A.heap[w.heap.size + 1]? = some (.cells #[.int .i64 0, .int .i64 0, .slice none 0 0, .slice none 0 0, .slice none 0 0] 32 (0, 0)) := by
    have := new_block (w.alloc (.cells #[rv] 28)) (.cells #[.int .i64 0, .int .i64 0, .slice none 0 0, .slice none 0 0, .slice none 0 0] 32)
    rw [← hA] at this
    simpa using this
  refine ⟨hm, (Kx.of hb).setCell 2 _, by simp [World.setCell, hs], ?_, ?_, ?_⟩
  · rw [Below.heap_setCell _ _ _ _ (show w.heap.size ≠ m by omega)]
    exact hx
  · rw [Below.heap_setCell _ _ _ _ (show w.heap.size + 1 ≠ m by omega)]
    exact hr
  · exact setCell_block hm
/-- The end of tree: what it says is stored. -/
theorem tree_end {k : Kn} {fs : List Fam} {fa : Option Addr} {fc b m f n : Nat} {cols : List Col} {rows : List Nat} {rv x : Value} {w W1 w2 U : World} (h : TrIn fs fa fc b m n rv w W1) (hml : m < w.heap.size) (hk : Kx m W1 w2) (hus : U.heap.size = w2.heap.size) (huk : ∀ y, y ≠ w.heap.size + 1 → U.heap[y]? = w2.heap[y]?) (huo : U.os = w2.os ∧ U.tape = w2.tape ∧ U.output = w2.output)
    (hm : w2.heap[m]? = some (.cells #[.slice fa fs.length fc, .map (some b), .int .i64 (treeP k fs f n cols rows).2] 65 (0, 0))) (hc : (5000 ≤ n → (treeP k fs f n cols rows).2 = n + 1) ∧ (n < 5000 → (treeP k fs f n cols rows).2 ≤ 5001 + 201 * f)) (ht : TrV w2 (fun y => W1.heap.size ≤ y ∧ y < w2.heap.size) f x (treeP k fs f n cols rows).1) :
    Kx m w U ∧ U.heap[m]? = some (.cells #[.slice fa fs.length fc, .map (some b), .int .i64 (treeP k fs f n cols rows).2] 65 (0, 0)) ∧ ((5000 ≤ n → (treeP k fs f n cols rows).2 = n + 1) ∧ (n < 5000 → (treeP k fs f n cols rows).2 ≤ 5001 + 201 * f)) ∧
    ∃ x', Ending.returned x = .returned x' ∧ TrV U (fun b => w.heap.size ≤ b ∧ b < U.heap.size) f x' (treeP k fs f n cols rows).1 := by
  have h1 := h.kx.trans hk
  have hs := h.size
  refine ⟨⟨huo.1.trans h1.os, huo.2.1.trans h1.tape, huo.2.2.trans h1.output, by rw [hus]; exact h1.size, fun y hy hym => (huk y (by omega)).trans (h1.block y hy hym)⟩, (huk m (by omega)).trans hm, hc, x, rfl, ?_⟩
  exact TrV.below (fun y hy => huk y (by omega)) (fun y hy => ⟨by omega, by omega⟩) f _ _ ht
set_option maxHeartbeats 8000000 in
set_option maxRecDepth 10000 in
theorem tree_step {k : Kn} {fs : List Fam} {fa : Option Addr} {fc b m f : Nat} (hK : KnOk k fs) (hT : ∀ f', f = f' + 1 → TreeC k fs fa fc b m f') : TreeC k fs fa fc b m f := by
  intro n cols rows cv rv S w h
  have hml := lt_of_heap h.blk
  obtain ⟨ra, rc, rfl, hrow⟩ := RowP.open h.hrows
  have HROW : Hid (rows ≠ [] → ∃ g o, ra = some ⟨g, o, none⟩ ∧ rows.length ≤ rc ∧ ∀ j (h : j < rows.length), S g ∧ w.cell? ⟨g, o + j * 1, none⟩ = some (.int .i64 rows[j])) := hrow
  clear hrow
  have hA : ∃ A, A = (w.alloc (.cells #[.slice ra rows.length rc] 28)).alloc (.cells #[.int .i64 0, .int .i64 0, .slice none 0 0, .slice none 0 0, .slice none 0 0] 32) := ⟨_, rfl⟩
  obtain ⟨A, hA⟩ := hA
  obtain ⟨hAm, hin⟩ := tree_in hA h.blk
  have m2 := heap_cell hAm (i := 2) rfl
  have f2 := heap_frozen (o := 2) hAm
  have hnb := h.cnt
  have hw1 : IntKind.i64.wrap ((n : Int) + 1) = ((n + 1 : Nat) : Int) := by rw [IntKind.wrap_i64]; omega
  obtain ⟨W1, hW1⟩ : ∃ W1, W1 = A.setCell ⟨m, 2, none⟩ (.int .i64 ((n : Int) + 1)) := ⟨_, rfl⟩
  rw [show (((n + 1 : Nat)) : Int) = (n : Int) + 1 from rfl, ← hW1] at hin
  have HI : Hid (TreeIn k fs fa fc b m f n cols rows cv (.slice ra rows.length rc) S w) := h
  have HX : Hid (TrIn fs fa fc b m n (.slice ra rows.length rc) w W1) := hin
  have HML : Hid (m < w.heap.size) := hml
  clear hAm hin hml h
  go_enter Try.func20, Try.ntmps20
  go_upto_region 1 with fail
  rw [← hA]
  clear hA
  go_upto_region 2 with fail
  rw [← hW1]
  clear hW1
  have n2 : W1.cell? ⟨m, 2, none⟩ = some (.int .i64 ((n : Int) + 1)) := heap_cell HX.out.mblk (i := 2) rfl
  have b0 := heap_cell HX.out.box (i := 0) rfl
  clear m2 f2
  have hR5 := HX.out.res
  have s0 := heap_cell hR5 (i := 0) rfl
  have s1 := heap_cell hR5 (i := 1) rfl
  have s2 := heap_cell hR5 (i := 2) rfl
  have s3 := heap_cell hR5 (i := 3) rfl
  have s4 := heap_cell hR5 (i := 4) rfl
  have z0 := heap_frozen (o := 0) hR5
  have z1 := heap_frozen (o := 1) hR5
  have z2 := heap_frozen (o := 2) hR5
  have z3 := heap_frozen (o := 3) hR5
  have z4 := heap_frozen (o := 4) hR5
  have HST : Hid (∀ v0 v1 v2 v3 v4, _) := fun v0 v1 v2 v3 v4 => store5 hR5 v0 v1 v2 v3 v4
  have HSQ : Hid (∀ q v0 v1 v2 v3 v4, _) := fun q v0 v1 v2 v3 v4 => store5 (w := W1.drewN q) hR5 v0 v1 v2 v3 v4
  clear hR5
  by_cases hn : 5000 ≤ n
  · have c1 : (5000 : Int) < (n : Int) + 1 := by omega
    obtain ⟨U, hU, hUR, hUs, hUk, hUo⟩ := HST.out (.int .i64 0) (.int .i64 0) (.slice none 0 0) (.slice none 0 0) (.slice none 0 0)
    have HU : Hid (U.heap.size = W1.heap.size ∧ (∀ x, x ≠ w.heap.size + 1 → U.heap[x]? = W1.heap[x]?) ∧ U.os = W1.os ∧ U.tape = W1.tape ∧ U.output = W1.output) := ⟨hUs, hUk, hUo⟩
    clear hUs hUk hUo
    go_wp2
    rw [← hU]
    have u0 := heap_cell hUR (i := 0) rfl
    have u1 := heap_cell hUR (i := 1) rfl
    have u2 := heap_cell hUR (i := 2) rfl
    have u3 := heap_cell hUR (i := 3) rfl
    have u4 := heap_cell hUR (i := 4) rfl
    refine bodyPost_ret (v := .agg #[.int .i64 0, .int .i64 0, .slice none 0 0, .slice none 0 0, .slice none 0 0]) (by simp [results, Try.results20, go_sem, u0, u1, u2, u3, u4]) rfl ?_
    have hE := HU.out
    have e := treeP_big k fs f n cols rows hn
    exact tree_end HX.out HML.out (Kx.refl _ _) hE.1 hE.2.1 hE.2.2 (by rw [e]; exact HX.out.mblk) ⟨fun _ => by rw [e], fun h => by omega⟩ (by rw [e]; exact trZero_at _ _ _)
  · have c1 : ¬ (5000 : Int) < (n : Int) + 1 := by omega
    have hfu := HI.out.fuel
    obtain ⟨f, rfl⟩ : ∃ f', f = f' + 1 := ⟨f - 1, by omega⟩
    have hT := hT f rfl
    have HN : Hid (n < 5000) := Nat.lt_of_not_le hn
    clear hn
    rcases (show rows = [] ∨ ∃ r rows', rows = r :: rows' by cases rows with | nil => exact .inl rfl | cons r l => exact .inr ⟨r, l, rfl⟩) with rfl | ⟨r, rows', hrw⟩
    · skip
      obtain ⟨U, hU, hUR, hUs, hUk, hUo⟩ := HST.out (.int .i64 1) (.int .i64 0) (.slice none 0 0) (.slice none 0 0) (.slice none 0 0)
      have HU : Hid (U.heap.size = W1.heap.size ∧ (∀ x, x ≠ w.heap.size + 1 → U.heap[x]? = W1.heap[x]?) ∧ U.os = W1.os ∧ U.tape = W1.tape ∧ U.output = W1.output) := ⟨hUs, hUk, hUo⟩
      clear hUs hUk hUo
      simp only [List.length_nil] at b0 ⊢
      go_wp2
      rw [← hU]
      have u0 := heap_cell hUR (i := 0) rfl
      have u1 := heap_cell hUR (i := 1) rfl
      have u2 := heap_cell hUR (i := 2) rfl
      have u3 := heap_cell hUR (i := 3) rfl
      have u4 := heap_cell hUR (i := 4) rfl
      refine bodyPost_ret (v := .agg #[.int .i64 1, .int .i64 0, .slice none 0 0, .slice none 0 0, .slice none 0 0]) (by simp [results, Try.results20, go_sem, u0, u1, u2, u3, u4]) rfl ?_
      have hE := HU.out
      have hn := HN.out
      have e := treeP_none k fs f n cols hn
      exact tree_end (x := .agg #[.int .i64 1, .int .i64 0, .slice none 0 0, .slice none 0 0, .slice none 0 0]) HX.out HML.out (Kx.refl _ _) hE.1 hE.2.1 hE.2.2 (by rw [e]; exact HX.out.mblk) ⟨fun h => by omega, fun h => by rw [e]; show n + 1 ≤ _; omega⟩ (by rw [e]; exact ⟨none, 0, none, 0, none, 0, rfl, .inl ⟨rfl, _, _, rfl⟩, .inl ⟨rfl, _, _, rfl⟩, .inl ⟨rfl, _, _, rfl⟩⟩)
    · have hrl : 0 < rows.length := by rw [hrw]; simp
      obtain ⟨rg, ro, hra, hrc, hr0⟩ := HROW.out (fun e => by rw [e] at hrl; simp at hrl)
      subst hra
      have hr0 := hr0 0 hrl
      have hre : rows[0] = r := by simp only [hrw, List.getElem_cons_zero]
      have hrS := hr0.1
      have hr1 := hr0.2
      rw [Nat.zero_mul, Nat.add_zero, hre] at hr1
      have hrg : rg < w.heap.size ∧ rg ≠ m := HI.out.set rg hrS
      have hlow : r < 200 := HI.out.low r (by rw [hrw]; simp)
      have hkS : Keeps S w W1 := fun x hx => HX.out.kx.block x (HI.out.set x hx).1 (HI.out.set x hx).2
      have hr2 := (hkS.cell (p := ⟨rg, ro, none⟩) hrS).trans hr1
      have hnum := HI.out.num
      have CI := index_any (w := W1) cv cols w.heap.size rg ro rows.length rc r (HI.out.hcols.on hkS) b0 hr2 hrl hlow (by omega)
      have hl1 : (0 : Int) < (rows.length : Int) := by omega
      have hl0 : ¬ ((rows.length : Int) = 0) := by omega
      have HKS : Hid (Keeps S w W1) := hkS
      clear hr0 hr1 hrg hkS
      cases hfi : cols.findIdx? (hasRow r) with
      | none =>
        rw [hfi] at CI
        simp only [idx] at CI
        go_upto_region 7 with (first | (go_at_call 33; (with_reducible refine Calls.mono CI ?_); rintro e' w2 ⟨rfl, q, rfl⟩))
        obtain ⟨U, hU, hUR, hUs, hUk, hUo⟩ := HSQ.out q (.int .i64 2) (.int .i64 r) (.slice none 0 0) (.slice none 0 0) (.slice none 0 0)
        have HU : Hid (U.heap.size = W1.heap.size ∧ (∀ x, x ≠ w.heap.size + 1 → U.heap[x]? = W1.heap[x]?) ∧ U.os = W1.os ∧ U.tape = W1.tape ∧ U.output = W1.output) := ⟨hUs, hUk, hUo⟩
        clear hUs hUk hUo
        go_wp2
        rw [← hU]
        have u0 := heap_cell hUR (i := 0) rfl
        have u1 := heap_cell hUR (i := 1) rfl
        have u2 := heap_cell hUR (i := 2) rfl
        have u3 := heap_cell hUR (i := 3) rfl
        have u4 := heap_cell hUR (i := 4) rfl
        refine bodyPost_ret (v := .agg #[.int .i64 2, .int .i64 r, .slice none 0 0, .slice none 0 0, .slice none 0 0]) (by simp [results, Try.results20, go_sem, u0, u1, u2, u3, u4]) rfl ?_
        have hE := HU.out
        have hn := HN.out
        have e := treeP_row k fs f n cols r rows' hn hfi
        rw [← hrw] at e
        exact tree_end (x := .agg #[.int .i64 2, .int .i64 r, .slice none 0 0, .slice none 0 0, .slice none 0 0]) HX.out HML.out (Kx.refl _ _) hE.1 hE.2.1 hE.2.2 (by rw [e]; exact HX.out.mblk) ⟨fun h => by omega, fun h => by rw [e]; show n + 1 ≤ _; omega⟩ (by rw [e]; exact ⟨none, 0, none, 0, none, 0, rfl, .inl ⟨rfl, _, _, rfl⟩, .inl ⟨rfl, _, _, rfl⟩, .inl ⟨rfl, _, _, rfl⟩⟩)
      | some ax =>
        have hfx := List.findIdx?_eq_some_iff_getElem.1 hfi
        obtain ⟨ha, hhas, -⟩ := hfx
        have hne : ofRows cols[ax].2.2 rows ≠ [] := fun e => by
          unfold hasRow at hhas
          rw [List.any_eq_true] at hhas
          obtain ⟨s, hs, hs2⟩ := hhas
          have : s ∈ ofRows cols[ax].2.2 rows := by
            unfold ofRows
            rw [List.mem_filter]
            refine ⟨hs, ?_⟩
            have : s.1 = r := by simpa using hs2
            rw [this, hrw]
            simp
          rw [e] at this
          simp at this
        have CB : ∀ q, Calls Try.prog 35 #[.pointer (some ⟨m, 0, none⟩), cv, .int .i64 ax, .slice (some ⟨rg, ro, none⟩) rows.length rc] (W1.drewN q) fun r w' => ∃ x0 x1 pa pl pc ca cl cc ea el ec, r = .returned (.agg #[.int .i64 x0, .int .i64 x1, .slice pa pl pc, .slice ca cl cc, .slice ea el ec]) ∧ Hid (Kx m W1 w' ∧ w'.heap[m]? = some (.cells #[.slice fa fs.length fc, .map (some b), .int .i64 (treeP k fs (f + 1) n cols rows).2] 65 (0, 0)) ∧ (treeP k fs (f + 1) n cols rows).2 ≤ 5001 + 201 * (f + 1) ∧ TrV w' (fun y => W1.heap.size ≤ y ∧ y < w'.heap.size) (f + 1) (.agg #[.int .i64 x0, .int .i64 x1, .slice pa pl pc, .slice ca cl cc, .slice ea el ec]) (treeP k fs (f + 1) n cols rows).1) := fun q => by
          have hI := HI.out
          have hn := HN.out
          have hkq : Keeps S w (W1.drewN q) := HKS.out
          have e := treeP_branch k fs f n cols r rows' ax ha hn hfi
          rw [← hrw] at e
          refine (branch_any hK hT (n := n + 1) (S := S) (w := W1.drewN q) ⟨by omega, HX.out.mblk, fun x hx => ⟨Nat.lt_of_lt_of_le (hI.set x hx).1 HX.out.kx.size, (hI.set x hx).2⟩, hI.map.on (HX.out.kx.block b (Mv.lt hI.map) hI.mapne), hI.mapne, hI.fams.on hkq, hI.hcols.on hkq, hI.hrows.on hkq, fun c hc => (hI.good c hc).up (by omega), by have := hI.num; omega, hI.rise, hI.low⟩ ax ha hne).mono fun r w' h => ?_
          obtain ⟨e1, e2, e3, x, rfl, e4⟩ := h
          rw [← e] at e2 e3 e4
          obtain ⟨x0, x1, pa, pl, pc, ca, cl, cc', ea, el, ec, rfl⟩ := e4.parts
          exact ⟨x0, x1, pa, pl, pc, ca, cl, cc', ea, el, ec, rfl, ⟨e1.os, e1.tape, e1.output, e1.size, e1.block⟩, e2, e3, e4⟩
        rw [hfi] at CI
        simp only [idx] at CI
        have i1 : ((ax : Int) < 0) = False := by simp
        have HRW : Hid (rows = r :: rows') := hrw
        have HHA : Hid (ax < cols.length) := ha
        clear hrw hfi hhas hne hre ha
        have HCB : Hid (∀ q, _) := CB
        clear CB
        go_upto_region 7 with (first | (go_at_call 33; (with_reducible refine Calls.mono CI ?_); rintro e' w2 ⟨rfl, q, rfl⟩))
        go_upto_region 9 with fail
        have CB := HCB.out
        have CB1 := CB q
        clear CB CI
        have HRS : Hid (W1.heap[w.heap.size + 1]? = some (.cells #[.int .i64 0, .int .i64 0, .slice none 0 0, .slice none 0 0, .slice none 0 0] 32 (0, 0))) := HX.out.res
        clear s0 s1 s2 s3 s4 z0 z1 z2 z3 z4 HST HSQ
        go_wp2_with (first | (go_at_call 35; (with_reducible refine Calls.mono CB1 ?_); rintro e' w3 ⟨x0, x1, pa, pl, pc, ca, cl, cc', ea, el, ec, rfl, HB3⟩; have hR3 := (HB3.out.1.block (w.heap.size + 1) (by have := HX.out.size; omega) (by have := HML.out; omega)).trans HRS.out; have s0 := heap_cell hR3 (i := 0) rfl; have s1 := heap_cell hR3 (i := 1) rfl; have s2 := heap_cell hR3 (i := 2) rfl; have s3 := heap_cell hR3 (i := 3) rfl; have s4 := heap_cell hR3 (i := 4) rfl; have z0 := heap_frozen (o := 0) hR3; have z1 := heap_frozen (o := 1) hR3; have z2 := heap_frozen (o := 2) hR3; have z3 := heap_frozen (o := 3) hR3; have z4 := heap_frozen (o := 4) hR3))
        obtain ⟨U, hU, hUR, hUs, hUk, hUo⟩ := store5 hR3 (.int .i64 x0) (.int .i64 x1) (.slice pa pl pc) (.slice ca cl cc') (.slice ea el ec)
        rw [← hU]
        have u0 := heap_cell hUR (i := 0) rfl
        have u1 := heap_cell hUR (i := 1) rfl
        have u2 := heap_cell hUR (i := 2) rfl
        have u3 := heap_cell hUR (i := 3) rfl
        have u4 := heap_cell hUR (i := 4) rfl
        refine bodyPost_ret (v := .agg #[.int .i64 x0, .int .i64 x1, .slice pa pl pc, .slice ca cl cc', .slice ea el ec]) (by simp [results, Try.results20, go_sem, u0, u1, u2, u3, u4]) rfl ?_
        have hn := HN.out
        have h3 := HB3.out
        exact tree_end HX.out HML.out h3.1 hUs hUk hUo h3.2.1 ⟨fun h => by omega, fun _ => h3.2.2.1⟩ h3.2.2.2
/-- tree, whatever the fuel. -/
theorem tree_any {k : Kn} {fs : List Fam} {fa : Option Addr} {fc b m : Nat} (hK : KnOk k fs) : ∀ f, TreeC k fs fa fc b m f
  | 0 => tree_step hK fun _ h => by omega
  | f + 1 => tree_step hK fun f' h => by
    obtain rfl : f' = f := by omega
    exact tree_any hK f'
end Go.Proofs.Ytpdmkhnonbbhnaa

namespace Go.Proofs.Ytpdmkhnonbbhnaa
open Go.RowKit Go.Maps

theorem TrV.vals {w : World} {S : Nat → Prop} {f : Nat} {v0 v1 v2 v3 v4 : Value} {t : Tr f} (h : TrV w S f (.agg #[v0, v1, v2, v3, v4]) t) : ∃ a b pa pl pc ca cl cc ea el ec, v0 = .int .i64 a ∧ v1 = .int .i64 b ∧ v2 = .slice pa pl pc ∧ v3 = .slice ca cl cc ∧ v4 = .slice ea el ec := by
  obtain ⟨a, b, pa, pl, pc, ca, cl, cc, ea, el, ec, e⟩ := h.parts
  injection e with e
  injection e with e
  injection e with e0 e
  injection e with e1 e
  injection e with e2 e
  injection e with e3 e
  injection e with e4 e
  exact ⟨a, b, pa, pl, pc, ca, cl, cc, ea, el, ec, e0, e1, e2, e3, e4⟩
theorem foldl_max_le : ∀ (l : List Nat) (a B : Nat), a ≤ B → (∀ x ∈ l, x ≤ B) → l.foldl max a ≤ B
  | [], _, _, h, _ => h
  | x :: r, a, B, h, hl => by
    rw [List.foldl_cons]
    exact foldl_max_le r _ B (by have := hl x (by simp); omega) (fun y hy => hl y (by simp [hy]))
theorem nestP_le : ∀ (f : Nat) (t : Tr f), nestP f t ≤ f + 1
  | 0, _ => Nat.le_refl _
  | f + 1, t => by
    unfold nestP
    have h1 : (t.2.1.map fun c => nestP f c.2).foldl max 0 ≤ f + 1 := foldl_max_le _ _ _ (by omega) (fun x hx => by
      obtain ⟨c, _, rfl⟩ := List.mem_map.1 hx
      exact nestP_le f c.2)
    have h2 := foldl_max_le (t.2.2.map (nestP f)) _ (f + 1) h1 (fun x hx => by
      obtain ⟨c, _, rfl⟩ := List.mem_map.1 hx
      exact nestP_le f c)
    omega
/-- Not more than 200 cases, not more than one else, in the whole tree. -/
def Sm : (f : Nat) → Tr f → Prop
  | 0, _ => True
  | f + 1, t => t.2.1.length ≤ 200 ∧ t.2.2.length ≤ 1 ∧ (∀ c ∈ t.2.1, Sm f c.2) ∧ ∀ e ∈ t.2.2, Sm f e
theorem Sm.zero : ∀ f, Sm f (trZero f)
  | 0 => trivial
  | _ + 1 => ⟨by simp [trZero], by simp [trZero], fun c h => by simp [trZero] at h, fun c h => by simp [trZero] at h⟩
def NestC (f : Nat) (t : Tr f) : Prop := ∀ (w : World) (S : Nat → Prop) (x : Value), (∀ b, S b → b < w.heap.size) → TrV w S f x t → Calls Try.prog 22 #[x] w fun r w' => r = .returned (.int .i64 (nestP f t)) ∧ Below w.heap.size w w'
theorem foldl_snoc (l : List Nat) (i a : Nat) (h : i < l.length) : (l.take (i + 1)).foldl max a = max ((l.take i).foldl max a) l[i] := by
  rw [take_snoc l i h, List.foldl_append]
  rfl
set_option maxHeartbeats 8000000 in
set_option maxRecDepth 10000 in
theorem nest_step {f : Nat} (t : Tr (f + 1)) (hle : f ≤ 5001) (hSm : t.2.1.length ≤ 200 ∧ t.2.2.length ≤ 1) (hC : ∀ c, (c ∈ t.2.1.map (·.2) ∨ c ∈ t.2.2) → NestC f c) : NestC (f + 1) t := by
  intro w S x hS hx
  obtain ⟨pa, pc, ca, cc, ea, ec, rfl, hN, hCs, hEs⟩ := hx
  obtain ⟨_, _, he1, hrow1⟩ := RowP.open hCs
  injection he1 with he1 _ hcc1
  subst he1 hcc1
  obtain ⟨_, _, he2, hrow2⟩ := RowP.open hEs
  injection he2 with he2 _ hcc2
  subst he2 hcc2
  have hR : nestP (f + 1) t = (t.2.2.map (nestP f)).foldl max ((t.2.1.map fun c => nestP f c.2).foldl max 0) + 1 := rfl
  have hb1 : ∀ x ∈ (t.2.1.map fun c => nestP f c.2), x ≤ f + 1 := fun x hx => by obtain ⟨c, _, rfl⟩ := List.mem_map.1 hx; exact nestP_le f c.2
  have hb2 : ∀ x ∈ (t.2.2.map (nestP f)), x ≤ f + 1 := fun x hx => by obtain ⟨c, _, rfl⟩ := List.mem_map.1 hx; exact nestP_le f c
  have HC1 : Hid (∀ i (h : i < t.2.1.length), NestC f t.2.1[i].2) := fun i h => hC _ (.inl (List.mem_map.2 ⟨_, List.getElem_mem h, rfl⟩))
  have HC2 : Hid (∀ i (h : i < t.2.2.length), NestC f t.2.2[i]) := fun i h => hC _ (.inr (List.getElem_mem h))
  rw [hR]
  generalize t.1.1 = t0
  generalize t.1.2.1 = t1
  generalize t.1.2.2.length = pl
  clear hN hCs hEs hR hC
  obtain ⟨hs1, hs2⟩ := hSm
  generalize t.2.1 = l1 at *
  generalize t.2.2 = l2 at *
  have HR1 : Hid (l1 ≠ [] → ∃ g o, ca = some ⟨g, o, none⟩ ∧ l1.length ≤ cc ∧ ∀ j (h : j < l1.length), S g ∧ w.cell? ⟨g, o + j * 7, none⟩ = some (.string ⟨l1[j].1.1.toArray⟩) ∧ w.cell? ⟨g, o + j * 7 + 1, none⟩ = some (.int .i64 l1[j].1.2) ∧ l1[j].1.1.length < 140737488355328 ∧ ∃ v0 v1 v2 v3 v4, w.cell? ⟨g, o + j * 7 + 2, none⟩ = some v0 ∧ w.cell? ⟨g, o + j * 7 + 3, none⟩ = some v1 ∧ w.cell? ⟨g, o + j * 7 + 4, none⟩ = some v2 ∧ w.cell? ⟨g, o + j * 7 + 5, none⟩ = some v3 ∧ w.cell? ⟨g, o + j * 7 + 6, none⟩ = some v4 ∧ TrV w S f (.agg #[v0, v1, v2, v3, v4]) l1[j].2) := hrow1
  have HR2 : Hid (l2 ≠ [] → ∃ g o, ea = some ⟨g, o, none⟩ ∧ l2.length ≤ ec ∧ ∀ j (h : j < l2.length), S g ∧ ∃ v0 v1 v2 v3 v4, w.cell? ⟨g, o + j * 5, none⟩ = some v0 ∧ w.cell? ⟨g, o + j * 5 + 1, none⟩ = some v1 ∧ w.cell? ⟨g, o + j * 5 + 2, none⟩ = some v2 ∧ w.cell? ⟨g, o + j * 5 + 3, none⟩ = some v3 ∧ w.cell? ⟨g, o + j * 5 + 4, none⟩ = some v4 ∧ TrV w S f (.agg #[v0, v1, v2, v3, v4]) l2[j]) := hrow2
  have HS : Hid (∀ b, S b → b < w.heap.size) := hS
  have HB1 : Hid (∀ i, ((l1.map fun c => nestP f c.2).take i).foldl max 0 ≤ f + 1) := fun i => foldl_max_le _ _ _ (by omega) (fun x hx => hb1 x (List.mem_of_mem_take hx))
  have HB2 : Hid (∀ i, ((l2.map (nestP f)).take i).foldl max ((l1.map fun c => nestP f c.2).foldl max 0) ≤ f + 1) := fun i => foldl_max_le _ _ _ (foldl_max_le _ _ _ (by omega) hb1) (fun x hx => hb2 x (List.mem_of_mem_take hx))
  clear hrow1 hrow2 hS hb1 hb2
  have hW : ∃ W, W = w.alloc (Obj.cells #[.int .i64 t0, .int .i64 t1, .slice pa pl pc, .slice ca l1.length cc, .slice ea l2.length ec] 32) ∧ Below w.heap.size w W ∧ W.heap.size = w.heap.size + 1 ∧ W.cell? ⟨w.heap.size, 3, none⟩ = some (.slice ca l1.length cc) ∧ W.cell? ⟨w.heap.size, 4, none⟩ = some (.slice ea l2.length ec) := ⟨_, rfl, (Below.refl _ _).alloc (Nat.le_refl _) _, by simp, heap_cell' (new_block' w _) rfl, heap_cell' (new_block' w _) rfl⟩
  obtain ⟨W, hW, hbW, hsW, d3, d4⟩ := hW
  have HW : Hid (Below w.heap.size w W ∧ W.heap.size = w.heap.size + 1 ∧ W.cell? ⟨w.heap.size, 4, none⟩ = some (.slice ea l2.length ec)) := ⟨hbW, hsW, d4⟩
  clear hbW hsW d4
  go_enter Try.func22, Try.ntmps22
  go_upto_region 1 with fail
  rw [← hW]
  clear hW
  go_wp2
  clear d3
  have HLe : Hid (f ≤ 5001) := hle
  clear hle
  go_loopw [3, 11] (fun mv iv wr => ∃ i : Nat, i ≤ l1.length ∧ mv = .int .i64 (((l1.map fun c => nestP f c.2).take i).foldl max 0 : Nat) ∧ iv = .int .i64 i ∧ Hid (Below W.heap.size W wr)) (fun _ iv _ => l1.length - (intOf iv).toNat)
  case atStart => exact ⟨0, by omega, by go_num, by go_num, Below.refl _ _⟩
  case round =>
    obtain ⟨i, hi, rfl, rfl, HT⟩ := hrel
    have HBw : Hid (Below w.heap.size w wr) := HW.out.1.trans (HT.out.mono (by have := HW.out.2.1; omega))
    by_cases hil : i < l1.length
    · obtain ⟨g, o, rfl, hc, hr⟩ := HR1.out (fun e => by rw [e] at hil; simp at hil)
      obtain ⟨s0, q0, q1, _, v0, v1, v2, v3, v4, q2, q3, q4, q5, q6, ht⟩ := hr i hil
      obtain ⟨a, b, pa', pl', pc', ca', cl', cc', ea', el', ec', rfl, rfl, rfl, rfl, rfl⟩ := ht.vals
      have hk := Keeps.of HBw.out HS.out
      have q0 := (hk.cell (p := ⟨g, o + i * 7, none⟩) s0).trans q0
      have q1 := (hk.cell (p := ⟨g, o + i * 7 + 1, none⟩) s0).trans q1
      have q2 := (hk.cell (p := ⟨g, o + i * 7 + 2, none⟩) s0).trans q2
      have q3 := (hk.cell (p := ⟨g, o + i * 7 + 3, none⟩) s0).trans q3
      have q4 := (hk.cell (p := ⟨g, o + i * 7 + 4, none⟩) s0).trans q4
      have q5 := (hk.cell (p := ⟨g, o + i * 7 + 5, none⟩) s0).trans q5
      have q6 := (hk.cell (p := ⟨g, o + i * 7 + 6, none⟩) s0).trans q6
      have hW1 : ∃ W1, W1 = wr.alloc (Obj.cells #[.string ⟨l1[i].1.1.toArray⟩, .int .i64 l1[i].1.2, .int .i64 a, .int .i64 b, .slice pa' pl' pc', .slice ca' cl' cc', .slice ea' el' ec'] 53) ∧ Below wr.heap.size wr W1 ∧ W1.heap.size = wr.heap.size + 1 ∧ W1.cell? ⟨wr.heap.size, 2, none⟩ = some (.int .i64 a) ∧ W1.cell? ⟨wr.heap.size, 3, none⟩ = some (.int .i64 b) ∧ W1.cell? ⟨wr.heap.size, 4, none⟩ = some (.slice pa' pl' pc') ∧ W1.cell? ⟨wr.heap.size, 5, none⟩ = some (.slice ca' cl' cc') ∧ W1.cell? ⟨wr.heap.size, 6, none⟩ = some (.slice ea' el' ec') := ⟨_, rfl, (Below.refl _ _).alloc (Nat.le_refl _) _, by simp, heap_cell' (new_block' wr _) rfl, heap_cell' (new_block' wr _) rfl, heap_cell' (new_block' wr _) rfl, heap_cell' (new_block' wr _) rfl, heap_cell' (new_block' wr _) rfl⟩
      obtain ⟨W1, hW1, hb1, hsz1, x2, x3, x4, x5, x6⟩ := hW1
      have hk1 : Keeps S w W1 := hk.trans (Keeps.of hb1 fun b hb => Nat.lt_of_lt_of_le (HS.out b hb) HBw.out.size)
      have CN := HC1.out i hil W1 S _ (fun b hb => by have := HS.out b hb; have := HBw.out.size; omega) (TrV.below hk1 (fun _ h => h) f _ _ ht)
      have HB1' : Hid (Below W.heap.size W W1) := HT.out.trans (hb1.mono HT.out.size)
      have HWS : Hid (W.heap.size ≤ W1.heap.size) := HB1'.out.size
      have HSN : Hid (((l1.map fun c => nestP f c.2).take (i + 1)).foldl max 0 = max (((l1.map fun c => nestP f c.2).take i).foldl max 0) (nestP f l1[i].2)) := by
        have := foldl_snoc (l1.map fun c => nestP f c.2) i 0 (by simpa using hil)
        rw [List.getElem_map] at this
        exact this
      have i1 : (0 : Int) ≤ (i : Int) := by omega
      have i2 : (i : Int) < (l1.length : Int) := by omega
      clear hk hk1 hr ht hb1 hsz1
      generalize ((l1.map fun c => nestP f c.2).take i).foldl max 0 = M at *
      generalize nestP f l1[i].2 = N at *
      generalize l1[i].1.1 = c0 at *
      generalize l1[i].1.2 = c1 at *
      go_upto_region 5 with fail
      rw [← hW1]
      clear hW1 q0 q1 q2 q3 q4 q5 q6
      go_wp2_with (first | (go_at_call 22; (with_reducible refine Calls.mono CN ?_); rintro e' w2 ⟨rfl, hb2⟩))
      refine ⟨⟨i + 1, hil, by rw [HSN.out]; congr 1; omega, by go_num, HB1'.out.trans (hb2.mono HWS.out)⟩, by simp [intOf]; omega⟩
    · obtain rfl : i = l1.length := by omega
      have HM : Hid (((l1.map fun c => nestP f c.2).take l1.length).foldl max 0 = (l1.map fun c => nestP f c.2).foldl max 0) := by
        show _ = _
        congr 1
        exact List.take_of_length_le (by simp)
      rw [HM.out]
      have HMB : Hid ((l1.map fun c => nestP f c.2).foldl max 0 ≤ f + 1) := by
        have := HB1.out l1.length
        rwa [HM.out] at this
      generalize hME : (l1.map fun c => nestP f c.2).foldl max 0 = M at *
      have HME : Hid ((l1.map fun c => nestP f c.2).foldl max 0 = M) := hME
      clear hME
      have d4 := (HT.out.cell (p := ⟨w.heap.size, 4, none⟩) (by have := HW.out.2.1; show w.heap.size < _; omega)).trans HW.out.2.2
      go_wp2
      have HBW0 : Hid (Below w.heap.size w wr) := HBw.out
      clear d4 HT HB1 HC1 HR1
      go_loopw [3, 24] (fun mv iv wr2 => ∃ i : Nat, i ≤ l2.length ∧ mv = .int .i64 (((l2.map (nestP f)).take i).foldl max M : Nat) ∧ iv = .int .i64 i ∧ Hid (Below w.heap.size w wr2)) (fun _ iv _ => l2.length - (intOf iv).toNat)
      case atStart => exact ⟨0, by omega, by go_num, by go_num, HBW0.out⟩
      case round =>
        obtain ⟨i, hi, rfl, rfl, HT⟩ := hrel
        by_cases hil2 : i < l2.length
        · obtain ⟨g, o, rfl, hc, hr⟩ := HR2.out (fun e => by rw [e] at hil2; simp at hil2)
          obtain ⟨s0, v0, v1, v2, v3, v4, q2, q3, q4, q5, q6, ht⟩ := hr i hil2
          obtain ⟨a, b, pa', pl', pc', ca', cl', cc', ea', el', ec', rfl, rfl, rfl, rfl, rfl⟩ := ht.vals
          have hk := Keeps.of HT.out HS.out
          have q2 := (hk.cell (p := ⟨g, o + i * 5, none⟩) s0).trans q2
          have q3 := (hk.cell (p := ⟨g, o + i * 5 + 1, none⟩) s0).trans q3
          have q4 := (hk.cell (p := ⟨g, o + i * 5 + 2, none⟩) s0).trans q4
          have q5 := (hk.cell (p := ⟨g, o + i * 5 + 3, none⟩) s0).trans q5
          have q6 := (hk.cell (p := ⟨g, o + i * 5 + 4, none⟩) s0).trans q6
          have hW1 : ∃ W1, W1 = wr.alloc (Obj.cells #[.int .i64 a, .int .i64 b, .slice pa' pl' pc', .slice ca' cl' cc', .slice ea' el' ec'] 32) ∧ Below wr.heap.size wr W1 ∧ W1.heap.size = wr.heap.size + 1 ∧ W1.cell? ⟨wr.heap.size, 0, none⟩ = some (.int .i64 a) ∧ W1.cell? ⟨wr.heap.size, 1, none⟩ = some (.int .i64 b) ∧ W1.cell? ⟨wr.heap.size, 2, none⟩ = some (.slice pa' pl' pc') ∧ W1.cell? ⟨wr.heap.size, 3, none⟩ = some (.slice ca' cl' cc') ∧ W1.cell? ⟨wr.heap.size, 4, none⟩ = some (.slice ea' el' ec') := ⟨_, rfl, (Below.refl _ _).alloc (Nat.le_refl _) _, by simp, heap_cell' (new_block' wr _) rfl, heap_cell' (new_block' wr _) rfl, heap_cell' (new_block' wr _) rfl, heap_cell' (new_block' wr _) rfl, heap_cell' (new_block' wr _) rfl⟩
          obtain ⟨W1, hW1, hb1, hsz1, x2, x3, x4, x5, x6⟩ := hW1
          have hk1 : Keeps S w W1 := hk.trans (Keeps.of hb1 fun b hb => Nat.lt_of_lt_of_le (HS.out b hb) HT.out.size)
          have CN := HC2.out i hil2 W1 S _ (fun b hb => by have := HS.out b hb; have := HT.out.size; omega) (TrV.below hk1 (fun _ h => h) f _ _ ht)
          have HB1' : Hid (Below w.heap.size w W1) := HT.out.trans (hb1.mono HT.out.size)
          have HWS : Hid (w.heap.size ≤ W1.heap.size) := HB1'.out.size
          have HSN : Hid (((l2.map (nestP f)).take (i + 1)).foldl max M = max (((l2.map (nestP f)).take i).foldl max M) (nestP f l2[i])) := by
            have := foldl_snoc (l2.map (nestP f)) i M (by simpa using hil2)
            rw [List.getElem_map] at this
            exact this
          have i1 : (0 : Int) ≤ (i : Int) := by omega
          have i2 : (i : Int) < (l2.length : Int) := by omega
          clear hk hk1 hr ht hb1 hsz1
          generalize ((l2.map (nestP f)).take i).foldl max M = M2 at *
          generalize nestP f l2[i] = N at *
          go_upto_region 10 with fail
          rw [← hW1]
          clear hW1 q2 q3 q4 q5 q6
          go_wp2_with (first | (go_at_call 22; (with_reducible refine Calls.mono CN ?_); rintro e' w2 ⟨rfl, hb2⟩))
          refine ⟨⟨i + 1, hil2, by rw [HSN.out]; congr 1; omega, by go_num, HB1'.out.trans (hb2.mono HWS.out)⟩, by simp [intOf]; omega⟩
        · obtain rfl : i = l2.length := by omega
          have hM2 : ((l2.map (nestP f)).take l2.length).foldl max M = (l2.map (nestP f)).foldl max M := by
            congr 1
            exact List.take_of_length_le (by simp)
          have hMB2 := HB2.out l2.length
          rw [hM2] at hMB2 ⊢
          have HF : Hid ((l2.map (nestP f)).foldl max ((l1.map fun c => nestP f c.2).foldl max 0) + 1 = (l2.map (nestP f)).foldl max M + 1) := by
            show _ = _
            rw [HME.out]
          have hle := HLe.out
          clear hM2
          generalize (l2.map (nestP f)).foldl max M = M2 at *
          have hw2 : IntKind.i64.wrap ((M2 : Int) + 1) = ((M2 + 1 : Nat) : Int) := by rw [IntKind.wrap_i64]; omega
          go_wp2
          go_ret
          refine ⟨?_, HT.out⟩
          rw [HF.out]
          rfl
theorem nest_any : ∀ (f : Nat), f ≤ 5001 → ∀ (t : Tr f), Sm f t → NestC f t
  | 0, _, t, _ => by
    intro w S x hS hx
    have h1 : TrV w S 1 x (trZero 1) := by
      have : x = _ := hx
      rw [this]
      exact trZero_at w S 1
    exact nest_step (f := 0) (trZero 1) (by omega) ⟨by simp [trZero], by simp [trZero]⟩ (fun c h => by simp [trZero] at h) w S x hS h1
  | f + 1, hf, t, hs => nest_step t (by omega) ⟨hs.1, hs.2.1⟩ fun c hc => by
    rcases hc with hc | hc
    · obtain ⟨d, hd, rfl⟩ := List.mem_map.1 hc
      exact nest_any f (by omega) _ (hs.2.2.1 d hd)
    · exact nest_any f (by omega) _ (hs.2.2.2 c hc)
end Go.Proofs.Ytpdmkhnonbbhnaa

namespace Go.Proofs.Ytpdmkhnonbbhnaa
open Go.RowKit Go.Maps

theorem eachP_all {α β : Type} {step : α → Nat → β × Nat} {P : β → Prop} : ∀ (l : List α), (∀ x ∈ l, ∀ n, P (step x n).1) → ∀ n, ∀ y ∈ (eachP step l n).1, P y
  | [], _, _, y, hy => by simp [eachP] at hy
  | a :: r, h, n, y, hy => by
    unfold eachP at hy
    rcases List.mem_cons.1 hy with rfl | hy
    · exact h a (by simp) n
    · exact eachP_all r (fun x hx => h x (List.mem_cons_of_mem _ hx)) _ y hy
theorem spotsOf_len (n : Nat) (lines : List (Nat × List Pt)) : (spotsOf n lines).length ≤ lines.length := List.length_filterMap_le _ _
theorem within_len {k : Kn} {spots : List Sp} {con : Str} {path : List Nat} {c : Col} (h : c ∈ within k spots con path) : c.2.2.length ≤ spots.length := by
  obtain ⟨n, _, _, rfl⟩ := mem_colsOf.1 h
  refine Nat.le_trans (spotsOf_len n _) ?_
  simp [linesOf]
theorem treeP_sm (k : Kn) (fs : List Fam) : ∀ (f n : Nat) (cols : List Col) (rows : List Nat), (∀ c ∈ cols, c.2.2.length ≤ 200) → Sm f (treeP k fs f n cols rows).1
  | 0, _, _, _, _ => trivial
  | f + 1, n, cols, rows, hc => by
    by_cases hn : 5000 ≤ n
    · rw [treeP_big _ _ _ _ _ _ hn]; exact Sm.zero _
    · cases rows with
      | nil => rw [treeP_none _ _ _ _ _ (by omega)]; exact ⟨by simp, by simp, fun c h => by simp at h, fun c h => by simp at h⟩
      | cons r rows =>
        cases hi : cols.findIdx? (hasRow r) with
        | none => rw [treeP_row _ _ _ _ _ _ _ (by omega) hi]; exact ⟨by simp, by simp, fun c h => by simp at h, fun c h => by simp at h⟩
        | some ax =>
          have ha : ax < cols.length := (List.findIdx?_eq_some_iff_getElem.1 hi).1
          rw [treeP_branch k fs f n cols r rows ax ha (by omega) hi]
          have hs : (ofRows cols[ax].2.2 (r :: rows)).length ≤ 200 := Nat.le_trans (List.length_filter_le _ _) (hc _ (List.getElem_mem ha))
          have hcl : (casesOf k (ofRows cols[ax].2.2 (r :: rows))).length ≤ 200 := Nat.le_trans (casesOf_len k _) hs
          have h1 : ∀ m, ∀ y ∈ (eachP (stepP k fs f cols (r :: rows) ax (ofRows cols[ax].2.2 (r :: rows)) (cols[ax].1 ++ [cols[ax].2.1])) (casesOf k (ofRows cols[ax].2.2 (r :: rows))) m).1, Sm f y := eachP_all _ (fun x _ m => treeP_sm k fs f m _ _ (fun c hcm => by
            rcases List.mem_append.1 hcm with hcm | hcm
            · rcases List.mem_append.1 hcm with hcm | hcm
              · exact hc c (List.mem_of_mem_take hcm)
              · exact Nat.le_trans (within_len hcm) (Nat.le_trans (List.length_filter_le _ _) hs)
            · exact hc c (List.mem_of_mem_drop hcm)))
          unfold branchP
          dsimp only
          split
          · exact ⟨by rw [List.length_zip]; exact Nat.le_trans (Nat.min_le_left _ _) hcl, by simp, fun c h => h1 _ _ (List.of_mem_zip h).2, fun c h => by simp at h⟩
          · refine ⟨by rw [List.length_zip]; exact Nat.le_trans (Nat.min_le_left _ _) hcl, by simp, fun c h => h1 _ _ (List.of_mem_zip h).2, fun c h => ?_⟩
            obtain rfl := List.mem_singleton.1 h
            exact treeP_sm k fs f _ _ _ (fun c hcm => by
              rcases List.mem_append.1 hcm with hcm | hcm
              · exact hc c (List.mem_of_mem_take hcm)
              · exact hc c (List.mem_of_mem_drop hcm))
theorem met_zero : ∀ f, metP f (trZero f) = []
  | 0 => rfl
  | _ + 1 => rfl
theorem treeP_met (k : Kn) (fs : List Fam) : ∀ (f n : Nat) (cols : List Col) (rows : List Nat), ∀ r ∈ metP f (treeP k fs f n cols rows).1, r ∈ rows
  | 0, _, _, _, _, h => by simp [metP] at h
  | f + 1, n, cols, rows, q, hq => by
    by_cases hn : 5000 ≤ n
    · rw [treeP_big _ _ _ _ _ _ hn, met_zero] at hq
      simp at hq
    · cases rows with
      | nil =>
        rw [treeP_none _ _ _ _ _ (by omega)] at hq
        simp [metP] at hq
      | cons r rows =>
        cases hi : cols.findIdx? (hasRow r) with
        | none =>
          rw [treeP_row _ _ _ _ _ _ _ (by omega) hi] at hq
          simp [metP] at hq
          simp [hq]
        | some ax =>
          have ha : ax < cols.length := (List.findIdx?_eq_some_iff_getElem.1 hi).1
          rw [treeP_branch k fs f n cols r rows ax ha (by omega) hi] at hq
          have h1 : ∀ m, ∀ y ∈ (eachP (stepP k fs f cols (r :: rows) ax (ofRows cols[ax].2.2 (r :: rows)) (cols[ax].1 ++ [cols[ax].2.1])) (casesOf k (ofRows cols[ax].2.2 (r :: rows))) m).1, ∀ q ∈ metP f y, q ∈ r :: rows := eachP_all _ (fun x _ m q hq => (without_sub _ _).subset (treeP_met k fs f m _ _ q hq))
          have h2 : ∀ (cs : List Cs) (l : List (Tr f)), (∀ y ∈ l, ∀ q ∈ metP f y, q ∈ r :: rows) → ∀ q ∈ ((cs.zip l).flatMap fun c => metP f c.2), q ∈ r :: rows := fun cs l h q hq => by
            obtain ⟨c, hc, hq⟩ := List.mem_flatMap.1 hq
            exact h c.2 (List.of_mem_zip hc).2 q hq
          unfold branchP at hq
          dsimp only at hq
          split at hq
          · simp only [metP] at hq
            rw [if_neg (by decide), List.nil_append, List.flatMap_nil, List.append_nil] at hq
            exact h2 _ _ (h1 _) q hq
          · simp only [metP] at hq
            rw [if_neg (by decide), List.nil_append] at hq
            rcases List.mem_append.1 hq with hq | hq
            · exact h2 _ _ (h1 _) q hq
            · rw [List.flatMap_singleton] at hq
              exact (without_sub _ _).subset (treeP_met k fs f _ _ _ q hq)
end Go.Proofs.Ytpdmkhnonbbhnaa

namespace Go.Proofs.Ytpdmkhnonbbhnaa
open Go.RowKit Go.Maps

theorem make_ints (w : World) (n : Nat) (hn : n ≤ 1000) : ∃ c, (Instr.makeSlice 28 (.int .i64 n) (.int .i64 n)).run Try.prog w = .ok (.slice (some ⟨w.heap.size, 0, none⟩) n n) (w.alloc (.cells c 3)) ∧ c.size = n := by
  obtain ⟨i0, hi, hz0, hz1, hz2⟩ := info_parts Try.info3
  have := run_makeSlice (P := Try.prog) w 28 3 i0 _ Try.underlying28 hi hz0 .i64 .i64 n n (by omega) (Int.le_refl _) (by rw [hz1]; simp; omega) (by rw [hz2]; omega) (by omega)
  refine ⟨_, by simpa using this, ?_⟩
  simp [madeCells, hz1]
structure Nw (n Lb : Nat) (W : World) (i : Nat) (cur : Array Value) (wr : World) : Prop where
  below : Below Lb W wr
  blk : wr.heap[Lb]? = some (.cells cur 3 (0, 0))
  size : cur.size = n
  row : ∀ j, j < i → j < n → cur[j]? = some (.int .i64 j)
theorem Nw.put {n Lb : Nat} {W : World} {i : Nat} {cur : Array Value} {wr : World} (h : Nw n Lb W i cur wr) (hi : i < n) : Nw n Lb W (i + 1) (cur.setIfInBounds i (.int .i64 i)) (wr.setCell ⟨Lb, i, none⟩ (.int .i64 i)) := by
  refine ⟨h.below.setCell (p := ⟨Lb, i, none⟩) (Nat.le_refl _) _, setCell_block h.blk, by simpa using h.size, fun j hj hn => ?_⟩
  have hs := h.size
  by_cases e : j = i
  · subst e
    rw [Array.getElem?_setIfInBounds, if_pos rfl, if_pos (by omega)]
  · rw [Array.getElem?_setIfInBounds, if_neg (by omega)]
    exact h.row j (by omega) hn
set_option maxHeartbeats 4000000 in
set_option maxRecDepth 10000 in
theorem numbers_any {w : World} (ad : Option Addr) (n cap : Nat) (hn : n ≤ 200) : Calls Try.prog 21 #[.slice ad n cap] w fun r w' => Below w.heap.size w w' ∧ ∃ v, r = .returned v ∧ Nats w' (fun b => w.heap.size ≤ b ∧ b < w'.heap.size) v (List.range n) := by
  obtain ⟨c0, hmk, hc0⟩ := make_ints w n (by omega)
  have HX : Hid (Nw n w.heap.size (w.alloc (.cells c0 3)) 0 c0 (w.alloc (.cells c0 3))) := ⟨Below.refl _ _, new_block w _, hc0, fun j h => by omega⟩
  have HX2 : Hid (Below w.heap.size w (w.alloc (.cells c0 3))) := (Below.refl w.heap.size w).alloc (Nat.le_refl _) _
  generalize hW2 : w.alloc (.cells c0 3) = W2 at *
  clear hW2 hc0
  go_enter Try.func21, Try.ntmps21
  go_wp2
  go_loopw [10] (fun iv wr => ∃ (i : Nat) (cur : Array Value), i ≤ n ∧ iv = .int .i64 i ∧ Hid (Nw n w.heap.size W2 i cur wr)) (fun iv _ => n - (intOf iv).toNat)
  case atStart => exact ⟨0, c0, by omega, by go_num, HX.out⟩
  case round =>
    obtain ⟨i, cur, hi, rfl, HT⟩ := hrel
    by_cases hil : i < n
    · have i1 : (0 : Int) ≤ (i : Int) := by omega
      have i2 : (i : Int) < (n : Int) := by omega
      have hcs := HT.out.size
      have y0 := heap_cell HT.out.blk (Array.getElem?_eq_getElem (show i < cur.size by omega))
      have z0 := heap_frozen (o := i) HT.out.blk
      generalize cur[i] = cv0 at y0
      clear hcs
      go_wp2
      go_roundw
      case rel => exact ⟨i + 1, _, hil, by go_num, HT.out.put hil⟩
      case measure => simp [intOf]; omega
    · obtain rfl : i = n := by omega
      go_wp2
      go_ret
      have hb := HX2.out.trans HT.out.below
      refine ⟨hb, _, rfl, ?_⟩
      by_cases h0 : i = 0
      · subst h0
        exact .inl ⟨rfl, _, _, rfl⟩
      · refine .inr ⟨w.heap.size, 0, i, by rw [List.length_range]; rfl, by simpa using h0, by simp, fun j hj => ?_⟩
        have hj' : j < i := by simpa using hj
        refine ⟨⟨Nat.le_refl _, lt_of_heap HT.out.blk⟩, ?_⟩
        rw [List.getElem_range, Nat.zero_add, Nat.mul_one]
        exact heap_cell HT.out.blk (HT.out.row j hj' hj')
end Go.Proofs.Ytpdmkhnonbbhnaa
