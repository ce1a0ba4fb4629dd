/- The program's put: types made anew, with what a map says in the variables' places. The program's put at a variable that the map has, and anew. -/
import Derived.Test.YtgdflaapgfpdeaaGreatDoorMa
import Derived.Test.YtgdflaapgfpdeaaGreatDoorMpx
import Derived.Deep.RegionHeldLaw
import Derived.Deep.Cut
import Derived.Deep.AppendLies
namespace Go.Proofs.YtgdflaapgfpdeaaGreatDoor
open Go.RowKit

/-- What put and anew answer: the tree t, in memory of its own. -/
def PutPost (w : World) (D : Nat) (t : Tn D) (r : Ending) (w' : World) : Prop :=
  Below w.heap.size w w' ∧ ∃ (k : Int) (n : ByteArray) (ad : Option Addr) (len cap : Nat) (rws : List (Value × Nat)), r = .returned (.agg #[.int .i64 k, .string n, .slice ad len cap]) ∧
    TyO w' w.heap.size D (.agg #[.int .i64 k, .string n, .slice ad len cap]) t rws ∧ SepB w.heap.size w'.heap.size rws
/-- Between the rounds of put. -/
structure PtS (w : World) (z q : Nat) (k : Int) (n : List UInt8) (vx : Value) (D : Nat) (wr : World) (v : Value) (es : List El) (us : List (Tn D)) (rss : List (List (Value × Nat))) : Prop where
  bel : Below z w wr
  zq : z + 2 ≤ q
  arg : wr.heap[z]? = some (.cells #[.int .i64 k, .string ⟨n.toArray⟩, vx] 24 (0, 0))
  res : wr.heap[z + 1]? = some (.cells #[.int .i64 0, .string ⟨#[]⟩, .slice none 0 0] 24 (0, 0))
  made : wr.heap[q]? = some (.cells #[.int .i64 k, .string ⟨n.toArray⟩, v] 24 (0, 0))
  row : RowO wr (q + 1) D v es us rss
theorem cellA {w : World} {p : Addr} {v : Value} (h : w.cell? p = some v) (o : Obj) : (w.alloc o).cell? p = some v := by
  have hlt : p.block < w.heap.size := by
    rcases Nat.lt_or_ge p.block w.heap.size with h1 | h1
    · exact h1
    · simp [World.cell?, Array.getElem?_eq_none h1] at h
  rw [World.cell?_of_block (Below.heap_alloc w o _ hlt)]
  exact h
theorem setCell_else {W : World} {b i g : Nat} {v : Value} (h : g ≠ b) : (W.setCell ⟨b, i, none⟩ v).heap[g]? = W.heap[g]? := Below.heap_setCell _ _ _ _ h
/-- One more argument. -/
theorem PtS.step {w : World} {z q : Nat} {k : Int} {n : List UInt8} {vx : Value} {D : Nat} {wr : World} {va : Option Addr} {vc : Nat} {es : List El} {us : List (Tn D)} {rss : List (List (Value × Nat))} {j0 : Nat} (h : PtS w z q k n vx D wr (.slice va j0 vc) es us rss) (hj0 : us.length = j0)
    {U w2 w3 : World} (hU : Below wr.heap.size wr U) (hb2 : Below U.heap.size U w2) {e : El} {t : Tn D} {rws : List (Value × Nat)} (T : TyO w2 U.heap.size D (elV e) t rws) (S2 : SepB U.heap.size w2.heap.size rws) {o : Obj} {g cap3 : Nat}
    (hown : w3.ownsRow (q + 1) 24 3 (.slice (some ⟨g, 0, none⟩) (j0 + 1) cap3) (j0 + 1) (es.flatMap elCells ++ elCells e)) (hgrow : (w2.alloc o).grownBy w3 (Value.slice va j0 vc).ownBlock) (hat : (Value.slice va j0 vc).ownBlock = some g ∨ g = w2.heap.size + 1) :
    w3.heap[q]? = some (.cells #[.int .i64 k, .string ⟨n.toArray⟩, .slice va j0 vc] 24 (0, 0)) ∧ ∃ V, V = w3.setCell ⟨q, 2, none⟩ (.slice (some ⟨g, 0, none⟩) (j0 + 1) cap3) ∧ PtS w z q k n vx D V (.slice (some ⟨g, 0, none⟩) (j0 + 1) cap3) (es ++ [e]) (us ++ [t]) (rss ++ [rws]) ∧ ∀ j, wr.heap.size ≤ j → j < w2.heap.size → w3.heap[j]? = w2.heap[j]? := by
  have hq := lt_of_heap h.made
  have hzq := h.zq
  have hsU := hU.size
  have hs2 := hb2.size
  have hvb : ∀ j, (Value.slice va j0 vc).ownBlock = some j → q + 1 ≤ j ∧ j < wr.heap.size := fun j hj => h.row.own.lt j hj
  have hbl : ∀ j, j < w2.heap.size → some j ≠ (Value.slice va j0 vc).ownBlock → w3.heap[j]? = w2.heap[j]? := fun j hj hne => by
    rw [hgrow.block j (by simp; omega) hne]
    exact Below.heap_alloc _ _ _ hj
  have hlow : ∀ j, j < wr.heap.size → some j ≠ (Value.slice va j0 vc).ownBlock → w3.heap[j]? = wr.heap[j]? := fun j hj hne => by
    rw [hbl j (by omega) hne, hb2.block j (by omega), hU.block j hj]
  have hsz3 : w2.heap.size ≤ w3.heap.size := by have := hgrow.size; simp at this; omega
  have hq3 : w3.heap[q]? = some (.cells #[.int .i64 k, .string ⟨n.toArray⟩, .slice va j0 vc] 24 (0, 0)) := by
    rw [hlow q hq (fun e => by have := hvb q e.symm; omega)]
    exact h.made
  have row2 : RowO w2 (q + 1) D (.slice va j0 vc) es us rss := h.row.on (by omega) fun j _ hj => by rw [hb2.block j (by omega), hU.block j hj]
  have row3 : RowO w3 (q + 1) D (.slice (some ⟨g, 0, none⟩) (j0 + 1) cap3) (es ++ [e]) (us ++ [t]) (rss ++ [rws]) := by
    refine row2.snoc (by omega) T S2 hs2 ⟨fun p hp => ?_, row2.sep.2⟩ (fun j hj => by have := hvb j hj; omega) ?_ hsz3 hbl ?_
    · obtain ⟨g', e1, e2, e3⟩ := h.row.sep.1 p hp
      exact ⟨g', e1, e2, by omega⟩
    · rw [h.row.len, hj0]; exact hown
    · rcases hat with hat | hat
      · exact .inl hat.symm
      · exact .inr ⟨g, rfl, by omega⟩
  refine ⟨hq3, _, rfl, ⟨?_, h.zq, ?_, ?_, ?_, ?_⟩, fun j h1 h2 => hbl j h2 (fun e => by have := hvb j e.symm; omega)⟩
  · refine ⟨hgrow.os.trans (hb2.os.trans (hU.os.trans h.bel.os)), hgrow.tape.trans (hb2.tape.trans (hU.tape.trans h.bel.tape)), hgrow.output.trans (hb2.output.trans (hU.output.trans h.bel.output)), ?_, fun j hj => ?_⟩
    · have := h.bel.size
      simp
      omega
    · rw [setCell_else (by omega), hlow j (by omega) (fun e => by have := hvb j e.symm; omega)]
      exact h.bel.block j hj
  · rw [setCell_else (by omega), hlow z (by omega) (fun e => by have := hvb z e.symm; omega)]
    exact h.arg
  · rw [setCell_else (by omega), hlow (z + 1) (by omega) (fun e => by have := hvb (z + 1) e.symm; omega)]
    exact h.res
  · rw [setCell_block hq3]
    simp
  · exact row3.on (by simp) fun j hj _ => setCell_else (by omega)
set_option maxHeartbeats 16000000 in
set_option maxRecDepth 10000 in
theorem put_node (d D : Nat) (f : Tn d → Tn D) (b m : Nat) (s : List UInt8 → Option Value) (hS : ∀ x v, s x = some v → ∃ (k : Int) (n : ByteArray) (ad : Option Addr) (len cap : Nat), v = .agg #[.int .i64 k, .string n, .slice ad len cap])
    (k : Int) (n : List UInt8) (ts : List (Tn d))
    (w : World) (IH : ∀ (x : Value), ∀ t ∈ ts, ∀ (W : World) (B : Nat), B ≤ W.heap.size → TyAt W B d x t → Below w.heap.size w W → Calls Tryz.prog 66 #[.map (some b), x] W (PutPost W D (f t)))
    (v : Value) (B : Nat) (hB : B ≤ w.heap.size) (hn : n.length < 140737488355328) (hr : RowP w B (TyAt w B d) v ts) (hM : Mv w b m s) (hno : ¬ (k = 2 ∧ (s n).isSome = true)) (hts : ts.length ≤ 100000) :
    Calls Tryz.prog 66 #[.map (some b), .agg #[.int .i64 k, .string ⟨n.toArray⟩, v]] w (PutPost w (D + 1) ((k, n), ts.map f)) := by
  obtain ⟨ad, cap, rfl⟩ := hr.len
  have hEX : ∃ W, W = (w.alloc (Obj.cells #[.int .i64 k, .string ⟨n.toArray⟩, .slice ad ts.length cap] 24)).alloc (Obj.cells #[.int .i64 0, .string ⟨#[]⟩, .slice none 0 0] 24) := ⟨_, rfl⟩
  obtain ⟨W, hW⟩ := hEX
  have hbW : Below w.heap.size w W := by rw [hW]; exact ((Below.refl _ _).alloc (Nat.le_refl _) _).alloc (by simp) _
  have hsW : W.heap.size = w.heap.size + 2 := by rw [hW]; simp
  have arg : W.heap[w.heap.size]? = some (.cells #[.int .i64 k, .string ⟨n.toArray⟩, .slice ad ts.length cap] 24 (0, 0)) := by
    rw [hW, Below.heap_alloc _ _ _ (by simp)]
    show (w.heap.push _)[w.heap.size]? = _
    simp
  have res : W.heap[w.heap.size + 1]? = some (.cells #[.int .i64 0, .string ⟨#[]⟩, .slice none 0 0] 24 (0, 0)) := by
    rw [hW]
    show ((w.heap.push _).push _)[w.heap.size + 1]? = _
    rw [Array.getElem?_push, if_pos (by simp)]
  obtain ⟨lk, ln, la, ll, lc, okb, hlk, hok⟩ : ∃ (lk : Int) (ln : ByteArray) (la : Option Addr) (ll lc : Nat) (okb : Bool), (Instr.lookup 98 (.map (some b)) (.string ⟨n.toArray⟩) true).run Tryz.prog W = .ok (.tuple #[.agg #[.int .i64 lk, .string ln, .slice la ll lc], .bool okb]) W ∧ okb = (s n).isSome := by
    have := (hM.below hbW).look n hn
    cases hs : s n with
    | none => rw [hs] at this; exact ⟨_, _, _, _, _, _, this, rfl⟩
    | some u =>
      obtain ⟨a1, a2, a3, a4, a5, rfl⟩ := hS n u hs
      rw [hs] at this
      exact ⟨_, _, _, _, _, _, this, rfl⟩
  rw [← hok] at hno
  clear hok hS
  obtain ⟨x0, x1, x2⟩ := heap_cells arg
  obtain ⟨r0, r1, r2⟩ := heap_cells res
  have HSW : Hid (W.heap.size = w.heap.size + 2) := hsW
  have HIH : Hid (∀ (x : Value), ∀ t ∈ ts, ∀ (W : World) (B : Nat), B ≤ W.heap.size → TyAt W B d x t → Below w.heap.size w W → Calls Tryz.prog 66 #[.map (some b), x] W (PutPost W D (f t))) := IH
  have HCE : Hid (RowP w B (TyAt w B d) (.slice ad ts.length cap) ts) := hr
  clear hsW IH hr
  go_enter Tryz.func66, Tryz.ntmps66
  go_upto_region 1 with fail
  rw [← hW]
  clear hW
  generalize hz : w.heap.size = z at *
  have HZ : Hid (w.heap.size = z) := hz
  go_upto_region 2 with fail
  obtain ⟨W1, hW1⟩ : ∃ W1, W1 = W.alloc (Obj.cells #[.int .i64 lk, .string ln, .slice la ll lc] 24) := ⟨_, rfl⟩
  rw [← hW1]
  have hbW1 : Below W.heap.size W W1 := by rw [hW1]; exact (Below.refl _ _).alloc (Nat.le_refl _) _
  have HS1 : Hid (W1.heap.size = z + 3) := by show W1.heap.size = z + 3; rw [hW1]; simp [HSW.out]
  have arg1 := (hbW1.block _ (lt_of_heap arg)).trans arg
  have res1 := (hbW1.block _ (lt_of_heap res)).trans res
  clear hW1 x0 x1 x2 r0 r1 r2 hlk
  obtain ⟨x0, x1, x2⟩ := heap_cells arg1
  have hb1 : Below z w W1 := hbW.trans (hbW1.mono (by have := HSW.out; omega))
  clear hbW1 arg res hbW
  go_cut [22] from 17 to 22 (fun c wc => c = .bool false ∧ wc = W1)
  case first =>
    cases okb with
    | false =>
      go_wp2
      go_meet
      exact ⟨rfl, rfl⟩
    | true =>
      have hk : (k == 2) = false := by simpa using hno
      go_wp2
      go_meet
      exact ⟨rfl, rfl⟩
  case rest =>
    obtain ⟨rfl, hwc⟩ := hcut
    have hwc := hwc.symm
    subst hwc
    go_upto_region 5 with fail
    obtain ⟨W2, hW2⟩ : ∃ W2, W2 = W1.alloc (Obj.cells #[.int .i64 k, .string ⟨n.toArray⟩, .slice none 0 0] 24) := ⟨_, rfl⟩
    rw [← hW2]
    have hbW2 : Below W1.heap.size W1 W2 := by rw [hW2]; exact (Below.refl _ _).alloc (Nat.le_refl _) _
    have H0 : Hid (PtS w z W1.heap.size k n (.slice ad ts.length cap) D W2 (.slice none 0 0) [] ((ts.take 0).map f) []) :=
      ⟨hb1.trans (hbW2.mono (by have := HS1.out; omega)), by have := HS1.out; omega, (hbW2.block _ (lt_of_heap arg1)).trans arg1, (hbW2.block _ (lt_of_heap res1)).trans res1, by rw [hW2]; exact heap_alloc_new W1 _, RowO.nil _ _ _⟩
    have x2 : W2.cell? ⟨z, 2, none⟩ = some (.slice ad ts.length cap) := (heap_cells H0.out.arg).2.2
    clear hW2 hbW2 arg1 res1 x0 x1 hb1
    generalize W1.heap.size = q at *
    go_wp2
    obtain ⟨i0, hi, hz0, hz1, hz2⟩ := info_parts Tryz.info24
    clear x2 hz hwc
    go_loopw [33] (fun i wr => ∃ (j : Nat) (v : Value) (es : List El) (rss : List (List (Value × Nat))), j ≤ ts.length ∧ i = .int .i64 j ∧ Hid (PtS w z q k n (.slice ad ts.length cap) D wr v es ((ts.take j).map f) rss)) (fun i _ => ts.length - (intOf i).toNat)
    case atStart => exact ⟨0, _, _, _, by omega, by go_num, H0.out⟩
    case round =>
      obtain ⟨j, v, es, rss, hj, rfl, HP⟩ := hrel
      obtain ⟨va, vc, rfl⟩ := row_form HP.out.row
      have hul : ((ts.take j).map f).length = j := by rw [List.length_map, List.length_take]; omega
      rw [hul] at HP
      by_cases hlt : j < ts.length
      · have hlt' : (j : Int) < (ts.length : Int) := by omega
        obtain ⟨ad', cap', hsl, hcl⟩ := HCE.out.cells
        simp only [Value.slice.injEq, true_and] at hsl
        obtain ⟨rfl, rfl⟩ := hsl
        obtain ⟨g0, o0, hadr, hcapt, hgB, hel⟩ := hcl (by intro e; rw [e] at hlt; simp at hlt)
        subst hadr
        obtain ⟨k1, n1, ad1, l1, cp1, hcel, T1⟩ := hel j hlt
        obtain ⟨p0, p1, p2⟩ := hcel wr (HP.out.bel.mono hB)
        have CJ : ∀ U, Below z w U → Calls Tryz.prog 66 #[.map (some b), .agg #[.int .i64 k1, .string n1, .slice ad1 l1 cp1]] U (PutPost U D (f ts[j])) := fun U hU => HIH.out _ _ (List.getElem_mem hlt) U B (Nat.le_trans hB (by have := hU.size; have := HZ.out; omega)) (T1.on (hU.mono hB)) hU
        have hq := lt_of_heap HP.out.made
        have hel0 : es.length = j := by have := HP.out.row.len; rw [hul] at this; exact this
        have HOW : Hid (wr.ownsRow (q + 1) 24 3 (.slice va j vc) j (es.flatMap elCells)) := by have := HP.out.row.own; rw [hel0] at this; exact this
        have hjn : j ≤ 100000 := by omega
        clear hel hcl hcel T1 H0
        go_upto_block 1 with fail
        go_cut [33] from 34 to 44 (fun i wx => i = .int .i64 j ∧ ∃ v' es' rss', Hid (PtS w z q k n (.slice (some ⟨g0, o0, none⟩) ts.length cap) D wx v' es' ((ts.take (j + 1)).map f) rss'))
        case first =>
          go_upto_region 8 with fail
          obtain ⟨U, hU⟩ : ∃ U, U = wr.alloc (Obj.cells #[.int .i64 k1, .string n1, .slice ad1 l1 cp1] 24) := ⟨_, rfl⟩
          rw [← hU]
          have hbU : Below wr.heap.size wr U := by rw [hU]; exact (Below.refl _ _).alloc (Nat.le_refl _) _
          have hbox : U.heap[wr.heap.size]? = some (.cells #[.int .i64 k1, .string n1, .slice ad1 l1 cp1] 24 (0, 0)) := by rw [hU]; exact heap_alloc_new wr _
          have hlU : wr.heap.size < U.heap.size := lt_of_heap hbox
          have HbU : Hid (Below wr.heap.size wr U) := hbU
          have HzU : Hid (Below z w U) := HP.out.bel.trans (hbU.mono (by have := HP.out.zq; omega))
          have HK0 : Hid (U.cell? ⟨q, 2, none⟩ = some (.slice va j vc) ∧ U.cell? ⟨wr.heap.size, 0, none⟩ = some (.int .i64 k1) ∧ U.cell? ⟨wr.heap.size, 1, none⟩ = some (.string n1) ∧ U.cell? ⟨wr.heap.size, 2, none⟩ = some (.slice ad1 l1 cp1)) :=
            ⟨(hbU.cell (p := ⟨q, 2, none⟩) hq).trans (heap_cells HP.out.made).2.2, heap_cells hbox⟩
          have HPS := HP
          have hqU : q < U.heap.size := by omega
          generalize hp9 : wr.heap.size = p9 at hbU hbox hlU hq HK0 ⊢
          have HP9 : Hid (wr.heap.size = p9) := hp9
          clear hU hbU hbox hp9 p0 p1 p2 HCE x2
          obtain ⟨y2, b0, b1, b2⟩ := HK0.out
          go_region_law (first
            | (go_simp; go_at_call 66; (with_reducible refine Calls.mono (CJ _ HzU.out.drew) ?_); intro e' w2 hp; obtain ⟨hb2, k2, n2, ad2, l2, cp2, rws2, rfl, hT2, hS2⟩ := hp; have c2 : w2.cell? ⟨q, 2, none⟩ = some (.slice va j vc) := (hb2.cell (p := ⟨q, 2, none⟩) hqU).trans HK0.out.1; have own2 : w2.ownsRow (q + 1) 24 3 (.slice va j vc) j (es.flatMap elCells) := own_keep HOW.out (fun g hg => by have h1 := (HOW.out.lt g hg).2; have h2 := HP9.out; rw [hb2.block g (by show g < U.heap.size; omega)]; exact HbU.out.block g h1); have hU2 : U.heap.size ≤ w2.heap.size := hb2.size; have KA : ∀ o, (w2.alloc o).cell? ⟨q, 2, none⟩ = some (.slice va j vc) := fun o => cellA c2 o)
            | (refine step_append_lies _ (by rfl) _ _ _ (by rfl) (q + 1) 24 i0 _ 3 48 Tryz.underlying22 hi hz0 hz1 hz2 rfl (by omega) (.slice va j vc) j (es.flatMap elCells) (by rfl) (own2.alloc _) ⟨w2.heap.size, 0, none⟩ 1 1 [.int .i64 k2, .string n2, .slice ad2 l2 cp2] (by rfl) (by rfl) (World.news_of_block (cs := #[.int .i64 k2, .string n2, .slice ad2 l2 cp2]) (t := 24) (fr := (0, 0)) (heap_alloc_new w2 _)) (by simp [Value.oneCell']) (by omega) (by unfold maxLen; omega) (by omega) (by simp; omega) (w2.heap.size + 1) (by simp) ?_; intro g cap3 w3 hown3 hgrow hat hlt3; obtain ⟨hq3, V, hV, HPV, hb3⟩ := HPS.out.step hul HbU.out.drew hb2 (e := (k2, n2, .slice ad2 l2 cp2)) hT2 hS2 hown3 hgrow hat; obtain ⟨e0, e1, e2⟩ := heap_cells hq3; have f2 := heap_frozen (o := 2) hq3))
          all_goals
            rw [← hV]
            have HPV : Hid (PtS w z q k n (.slice (some ⟨g0, o0, none⟩) ts.length cap) D V (.slice (some ⟨g, 0, none⟩) (j + 1) cap3) (es ++ [(k2, n2, .slice ad2 l2 cp2)]) ((ts.take j).map f ++ [f ts[j]]) (rss ++ [rws2])) := HPV
            clear hV hb3 hown3 hgrow hat hlt3 hT2 hS2 e0 e1 e2 f2 own2 KA
            go_wp2_with fail
            go_meet
            exact ⟨rfl, _, _, _, by rw [List.take_succ_eq_append_getElem hlt, List.map_append]; exact HPV.out⟩
        case rest =>
          obtain ⟨rfl, v', es', rss', HP'⟩ := hcut
          clear HP CJ HOW hul hel0
          go_wp2
          go_roundw
          case rel => exact ⟨j + 1, _, _, _, hlt, by go_num, HP'⟩
          case measure => simp [intOf]; omega
      · have hlt' : ¬ (j : Int) < (ts.length : Int) := by omega
        have hjt : ts.take j = ts := List.take_of_length_le (by omega)
        rw [hjt] at HP
        obtain ⟨m0, m1, m2⟩ := heap_cells HP.out.made
        obtain ⟨r0, r1, r2⟩ := heap_cells HP.out.res
        have f0 := heap_frozen (o := 0) HP.out.res
        have f1 := heap_frozen (o := 1) HP.out.res
        have f2 := heap_frozen (o := 2) HP.out.res
        go_wp2
        obtain ⟨V, hV, hv1, hoth, hszV, hbV⟩ := store3 HP.out.res (.int .i64 k) (.string ⟨n.toArray⟩) (.slice va j vc)
        rw [← hV]
        obtain ⟨s0, s1, s2⟩ := heap_cells hv1
        refine bodyPost_ret (v := .agg #[.int .i64 k, .string ⟨n.toArray⟩, .slice va j vc]) (by simp [results, Tryz.results66, go_sem, s0, s1, s2]) rfl ?_
        have hzq := HP.out.zq
        have hq := lt_of_heap HP.out.made
        have row : RowO V (q + 1) D (.slice va j vc) es (ts.map f) rss := HP.out.row.on (by omega) fun g hg _ => hoth g (by omega)
        have hl : (ts.map f).length = j := by rw [← hjt]; exact hul
        show Below w.heap.size w V ∧ _
        rw [HZ.out]
        refine ⟨HP.out.bel.trans (hbV.mono (by omega)), k, ⟨n.toArray⟩, va, j, vc, ?_⟩
        by_cases h0 : ts = []
        · subst h0
          have hj0 : j = 0 := by simpa using hl.symm
          subst hj0
          exact ⟨[], rfl, ⟨_, rfl, hn, by simp, .inl ⟨rfl, ⟨_, _, rfl⟩, rfl⟩⟩, ⟨fun p hp => by simp at hp, by simp⟩⟩
        · obtain ⟨hT, hSp⟩ := row.tree (by simpa using h0) k n hn (by rw [hl]; omega)
          refine ⟨_, rfl, TyO.mono (by omega) _ _ _ _ hT, ⟨fun p hp => ?_, hSp.2⟩⟩
          obtain ⟨g', e1, e2, e3⟩ := hSp.1 p hp
          exact ⟨g', e1, by omega, e3⟩
end Go.Proofs.YtgdflaapgfpdeaaGreatDoor

namespace Go.Proofs.YtgdflaapgfpdeaaGreatDoor
open Go.RowKit

/-- A tree that was made from a later block on. -/
theorem PutPost.mono {w U : World} {D : Nat} {t : Tn D} {r : Ending} {w' : World} (hb : Below w.heap.size w U) (h : PutPost U D t r w') : PutPost w D t r w' := by
  obtain ⟨h1, k, n, ad, len, cap, rws, h2, h3, h4⟩ := h
  refine ⟨hb.trans (h1.mono hb.size), k, n, ad, len, cap, rws, h2, TyO.mono hb.size _ _ _ _ h3, ⟨fun p hp => ?_, h4.2⟩⟩
  obtain ⟨g, e1, e2, e3⟩ := h4.1 p hp
  exact ⟨g, e1, Nat.le_trans hb.size e2, e3⟩
/-- The answer is stored where results lie. -/
theorem PutPost.store {w w1 : World} {z D : Nat} {t : Tn D} {k : Int} {n : ByteArray} {ad : Option Addr} {len cap : Nat} {rws : List (Value × Nat)} {V : World} (hw : w.heap.size ≤ z) (hb : Below w.heap.size w V) (hoth : ∀ g, g ≠ z → V.heap[g]? = w1.heap[g]?) (hs : V.heap.size = w1.heap.size) {lo : Nat} (hlo : z < lo)
    (hT : TyO w1 lo D (.agg #[.int .i64 k, .string n, .slice ad len cap]) t rws) (hS : SepB lo w1.heap.size rws) : PutPost w D t (.returned (.agg #[.int .i64 k, .string n, .slice ad len cap])) V := by
  refine ⟨hb, k, n, ad, len, cap, rws, rfl, TyO.mono (by omega) _ _ _ _ (TyO.on _ _ _ _ (fun p hp g hg => hoth g ?_) hT), ⟨fun p hp => ?_, hS.2⟩⟩
  · obtain ⟨g', e1, e2, e3⟩ := hS.1 p hp
    rw [hg] at e1
    have := Option.some.inj e1
    omega
  · obtain ⟨g', e1, e2, e3⟩ := hS.1 p hp
    exact ⟨g', e1, by omega, by omega⟩
set_option maxHeartbeats 16000000 in
set_option maxRecDepth 10000 in
theorem put_var (b m : Nat) (s : List UInt8 → Option Value) (n : List UInt8) (v : Value) (w : World) (hn : n.length < 140737488355328) (hM : Mv w b m s) (lk : Int) (ln : ByteArray) (la : Option Addr) (ll lc : Nat) (hs : s n = some (.agg #[.int .i64 lk, .string ln, .slice la ll lc])) (hv : ∃ ad len cap, v = .slice ad len cap)
    (D : Nat) (g : Tn D) (CA : ∀ U, Below w.heap.size w U → Calls Tryz.prog 76 #[.agg #[.int .i64 lk, .string ln, .slice la ll lc]] U (PutPost U D g)) :
    Calls Tryz.prog 66 #[.map (some b), .agg #[.int .i64 2, .string ⟨n.toArray⟩, v]] w (PutPost w D g) := by
  obtain ⟨ad, len, cap, rfl⟩ := hv
  have hEX : ∃ W, W = (w.alloc (Obj.cells #[.int .i64 2, .string ⟨n.toArray⟩, .slice ad len cap] 24)).alloc (Obj.cells #[.int .i64 0, .string ⟨#[]⟩, .slice none 0 0] 24) := ⟨_, rfl⟩
  obtain ⟨W, hW⟩ := hEX
  have hbW : Below w.heap.size w W := by rw [hW]; exact ((Below.refl _ _).alloc (Nat.le_refl _) _).alloc (by simp) _
  have hsW : W.heap.size = w.heap.size + 2 := by rw [hW]; simp
  have arg : W.heap[w.heap.size]? = some (.cells #[.int .i64 2, .string ⟨n.toArray⟩, .slice ad len cap] 24 (0, 0)) := by
    rw [hW, Below.heap_alloc _ _ _ (by simp)]
    show (w.heap.push _)[w.heap.size]? = _
    simp
  have res : W.heap[w.heap.size + 1]? = some (.cells #[.int .i64 0, .string ⟨#[]⟩, .slice none 0 0] 24 (0, 0)) := by
    rw [hW]
    show ((w.heap.push _).push _)[w.heap.size + 1]? = _
    rw [Array.getElem?_push, if_pos (by simp)]
  have hlk : (Instr.lookup 98 (.map (some b)) (.string ⟨n.toArray⟩) true).run Tryz.prog W = .ok (.tuple #[.agg #[.int .i64 lk, .string ln, .slice la ll lc], .bool true]) W := by
    have := (hM.below hbW).look n hn
    rw [hs] at this
    exact this
  obtain ⟨x0, x1, x2⟩ := heap_cells arg
  obtain ⟨W1, hW1⟩ : ∃ W1, W1 = W.alloc (Obj.cells #[.int .i64 lk, .string ln, .slice la ll lc] 24) := ⟨_, rfl⟩
  have hbW1 : Below W.heap.size W W1 := by rw [hW1]; exact (Below.refl _ _).alloc (Nat.le_refl _) _
  have arg1 := (hbW1.block _ (lt_of_heap arg)).trans arg
  have HR1 : Hid (W1.heap[w.heap.size + 1]? = some (.cells #[.int .i64 0, .string ⟨#[]⟩, .slice none 0 0] 24 (0, 0))) := (hbW1.block _ (lt_of_heap res)).trans res
  have hb1 : Below w.heap.size w W1 := hbW.trans (hbW1.mono (by omega))
  have HS1 : Hid (W1.heap.size = w.heap.size + 3) := by show W1.heap.size = w.heap.size + 3; rw [hW1]; simp [hsW]
  have CA1 := CA W1 hb1
  have HB1 : Hid (Below w.heap.size w W1) := hb1
  clear CA hM hs hbW hsW res hbW1
  go_enter Tryz.func66, Tryz.ntmps66
  go_upto_region 1 with fail
  rw [← hW]
  clear hW
  go_upto_region 2 with fail
  rw [← hW1]
  have box1 : W1.heap[W.heap.size]? = some (.cells #[.int .i64 lk, .string ln, .slice la ll lc] 24 (0, 0)) := by rw [hW1]; exact heap_alloc_new W _
  clear hW1 x0 x1 x2 hlk arg
  obtain ⟨x0, x1, x2⟩ := heap_cells arg1
  obtain ⟨y0, y1, y2⟩ := heap_cells box1
  have res1 := HR1.out
  have HX : Hid (∀ w2, Below W1.heap.size W1 w2 → w2.heap[w.heap.size + 1]? = some (.cells #[.int .i64 0, .string ⟨#[]⟩, .slice none 0 0] 24 (0, 0))) := fun w2 h => (h.block _ (lt_of_heap HR1.out)).trans HR1.out
  clear res1 hb1
  go_wp2_with (go_at_call 76; (with_reducible refine Calls.mono CA1 ?_); intro e' w2 hp; obtain ⟨hb2, k2, n2, ad2, l2, cp2, rws2, rfl, hT2, hS2⟩ := hp; have hr2 := HX.out w2 hb2; obtain ⟨r0, r1, r2⟩ := heap_cells hr2; have f0 := heap_frozen (o := 0) hr2; have f1 := heap_frozen (o := 1) hr2; have f2 := heap_frozen (o := 2) hr2)
  obtain ⟨V, hV, hv1, hoth, hszV, hbV⟩ := store3 hr2 (.int .i64 k2) (.string n2) (.slice ad2 l2 cp2)
  rw [← hV]
  obtain ⟨s0, s1, s2⟩ := heap_cells hv1
  refine bodyPost_ret (v := .agg #[.int .i64 k2, .string n2, .slice ad2 l2 cp2]) (by simp [results, Tryz.results66, go_sem, s0, s1, s2]) rfl ?_
  have hs1 := HS1.out
  exact PutPost.store (by omega) ((HB1.out.trans (hb2.mono (by omega))).trans (hbV.mono (by omega))) hoth hszV (lo := W1.heap.size) (by omega) hT2 hS2
set_option maxHeartbeats 16000000 in
set_option maxRecDepth 10000 in
theorem anew_of (d D : Nat) (x : Value) (t : Tn d) (g : Tn D) (w : World) (B : Nat) (h : TyAt w B d x t)
    (CP : ∀ (b : Nat) (U : World), Below w.heap.size w U → Mv U b 0 (fun _ => none) → Calls Tryz.prog 66 #[.map (some b), x] U (PutPost U D g)) : Calls Tryz.prog 76 #[x] w (PutPost w D g) := by
  obtain ⟨d, rfl⟩ : ∃ e, d = e + 1 := by
    cases d with
    | zero => exact h.elim
    | succ e => exact ⟨e, rfl⟩
  obtain ⟨v, hx, h1, h2, hr⟩ := h
  subst hx
  obtain ⟨ad, cap, rfl⟩ := hr.len
  generalize t.1.1 = k at *
  generalize t.1.2 = n at *
  generalize t.2.length = len at *
  clear hr h2
  have hEX : ∃ W, W = (w.alloc (Obj.cells #[.int .i64 k, .string ⟨n.toArray⟩, .slice ad len cap] 24)).alloc (Obj.cells #[.int .i64 0, .string ⟨#[]⟩, .slice none 0 0] 24) := ⟨_, rfl⟩
  obtain ⟨W, hW⟩ := hEX
  have hbW : Below w.heap.size w W := by rw [hW]; exact ((Below.refl _ _).alloc (Nat.le_refl _) _).alloc (by simp) _
  have hsW : W.heap.size = w.heap.size + 2 := by rw [hW]; simp
  have arg : W.heap[w.heap.size]? = some (.cells #[.int .i64 k, .string ⟨n.toArray⟩, .slice ad len cap] 24 (0, 0)) := by
    rw [hW, Below.heap_alloc _ _ _ (by simp)]
    show (w.heap.push _)[w.heap.size]? = _
    simp
  have res : W.heap[w.heap.size + 1]? = some (.cells #[.int .i64 0, .string ⟨#[]⟩, .slice none 0 0] 24 (0, 0)) := by
    rw [hW]
    show ((w.heap.push _).push _)[w.heap.size + 1]? = _
    rw [Array.getElem?_push, if_pos (by simp)]
  have hmm := @run_makeMap Tryz.prog
  have hbM : Below W.heap.size W (W.alloc (.map #[] 0)) := (Below.refl _ _).alloc (Nat.le_refl _) _
  have hb1 : Below w.heap.size w (W.alloc (.map #[] 0)) := hbW.trans (hbM.mono (by omega))
  have CA1 := CP W.heap.size (W.alloc (.map #[] 0)) hb1 (Mv.made W)
  have HB1 : Hid (Below w.heap.size w (W.alloc (.map #[] 0))) := hb1
  have HS1 : Hid (W.heap.size = w.heap.size + 2) := hsW
  have argM := (hbM.block _ (lt_of_heap arg)).trans arg
  have HX : Hid (∀ w2, Below (W.alloc (.map #[] 0)).heap.size (W.alloc (.map #[] 0)) w2 → w2.heap[w.heap.size + 1]? = some (.cells #[.int .i64 0, .string ⟨#[]⟩, .slice none 0 0] 24 (0, 0))) := fun w2 h => (h.block _ (by simp; omega)).trans ((hbM.block _ (lt_of_heap res)).trans res)
  obtain ⟨x0, x1, x2⟩ := heap_cells argM
  clear CP hbW hsW res hbM hb1 arg argM h1
  go_enter Tryz.func76, Tryz.ntmps76
  go_upto_region 1 with fail
  rw [← hW]
  clear hW
  go_wp2_with (go_at_call 66; (with_reducible refine Calls.mono CA1 ?_); intro e' w2 hp; obtain ⟨hb2, k2, n2, ad2, l2, cp2, rws2, rfl, hT2, hS2⟩ := hp; have hr2 := HX.out w2 hb2; obtain ⟨r0, r1, r2⟩ := heap_cells hr2; have f0 := heap_frozen (o := 0) hr2; have f1 := heap_frozen (o := 1) hr2; have f2 := heap_frozen (o := 2) hr2)
  obtain ⟨V, hV, hv1, hoth, hszV, hbV⟩ := store3 hr2 (.int .i64 k2) (.string n2) (.slice ad2 l2 cp2)
  rw [← hV]
  obtain ⟨s0, s1, s2⟩ := heap_cells hv1
  refine bodyPost_ret (v := .agg #[.int .i64 k2, .string n2, .slice ad2 l2 cp2]) (by simp [results, Tryz.results76, go_sem, s0, s1, s2]) rfl ?_
  have hs1 := HS1.out
  exact PutPost.store (by omega) ((HB1.out.trans (hb2.mono (by simp; omega))).trans (hbV.mono (by omega))) hoth hszV (lo := (W.alloc (.map #[] 0)).heap.size) (by simp; omega) hT2 hS2
end Go.Proofs.YtgdflaapgfpdeaaGreatDoor
