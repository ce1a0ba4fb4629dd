/- branch: the switch that looks at a column. -/
import Derived.Test.YtpdmkhnonbbhnaaMkx
namespace Go.Proofs.Ytpdmkhnonbbhnaa
open Go.RowKit Go.Maps

structure BrIn (k : Kn) (fs : List Fam) (fa : Option Addr) (fc b m : Nat) (f n : Nat) (cols : List Col) (rows : List Nat) (cv rv : Value) (S : Nat → Prop) (w : World) : Prop where
  fuel : 5001 ≤ n + f ∧ f ≤ 5000 ∧ n ≤ 5000
  blk : w.heap[m]? = some (.cells #[.slice fa fs.length fc, .map (some b), .int .i64 n] 65 (0, 0))
  set : ∀ x, S x → x < w.heap.size ∧ x ≠ m
  map : MapK w b k
  mapne : b ≠ m
  fams : Fams w S (.slice fa fs.length fc) fs
  hcols : Cols w S cv cols
  hrows : Nats w S rv rows
  good : ∀ c ∈ cols, Good k (5001 - f) c
  num : cols.length ≤ 16 + 8 * (5000 - f)
  rise : rows.Pairwise (· < ·)
  low : ∀ r ∈ rows, r < 200
theorem names_len {w : World} {S : Nat → Prop} {v : Value} {spots : List Sp} (h : Spots w S v spots) : ∀ s ∈ spots, s.2.name.length < 140737488355328 := by
  obtain ⟨L, hL, _, hp⟩ := h.list
  intro s hs
  rw [← hL] at hs
  obtain ⟨r, hr, rfl⟩ := List.mem_map.1 hs
  exact (hp r hr).open.2.2.2.2.1
theorem store5 {w : World} {R : Nat} {c0 c1 c2 c3 c4 : Value} {t : TypeId} (h : w.heap[R]? = some (.cells #[c0, c1, c2, c3, c4] t (0, 0))) (v0 v1 v2 v3 v4 : Value) :
    ∃ U, U = ((((w.setCell ⟨R, 0, none⟩ v0).setCell ⟨R, 1, none⟩ v1).setCell ⟨R, 2, none⟩ v2).setCell ⟨R, 3, none⟩ v3).setCell ⟨R, 4, none⟩ v4 ∧ U.heap[R]? = some (.cells #[v0, v1, v2, v3, v4] t (0, 0)) ∧ U.heap.size = w.heap.size ∧ (∀ x, x ≠ R → U.heap[x]? = w.heap[x]?) ∧ U.os = w.os ∧ U.tape = w.tape ∧ U.output = w.output := by
  have a0 := setCell_block (i := 0) (v := v0) h
  have a1 := setCell_block (i := 1) (v := v1) a0
  have a2 := setCell_block (i := 2) (v := v2) a1
  have a3 := setCell_block (i := 3) (v := v3) a2
  have a4 := setCell_block (i := 4) (v := v4) a3
  have hk := (((((Kx.refl R w).setCell 0 v0).setCell 1 v1).setCell 2 v2).setCell 3 v3).setCell 4 v4
  have e : ((((#[c0, c1, c2, c3, c4].setIfInBounds 0 v0).setIfInBounds 1 v1).setIfInBounds 2 v2).setIfInBounds 3 v3).setIfInBounds 4 v4 = #[v0, v1, v2, v3, v4] := rfl
  rw [e] at a4
  refine ⟨_, rfl, a4, by simp [World.setCell], fun x hx => ?_, hk.os, hk.tape, hk.output⟩
  rw [Below.heap_setCell _ _ _ _ hx, Below.heap_setCell _ _ _ _ hx, Below.heap_setCell _ _ _ _ hx, Below.heap_setCell _ _ _ _ hx, Below.heap_setCell _ _ _ _ hx]
theorem put_else {w : World} {T : Nat} {c0 c1 c2 c3 c4 : Value} {t t2 : TypeId} {X : Array Value} (h : w.heap[T]? = some (.cells #[c0, c1, c2, c3, c4] t (0, 0))) (v : Value) :
    ∃ V, V = (w.alloc (Obj.cells X t2)).setCell ⟨T, 4, none⟩ v ∧ V.heap[T]? = some (.cells #[c0, c1, c2, c3, v] t (0, 0)) ∧ V.heap.size = w.heap.size + 1 ∧ V.heap[w.heap.size]? = some (.cells X t2 (0, 0)) ∧ (∀ x, x < w.heap.size → x ≠ T → V.heap[x]? = w.heap[x]?) ∧ V.os = w.os ∧ V.tape = w.tape ∧ V.output = w.output := by
  have hl := lt_of_heap h
  have hT : (w.alloc (Obj.cells X t2)).heap[T]? = some (.cells #[c0, c1, c2, c3, c4] t (0, 0)) := (Below.heap_alloc _ _ _ hl).trans h
  have a4 := setCell_block (i := 4) (v := v) hT
  have hk := (Kx.refl T (w.alloc (Obj.cells X t2))).setCell 4 v
  have hn := new_block w (Obj.cells X t2)
  have e : #[c0, c1, c2, c3, c4].setIfInBounds 4 v = #[c0, c1, c2, c3, v] := rfl
  rw [e] at a4
  refine ⟨_, rfl, a4, by simp [World.setCell], ?_, fun x hx hxT => ?_, hk.os, hk.tape, hk.output⟩
  · rw [Below.heap_setCell _ _ _ _ (show w.heap.size ≠ T by omega)]
    exact hn
  · rw [Below.heap_setCell _ _ _ _ hxT]
    exact Below.heap_alloc _ _ _ hx
theorem putCs_len (k : Kn) (c : Cs) : ∀ (l : List Cs), (putCs k c l).length ≤ l.length + 1
  | [] => Nat.le_refl _
  | a :: r => by
    have := putCs_len k c r
    unfold putCs
    split
    · simp
    · split <;> simp <;> omega
theorem casesOf_len (k : Kn) : ∀ (l : List Sp), (casesOf k l).length ≤ l.length
  | [] => Nat.le_refl _
  | a :: r => by
    have h1 := casesOf_len k r
    have h2 := putCs_len k (csOf a.2) (casesOf k r)
    show (putCs k (csOf a.2) (casesOf k r)).length ≤ r.length + 1
    omega
set_option maxHeartbeats 8000000 in
set_option maxRecDepth 10000 in
theorem branch_any {k : Kn} {fs : List Fam} {fa : Option Addr} {fc b m f n : Nat} {cols : List Col} {rows : List Nat} {cv rv : Value} {S : Nat → Prop} {w : World} (hK : KnOk k fs) (hT : TreeC k fs fa fc b m f) (h : BrIn k fs fa fc b m f n cols rows cv rv S w) (ax : Nat) (ha : ax < cols.length) (hne : ofRows cols[ax].2.2 rows ≠ []) :
    Calls Try.prog 35 #[.pointer (some ⟨m, 0, none⟩), cv, .int .i64 ax, rv] w (BrPost k fs fa fc b m f n cols rows ax cols[ax] w) := by
  have hml := lt_of_heap h.blk
  have hS0 : ∀ x, S x → x < w.heap.size := fun x hx => (h.set x hx).1
  have hrl : rows.length ≤ 200 := rise_len h.rise 200 h.low
  obtain ⟨ca, cc, rfl, hcol⟩ := RowP.open h.hcols
  obtain ⟨cg, co, rfl, hcc, hcj⟩ := hcol (fun e => by rw [e] at ha; simp at ha)
  obtain ⟨_, cb, p0, hcb⟩ := hcj ax ha
  have hg := h.good cols[ax] (List.getElem_mem ha)
  have hgs : S cg := (hcj ax ha).1
  rw [Nat.mul_one] at p0
  have HIN : Hid (BrIn k fs fa fc b m f n cols rows (.slice (some ⟨cg, co, none⟩) cols.length cc) rv S w) := h
  have HG : Hid (Good k (5001 - f) cols[ax]) := hg
  have HS0 : Hid (∀ x, S x → x < w.heap.size) := hS0
  -- the result's box
  have hW : ∃ W, W = w.alloc (Obj.cells #[.int .i64 0, .int .i64 0, .slice none 0 0, .slice none 0 0, .slice none 0 0] 32) ∧ Below w.heap.size w W ∧ W.heap.size = w.heap.size + 1 ∧ W.heap[w.heap.size]? = some (.cells #[.int .i64 0, .int .i64 0, .slice none 0 0, .slice none 0 0, .slice none 0 0] 32 (0, 0)) := ⟨_, rfl, (Below.refl _ _).alloc (Nat.le_refl _) _, by simp, new_block w _⟩
  obtain ⟨W, hW, hbW, hsW, hzW⟩ := hW
  have hkW : Keeps S w W := Keeps.of hbW hS0
  have CO := of_any (w := W) (S := S) cb cols[ax] rv rows (fun x hx => by have := hS0 x hx; omega) (hcb.on hkW) (h.hrows.on hkW) hrl hg.len h.rise
  have q0 := (hbW.cell (p := ⟨cg, co + ax, none⟩) (hS0 _ hgs)).trans p0
  have i1 : (0 : Int) ≤ (ax : Int) := by omega
  have i2 : (ax : Int) < (cols.length : Int) := by omega
  have HW : Hid (Below w.heap.size w W ∧ W.heap.size = w.heap.size + 1 ∧ W.heap[w.heap.size]? = some (.cells #[.int .i64 0, .int .i64 0, .slice none 0 0, .slice none 0 0, .slice none 0 0] 32 (0, 0))) := ⟨hbW, hsW, hzW⟩
  have HCB : Hid (ColP w S cb cols[ax]) := hcb
  clear hkW hbW hsW hzW hcb hcj hcol hg h hS0 p0 hgs
  go_enter Try.func35, Try.ntmps35
  go_upto_region 1 with fail
  rw [← hW]
  clear hW
  go_upto_region 3 with (first | (go_at_call 48; (with_reducible refine Calls.mono CO ?_); rintro e' w2 ⟨hb2, sv, rfl, hsp⟩))
  have HB2 : Hid (Below w.heap.size w w2 ∧ w.heap.size + 1 ≤ w2.heap.size ∧ w2.heap[w.heap.size]? = some (.cells #[.int .i64 0, .int .i64 0, .slice none 0 0, .slice none 0 0, .slice none 0 0] 32 (0, 0))) := by
    have h1 := HW.out.2.1
    exact ⟨HW.out.1.trans (hb2.mono (by omega)), by have := hb2.size; omega, (hb2.block _ (by omega)).trans HW.out.2.2⟩
  have HSP : Hid (Spots w2 (fun x => S x ∨ (w.heap.size ≤ x ∧ x < w2.heap.size)) sv (ofRows cols[ax].2.2 rows)) := by
    refine hsp.up fun x hx => hx.imp_right fun h => ⟨?_, h.2⟩
    have := HW.out.2.1
    omega
  clear hb2 hsp CO q0
  have hk2 : Keeps S w w2 := Keeps.of HB2.out.1 HS0.out
  obtain ⟨hcS, ⟨pa, pc, a0, hpa⟩, a1, _, _⟩ := HCB.out.on hk2
  have hcl : cb < w2.heap.size := by have := HS0.out cb hcS; have := HB2.out.1.size; omega
  have hW3 : ∃ W3, W3 = w2.alloc (Obj.cells #[.int .i64 cols[ax].2.1] 3) ∧ Below w2.heap.size w2 W3 ∧ W3.heap.size = w2.heap.size + 1 ∧ W3.cell? ⟨w2.heap.size, 0, none⟩ = some (.int .i64 cols[ax].2.1) := ⟨_, rfl, (Below.refl _ _).alloc (Nat.le_refl _) _, by simp, heap_cell (new_block w2 _) rfl⟩
  obtain ⟨W3, hW3, hb3, hs3, x0⟩ := hW3
  have CJ : Calls Try.prog 49 #[.slice pa cols[ax].1.length pc, .slice (some ⟨w2.heap.size, 0, none⟩) 1 1] W3.drew fun r w' => ∃ v, r = .returned v ∧ Below W3.heap.size W3 w' ∧ Nats w' (fun x => W3.heap.size ≤ x ∧ x < w'.heap.size) v (cols[ax].1 ++ [cols[ax].2.1]) := by
    have hkk : Keeps S w2 W3.drew := fun x hx => hb3.block x (by have := HS0.out x hx; have := HB2.out.1.size; omega)
    have := join_any (cols[ax].1.map fun (n : Nat) => Value.int .i64 n) [.int .i64 cols[ax].2.1] pa (some ⟨w2.heap.size, 0, none⟩) pc 1 (fun x => S x ∨ x = w2.heap.size) W3.drew (fun x hx => by
      show x < W3.heap.size
      rcases hx with hx | rfl
      · have := HS0.out x hx; have := HB2.out.1.size; omega
      · omega) (by
      rw [List.length_map]
      exact (nats_vals (hpa.on hkk)).mono fun _ _ _ _ ⟨e1, e2⟩ => ⟨.inl e1, e2⟩) (.inr ⟨w2.heap.size, 0, 1, rfl, by simp, by simp, fun j hj => by
        obtain rfl : j = 0 := by simpa using hj
        exact ⟨.inr rfl, x0⟩⟩) (by intro u hu; obtain ⟨n, _, rfl⟩ := List.mem_map.1 hu; rfl) (by simp [Value.oneCell']) (by have := HG.out.path; simp; omega)
    rw [List.length_map] at this
    refine this.mono fun r w' ⟨v, e1, e2, e3⟩ => ⟨v, e1, ⟨e3.os, e3.tape, e3.output, e3.size, e3.block⟩, ?_⟩
    have e4 : (cols[ax].1.map fun (n : Nat) => Value.int .i64 n) ++ [.int .i64 cols[ax].2.1] = (cols[ax].1 ++ [cols[ax].2.1]).map fun (n : Nat) => Value.int .i64 n := by simp
    rw [e4] at e2
    exact (own_nats e2).2
  have HPL : Hid (cols[ax].1.length = cols[ax].1.length) := rfl
  have HB3 : Hid (Below w2.heap.size w2 W3 ∧ W3.heap.size = w2.heap.size + 1) := ⟨hb3, hs3⟩
  have hkA : ∀ pt : Addr, pt.block < w2.heap.size → ((w2.alloc (Obj.cells #[.int .i64 cols[ax].2.1] 3)).drew).cell? pt = w2.cell? pt := fun pt h => World.cell?_of_block (w := w2) (Below.heap_alloc _ _ _ h)
  clear hpa hb3 hs3 x0 hk2
  generalize hpl : cols[ax].1.length = pl at *
  generalize hnum : cols[ax].2.1 = num at *
  go_region_held3 (fun w' => w'.cell? ⟨cb, 0, none⟩ = some (.slice pa pl pc) ∧ w'.cell? ⟨cb, 1, none⟩ = some (.int .i64 num)) (first | exact ⟨a0, a1⟩ | assumption | exact ⟨(hkA _ hcl).trans a0, (hkA _ hcl).trans a1⟩ | (have hk : ∀ p : Addr, p.block < w2.heap.size → w3.cell? p = w2.cell? p := fun p hp => (hb4.cell (p := p) (by have := HB3.out.2; omega)).trans (HB3.out.1.cell hp); exact ⟨(hk _ hcl).trans a0, (hk _ hcl).trans a1⟩) | go_keep)
    (first | (go_at_call 49; rw [← hW3]; (with_reducible refine Calls.mono CJ ?_); rintro e' w3 ⟨pv, rfl, hb4, hpv⟩))
  all_goals
    have HB4 : Hid (Below w.heap.size w w3 ∧ w.heap.size + 1 ≤ w3.heap.size ∧ w2.heap.size ≤ w3.heap.size ∧ w3.heap[w.heap.size]? = some (.cells #[.int .i64 0, .int .i64 0, .slice none 0 0, .slice none 0 0, .slice none 0 0] 32 (0, 0))) := by
      have h1 := HB3.out.2
      have h2 := HB2.out.2.1
      have h3 := hb4.size
      exact ⟨HB2.out.1.trans ((HB3.out.1.mono (by omega)).trans (hb4.mono (by omega))), by omega, by omega, ((hb4.block _ (by omega)).trans (HB3.out.1.block _ (by omega))).trans HB2.out.2.2⟩
    have HSP3 : Hid (Spots w3 (fun x => S x ∨ (w.heap.size ≤ x ∧ x < w3.heap.size)) sv (ofRows cols[ax].2.2 rows)) := by
      have h1 := HB3.out.2
      refine (HSP.out.on (fun x hx => ?_)).up fun x hx => hx.imp_right fun h => ⟨h.1, by have := HB4.out.2.2.1; omega⟩
      have hx2 : x < w2.heap.size := by
        rcases hx with hx | hx
        · have := HS0.out x hx; have := HB2.out.2.1; omega
        · exact hx.2
      exact (hb4.block x (by omega)).trans (HB3.out.1.block x hx2)
    have HPV : Hid (Nats w3 (fun x => S x ∨ (w.heap.size ≤ x ∧ x < w3.heap.size)) pv (cols[ax].1 ++ [num])) := hpv.up fun x hx => .inr ⟨by have := HB3.out.2; have := HB2.out.2.1; omega, hx.2⟩
    have HPF : Hid (Nats w3 (fun x => w.heap.size < x ∧ x < w3.heap.size) pv (cols[ax].1 ++ [num])) := hpv.up fun x hx => ⟨by have := HB3.out.2; have := HB2.out.2.1; omega, hx.2⟩
    clear hb4 hpv CJ a0 a1 hkA hW3 hcl
    have hT3 : ∀ x, (S x ∨ (w.heap.size ≤ x ∧ x < w3.heap.size)) → x < w3.heap.size := fun x hx => by
      rcases hx with hx | hx
      · have := HS0.out x hx; have := HB4.out.2.1; omega
      · exact hx.2
    have hbl := Mv.lt HIN.out.map
    have hml2 := lt_of_heap HIN.out.blk
    have hM3 : MapK w3 b k := HIN.out.map.on (HB4.out.1.block b hbl)
    have hblk3 := (HB4.out.1.block m hml2).trans HIN.out.blk
    have e0 := heap_cell hblk3 (i := 0) rfl
    have e1 := heap_cell hblk3 (i := 1) rfl
    have hrg := HG.out.right.sub hK (a := ofRows cols[ax].2.2 rows) List.filter_sublist
    have hsl : (ofRows cols[ax].2.2 rows).length ≤ 200 := Nat.le_trans (List.length_filter_le _ _) HG.out.len
    have CA := cases_any (w := w3) fa fs.length fc sv (ofRows cols[ax].2.2 rows) hT3 hM3 HSP3.out hsl (apart_of hK hrg.together)
    obtain ⟨ppa, ppc, hpvs⟩ := HPV.out.len
    have hplen : (cols[ax].1 ++ [num]).length = pl + 1 := by rw [List.length_append, hpl]; rfl
    rw [hplen] at hpvs
    subst hpvs
    clear hM3 hblk3 hbl
    go_upto_region 5 with (first | (go_at_call 45; (with_reducible refine Calls.mono CA ?_); rintro e' w4 ⟨hb5, v5, rfl, blk, ccap, cur, rfl, hcle, hblk5, hcur, hcells⟩))
    have hSw : ∀ x, (S x ∨ (w.heap.size ≤ x ∧ x < w3.heap.size)) → x < w3.heap.size := hT3
    have hsz4 := hb5.size
    have HRD : Hid (Rd k fs fa fc b m cols rows cg co cc rv sv (.slice ppa (pl + 1) ppc) (ofRows cols[ax].2.2 rows) (cols[ax].1 ++ [num]) (fun x => S x ∨ (w.heap.size ≤ x ∧ x < w3.heap.size)) w3) := by
      have hk3 : Keeps S w w3 := Keeps.of HB4.out.1 HS0.out
      refine ⟨fun x hx => ⟨hSw x hx, ?_⟩, HIN.out.map.on (HB4.out.1.block b (Mv.lt HIN.out.map)), (HIN.out.fams.on hk3).up fun _ h => .inl h, (HIN.out.hcols.on hk3).up fun _ h => .inl h, hcc, (HIN.out.hrows.on hk3).up fun _ h => .inl h, HSP3.out, HPV.out⟩
      rcases hx with hx | hx
      · exact (HIN.out.set x hx).2
      · omega
    have HCX : Hid (Cx k fs fa fc b m f n cols rows ax) := ⟨hK, hT, HIN.out.fuel, HIN.out.mapne, ha, HIN.out.good, HIN.out.num, HIN.out.rise, HIN.out.low⟩
    have hcl0 : (casesOf k (ofRows cols[ax].2.2 rows)).length ≤ 200 := Nat.le_trans (casesOf_len k _) hsl
    generalize hspots : ofRows cols[ax].2.2 rows = spots at *
    generalize hcse : casesOf k spots = cs at *
    generalize hpath : cols[ax].1 ++ [num] = path at *
    have hW4 : ∃ W4, W4 = w4.alloc (Obj.cells #[.int .i64 3, .int .i64 0, .slice ppa (pl + 1) ppc, .slice (some ⟨blk, 0, none⟩) cs.length ccap, .slice none 0 0] 32) ∧ Below w4.heap.size w4 W4 ∧ W4.heap.size = w4.heap.size + 1 ∧ W4.heap[w4.heap.size]? = some (.cells #[.int .i64 3, .int .i64 0, .slice ppa (pl + 1) ppc, .slice (some ⟨blk, 0, none⟩) cs.length ccap, .slice none 0 0] 32 (0, 0)) := ⟨_, rfl, (Below.refl _ _).alloc (Nat.le_refl _) _, by simp, new_block w4 _⟩
    obtain ⟨W4, hW4, hb44, hs44, ht44⟩ := hW4
    rw [← hW4]
    clear hW4
    have HB45 : Hid (Below w3.heap.size w3 W4) := hb5.trans (hb44.mono hsz4)
    have HBw4 : Hid (Below w.heap.size w W4) := HB4.out.1.trans (HB45.out.mono (by have := HB4.out.2.1; omega))
    have hbm : b < w3.heap.size := Mv.lt HRD.out.map
    have HR4 : Hid (Rd k fs fa fc b m cols rows cg co cc rv sv (.slice ppa (pl + 1) ppc) spots path (fun x => S x ∨ (w.heap.size ≤ x ∧ x < w3.heap.size)) W4) := HRD.out.on (Keeps.of HB45.out hSw) (HB45.out.block b hbm) HB45.out.size
    have HC4 : Hid (w3.heap.size ≤ blk ∧ blk < w4.heap.size ∧ m < w.heap.size ∧ W4.heap.size = w4.heap.size + 1 ∧ w.heap.size + 1 ≤ w3.heap.size) := ⟨hblk5.1, hblk5.2, hml, hs44, HB4.out.2.1⟩
    have HPF4 : Hid (Nats W4 (fun x => w.heap.size < x ∧ x < w3.heap.size) (.slice ppa path.length ppc) path) := by
      have := HPF.out.on (fun x hx => HB45.out.block x hx.2)
      rwa [← hplen] at this
    have HPE : Hid (pl + 1 = path.length) := hplen.symm
    have HSE : Hid (spots = ofRows cols[ax].2.2 rows ∧ path = cols[ax].1 ++ [cols[ax].2.1] ∧ cs = casesOf k spots ∧ spots ≠ [] ∧ together k spots = true) := ⟨hspots.symm, by rw [← hpath, hnum], hcse.symm, hne, hrg.together⟩
    have HBW : Hid (Bw (stepP k fs f cols rows ax spots path) cs n m (.slice fa fs.length fc) (.map (some b)) W4 blk 0 cur W4) := Bw.start _ _ _ _ _ _ _ _ _ ((HBw4.out.block m hml).trans HIN.out.blk) ((hb44.block blk hblk5.2).trans hcur) hcells HIN.out.fuel.2.2
    have HTB : Hid (W4.heap[w4.heap.size]? = some (.cells #[.int .i64 3, .int .i64 0, .slice ppa (pl + 1) ppc, .slice (some ⟨blk, 0, none⟩) cs.length ccap, .slice none 0 0] 32 (0, 0))) := ht44
    have t3 := heap_cell ht44 (i := 3) rfl
    have HRR : Hid (W4.heap[w.heap.size]? = some (.cells #[.int .i64 0, .int .i64 0, .slice none 0 0, .slice none 0 0, .slice none 0 0] 32 (0, 0))) := (HB45.out.block _ HB4.out.2.1).trans HB4.out.2.2.2
    have HTB0 : Hid (cs.length ≤ ccap) := hcle
    clear hcells hcur hrg hpath hplen hnum hspots hcse hblk5 ht44 hb44 hs44 hsz4 hb5 hsl hml2 hT3 hSw hbm hne hcle e0 e1 CA
    generalize hTg : w4.heap.size = T at *
    generalize hRg : w.heap.size = R at *
    generalize hHw3 : w3.heap.size = Ph at *
    go_wp2
    clear t3
    go_loopw [46] (fun iv wr => ∃ (i : Nat) (cur : Array Value), i ≤ cs.length ∧ iv = .int .i64 i ∧ Hid (Bw (stepP k fs f cols rows ax spots path) cs n m (.slice fa fs.length fc) (.map (some b)) W4 blk i cur wr)) (fun iv _ => cs.length - (intOf iv).toNat)
    case atStart => exact ⟨0, cur, by omega, by go_num, HBW.out⟩
    case round =>
      obtain ⟨i, cur, hi, rfl, HBI⟩ := hrel
      by_cases hil : i < cs.length
      · have h4 := HC4.out
        have hbR : b < R := by have := Mv.lt HIN.out.map; omega
        have CA := round_calls HCX.out HSE.out.1 HSE.out.2.1 HSE.out.2.2.1 HR4.out (Cb := blk) (fun x hx => by
          rcases hx with hx | hx
          · have := HS0.out x hx; omega
          · omega) (by omega) (by omega) (by omega) (by omega) HBI.out hil hcl0
        obtain ⟨y0, y1⟩ := HBI.out.names i hil
        obtain ⟨y2, y3, y4, y5, y6⟩ := HBI.out.zero i hil (Nat.le_refl _)
        have y0 := heap_cell HBI.out.cblk y0
        have y1 := heap_cell HBI.out.cblk y1
        have y2 := heap_cell HBI.out.cblk y2
        have y3 := heap_cell HBI.out.cblk y3
        have y4 := heap_cell HBI.out.cblk y4
        have y5 := heap_cell HBI.out.cblk y5
        have y6 := heap_cell HBI.out.cblk y6
        have t3 := heap_cell ((HBI.out.keep T (by omega) (by omega) (by omega)).trans HTB.out) (i := 3) rfl
        have m0 := heap_cell HBI.out.mblk (i := 0) rfl
        have m1 := heap_cell HBI.out.mblk (i := 1) rfl
        have hszr := HBI.out.size
        have HLT : Hid (blk < wr.heap.size ∧ m < wr.heap.size ∧ T < wr.heap.size) := ⟨by omega, by omega, by omega⟩
        clear hszr
        generalize cs[i] = cx at CA y0 y1
        have j1 : (0 : Int) ≤ (i : Int) := by omega
        have j2 : (i : Int) < (cs.length : Int) := by omega
        go_upto_region 10 with (first | (go_at_call 46; (with_reducible refine Calls.mono CA ?_); rintro e' w1 ⟨av, uv, rfl, hb1, CW⟩))
        have HH1 : Hid (∀ w' : World, Below wr.heap.size wr w' → w'.cell? ⟨m, 0, none⟩ = some (.slice fa fs.length fc) ∧ w'.cell? ⟨m, 1, none⟩ = some (.map (some b)) ∧ w'.cell? ⟨blk, i * 7, none⟩ = some (.string ⟨cx.1.toArray⟩)) := fun w' h => ⟨(h.cell (p := ⟨m, 0, none⟩) HLT.out.2.1).trans m0, (h.cell (p := ⟨m, 1, none⟩) HLT.out.2.1).trans m1, (h.cell (p := ⟨blk, i * 7, none⟩) HLT.out.1).trans y0⟩
        clear y0 y1 y2 y3 y4 y5 y6 t3 m0 m1 CA
        have hd1 : Below wr.heap.size wr w1.drew := ⟨hb1.os, hb1.tape, hb1.output, hb1.size, hb1.block⟩
        have CW1 := CW w1.drew ⟨rfl, rfl, rfl, rfl⟩
        clear CW hb1
        go_region_held3 (fun w' => w'.cell? ⟨m, 0, none⟩ = some (.slice fa fs.length fc) ∧ w'.cell? ⟨m, 1, none⟩ = some (.map (some b)) ∧ w'.cell? ⟨blk, i * 7, none⟩ = some (.string ⟨cx.1.toArray⟩)) (first | exact HH1.out _ hd1 | assumption | exact HH1.out _ hb2 | go_keep)
          (first | (go_at_call 47; (with_reducible refine Calls.mono CW1 ?_); rintro e' w5 ⟨fv, rfl, hb2, CC⟩))
        have CC1 := CC w5 ⟨rfl, rfl, rfl, rfl⟩
        clear CC hb2 CW1 hd1
        go_wp2_with (first
          | (go_at_call 50; (with_reducible refine Calls.mono CC1 ?_); rintro e' w6 ⟨vv, rfl, -, CD⟩; have CD1 := CD w6 ⟨rfl, rfl, rfl, rfl⟩; clear CD)
          | (go_at_call 51; (with_reducible refine Calls.mono CD1 ?_); rintro e' w7 ⟨yv, rfl, -, CE⟩; have CE1 := CE w7 ⟨rfl, rfl, rfl, rfl⟩; clear CE)
          | (go_at_call 20; (with_reducible refine Calls.mono CE1 ?_); rintro e' w8 ⟨ta, tb, pa', pl', pc', ca', cl', cc', ea', el', ec', rfl, hcb8, -, U, hU, cur', hBU⟩; have HBU : Hid (Bw (stepP k fs f cols rows ax spots path) cs n m (.slice fa fs.length fc) (.map (some b)) W4 blk (i + 1) cur' U) := hBU; clear hBU; have y2 := heap_cell hcb8 (HBI.out.zero i hil (Nat.le_refl _)).1; have y3 := heap_cell hcb8 (HBI.out.zero i hil (Nat.le_refl _)).2.1; have y4 := heap_cell hcb8 (HBI.out.zero i hil (Nat.le_refl _)).2.2.1; have y5 := heap_cell hcb8 (HBI.out.zero i hil (Nat.le_refl _)).2.2.2.1; have y6 := heap_cell hcb8 (HBI.out.zero i hil (Nat.le_refl _)).2.2.2.2; have z2 := heap_frozen (o := i * 7 + 2) hcb8; have z3 := heap_frozen (o := i * 7 + 3) hcb8; have z4 := heap_frozen (o := i * 7 + 4) hcb8; have z5 := heap_frozen (o := i * 7 + 5) hcb8; have z6 := heap_frozen (o := i * 7 + 6) hcb8))
        refine ⟨⟨i + 1, cur', hil, by go_num, ?_⟩, by simp [intOf]; omega⟩
        rw [hU] at HBU
        exact HBU
      · obtain rfl : i = cs.length := by omega
        have h4 := HC4.out
        have hbR : b < R := by have := Mv.lt HIN.out.map; omega
        have CA := else_calls HCX.out HSE.out.1 HSE.out.2.2.1 HSE.out.2.2.2.1 HR4.out (Cb := blk) (fun x hx => by
          rcases hx with hx | hx
          · have := HS0.out x hx; omega
          · omega) (by omega) (by omega) HBI.out hcl0 ccap
        have hTr := (HBI.out.keep T (by omega) (by omega) (by omega)).trans HTB.out
        have hRr := (HBI.out.keep R (by omega) (by omega) (by omega)).trans HRR.out
        have t3 := heap_cell hTr (i := 3) rfl
        have m0 := heap_cell HBI.out.mblk (i := 0) rfl
        have m1 := heap_cell HBI.out.mblk (i := 1) rfl
        have hszr := HBI.out.size
        have HLT : Hid (blk < wr.heap.size ∧ m < wr.heap.size ∧ T < wr.heap.size ∧ R < wr.heap.size) := ⟨by omega, by omega, by omega, by omega⟩
        have HTR : Hid (wr.heap[T]? = some (.cells #[.int .i64 3, .int .i64 0, .slice ppa (pl + 1) ppc, .slice (some ⟨blk, 0, none⟩) cs.length ccap, .slice none 0 0] 32 (0, 0)) ∧ wr.heap[R]? = some (.cells #[.int .i64 0, .int .i64 0, .slice none 0 0, .slice none 0 0, .slice none 0 0] 32 (0, 0))) := ⟨hTr, hRr⟩
        have CA1 := CA wr.drew ⟨rfl, rfl, rfl, rfl⟩
        have HH1 : Hid (∀ w' : World, Below wr.heap.size wr w' → w'.cell? ⟨m, 0, none⟩ = some (.slice fa fs.length fc) ∧ w'.cell? ⟨m, 1, none⟩ = some (.map (some b)) ∧ w'.cell? ⟨T, 3, none⟩ = some (.slice (some ⟨blk, 0, none⟩) cs.length ccap)) := fun w' h => ⟨(h.cell (p := ⟨m, 0, none⟩) HLT.out.2.1).trans m0, (h.cell (p := ⟨m, 1, none⟩) HLT.out.2.1).trans m1, (h.cell (p := ⟨T, 3, none⟩) HLT.out.2.2.1).trans t3⟩
        have hd1 : Below wr.heap.size wr wr.drew := ⟨rfl, rfl, rfl, Nat.le_refl _, fun _ _ => rfl⟩
        clear hszr hTr hRr t3 m0 m1 CA
        go_upto_region 13 with fail
        go_region_held3 (fun w' => w'.cell? ⟨m, 0, none⟩ = some (.slice fa fs.length fc) ∧ w'.cell? ⟨m, 1, none⟩ = some (.map (some b)) ∧ w'.cell? ⟨T, 3, none⟩ = some (.slice (some ⟨blk, 0, none⟩) cs.length ccap)) (first | exact HH1.out _ hd1 | assumption | exact HH1.out _ hb2 | go_keep)
          (first | (go_at_call 52; (with_reducible refine Calls.mono CA1 ?_); rintro e' w5 ⟨rfl, hb2, CC⟩))
        have HBB : Hid (Below wr.heap.size wr w5) := hb2
        clear hb2 hd1 CA1
        cases hF : isFull k fs cs with
        | true =>
          clear CC
          have hT5 := (HBB.out.block T HLT.out.2.2.1).trans HTR.out.1
          have hR5 := (HBB.out.block R HLT.out.2.2.2).trans HTR.out.2
          have t0 := heap_cell hT5 (i := 0) rfl
          have t1 := heap_cell hT5 (i := 1) rfl
          have t2 := heap_cell hT5 (i := 2) rfl
          have t3 := heap_cell hT5 (i := 3) rfl
          have t4 := heap_cell hT5 (i := 4) rfl
          have s0 := heap_cell hR5 (i := 0) rfl
          have s1 := heap_cell hR5 (i := 1) rfl
          have s2 := heap_cell hR5 (i := 2) rfl
          have s3 := heap_cell hR5 (i := 3) rfl
          have s4 := heap_cell hR5 (i := 4) rfl
          have z0 := heap_frozen (o := 0) hR5
          have z1 := heap_frozen (o := 1) hR5
          have z2 := heap_frozen (o := 2) hR5
          have z3 := heap_frozen (o := 3) hR5
          have z4 := heap_frozen (o := 4) hR5
          obtain ⟨U, hU, hUR, hUs, hUk, hUo⟩ := store5 hR5 (.int .i64 3) (.int .i64 0) (.slice ppa (pl + 1) ppc) (.slice (some ⟨blk, 0, none⟩) cs.length ccap) (.slice none 0 0)
          have HU : Hid (U.heap.size = w5.heap.size ∧ (∀ x, x ≠ R → U.heap[x]? = w5.heap[x]?) ∧ U.os = w5.os ∧ U.tape = w5.tape ∧ U.output = w5.output) := ⟨hUs, hUk, hUo⟩
          clear hUs hUk hUo hT5 hR5
          go_wp2
          rw [← hU]
          have u0 := heap_cell hUR (i := 0) rfl
          have u1 := heap_cell hUR (i := 1) rfl
          have u2 := heap_cell hUR (i := 2) rfl
          have u3 := heap_cell hUR (i := 3) rfl
          have u4 := heap_cell hUR (i := 4) rfl
          refine bodyPost_ret (v := .agg #[.int .i64 3, .int .i64 0, .slice ppa (pl + 1) ppc, .slice (some ⟨blk, 0, none⟩) cs.length ccap, .slice none 0 0]) (by simp [results, Try.results35, go_sem, u0, u1, u2, u3, u4]) rfl ?_
          have hE := HU.out
          have hB5 := HBB.out
          have hz5 := hB5.size
          have hlt := HLT.out
          have hcn := HBI.out.cnt
          have hmb := HBI.out.mblk
          rw [List.take_length] at hcn hmb
          have hbr : branchP k fs f n cols rows ax cols[ax] = (((3, 0, path), cs.zip (eachP (stepP k fs f cols rows ax spots path) cs n).1, []), (eachP (stepP k fs f cols rows ax spots path) cs n).2) := by
            have hse := HSE.out
            unfold branchP
            dsimp only
            rw [← hse.1, ← hse.2.1, ← hse.2.2.1, if_pos hF]
            rfl
          have hfin := br_end (els := []) (E := U) (w := w) (ea := none) (ec := 0) (R := R) (T := T) (Ph := Ph) hK HSE.out.2.2.2.2 HSE.out.2.2.1 HSE.out.2.2.2.1 HR4.out.hsp HBI.out hbr (by omega) ⟨HBw4.out.os, HBw4.out.tape, HBw4.out.output, by have := HBw4.out.size; omega, fun x hx _ => HBw4.out.block x (by omega)⟩ hRg.symm (by omega) (by omega) (by omega) (by omega) (by omega) HTB0.out HPF4.out ⟨hE.2.2.1.trans hB5.os, hE.2.2.2.1.trans hB5.tape, hE.2.2.2.2.trans hB5.output⟩ (by omega) (fun x hx hxm hxR _ => (hE.2.1 x hxR).trans (hB5.block x hx)) ((hE.2.1 m (by omega)).trans ((hB5.block m hlt.2.1).trans hmb)) (.inl ⟨rfl, _, _, rfl⟩)
          rw [← HPE.out] at hfin
          exact hfin
        | false =>
          have CC1 := CC w5 ⟨rfl, rfl, rfl, rfl⟩
          clear CC
          go_upto_region 15 with (first
            | (go_at_call 50; (with_reducible refine Calls.mono CC1 ?_); rintro e' w6 ⟨vv, rfl, -, CD⟩; have CD1 := CD w6 ⟨rfl, rfl, rfl, rfl⟩; clear CD)
            | (go_at_call 51; (with_reducible refine Calls.mono CD1 ?_); rintro e' w7 ⟨yv, rfl, -, CE⟩; have CE1 := CE w7 ⟨rfl, rfl, rfl, rfl⟩; clear CE)
            | (go_at_call 20; (with_reducible refine Calls.mono CE1 ?_); rintro e' w8 ⟨ta, tb, pa', pl', pc', ca', cl', cc', ea', el', ec', rfl, hkx, hmb8, hbd8, htr8⟩; have HK8 : Hid (Kx m wr w8) := hkx; clear hkx; have HM8 : Hid _ := hmb8; have HD8 : Hid _ := hbd8; have HT8 : Hid _ := htr8; clear hmb8 hbd8 htr8; have hT8 := (HK8.out.block T HLT.out.2.2.1 (by have := HC4.out; omega)).trans HTR.out.1; have hTa : (w8.alloc (Obj.cells #[.int .i64 ta, .int .i64 tb, .slice pa' pl' pc', .slice ca' cl' cc', .slice ea' el' ec'] 32)).heap[T]? = some (.cells #[.int .i64 3, .int .i64 0, .slice ppa (pl + 1) ppc, .slice (some ⟨blk, 0, none⟩) cs.length ccap, .slice none 0 0] 32 (0, 0)) := (Below.heap_alloc _ _ _ (lt_of_heap hT8)).trans hT8; have t4 := heap_cell hTa (i := 4) rfl; have f4 := heap_frozen (o := 4) hTa))
          obtain ⟨V, hV, hVT, hVs, hVn, hVk, hVo⟩ := put_else (X := #[.int .i64 ta, .int .i64 tb, .slice pa' pl' pc', .slice ca' cl' cc', .slice ea' el' ec']) (t2 := 32) hT8 (.slice (some ⟨w8.heap.size, 0, none⟩) 1 1)
          rw [← hV]
          have HV : Hid (V.heap.size = w8.heap.size + 1 ∧ V.heap[w8.heap.size]? = some (.cells #[.int .i64 ta, .int .i64 tb, .slice pa' pl' pc', .slice ca' cl' cc', .slice ea' el' ec'] 32 (0, 0)) ∧ (∀ x, x < w8.heap.size → x ≠ T → V.heap[x]? = w8.heap[x]?) ∧ V.os = w8.os ∧ V.tape = w8.tape ∧ V.output = w8.output) := ⟨hVs, hVn, hVk, hVo⟩
          have hRV : V.heap[R]? = some (.cells #[.int .i64 0, .int .i64 0, .slice none 0 0, .slice none 0 0, .slice none 0 0] 32 (0, 0)) := by
            have := HLT.out
            have := HK8.out.size
            have := HC4.out
            rw [hVk R (by omega) (by omega), HK8.out.block R (by omega) (by omega)]
            exact HTR.out.2
          clear hV hVs hVn hVk hVo hT8 hTa t4 f4 CC1 CD1 CE1
          have t0 := heap_cell hVT (i := 0) rfl
          have t1 := heap_cell hVT (i := 1) rfl
          have t2 := heap_cell hVT (i := 2) rfl
          have t3 := heap_cell hVT (i := 3) rfl
          have t4 := heap_cell hVT (i := 4) rfl
          have s0 := heap_cell hRV (i := 0) rfl
          have s1 := heap_cell hRV (i := 1) rfl
          have s2 := heap_cell hRV (i := 2) rfl
          have s3 := heap_cell hRV (i := 3) rfl
          have s4 := heap_cell hRV (i := 4) rfl
          have z0 := heap_frozen (o := 0) hRV
          have z1 := heap_frozen (o := 1) hRV
          have z2 := heap_frozen (o := 2) hRV
          have z3 := heap_frozen (o := 3) hRV
          have z4 := heap_frozen (o := 4) hRV
          obtain ⟨U, hU, hUR, hUs, hUk, hUo⟩ := store5 hRV (.int .i64 3) (.int .i64 0) (.slice ppa (pl + 1) ppc) (.slice (some ⟨blk, 0, none⟩) cs.length ccap) (.slice (some ⟨w8.heap.size, 0, none⟩) 1 1)
          have HU : Hid (U.heap.size = V.heap.size ∧ (∀ x, x ≠ R → U.heap[x]? = V.heap[x]?) ∧ U.os = V.os ∧ U.tape = V.tape ∧ U.output = V.output) := ⟨hUs, hUk, hUo⟩
          clear hUs hUk hUo hVT hRV
          go_wp2
          rw [← hU]
          have u0 := heap_cell hUR (i := 0) rfl
          have u1 := heap_cell hUR (i := 1) rfl
          have u2 := heap_cell hUR (i := 2) rfl
          have u3 := heap_cell hUR (i := 3) rfl
          have u4 := heap_cell hUR (i := 4) rfl
          refine bodyPost_ret (v := .agg #[.int .i64 3, .int .i64 0, .slice ppa (pl + 1) ppc, .slice (some ⟨blk, 0, none⟩) cs.length ccap, .slice (some ⟨w8.heap.size, 0, none⟩) 1 1]) (by simp [results, Try.results35, go_sem, u0, u1, u2, u3, u4]) rfl ?_
          have hE := HU.out
          have hv := HV.out
          have hk8 := HK8.out
          have hz8 := hk8.size
          have hlt := HLT.out
          have h4 := HC4.out
          have hbr : branchP k fs f n cols rows ax cols[ax] = (((3, 0, path), cs.zip (eachP (stepP k fs f cols rows ax spots path) cs n).1, [(treeP k fs f (eachP (stepP k fs f cols rows ax spots path) cs n).2 (cols.take ax ++ cols.drop (ax + 1)) (without rows spots)).1]), (treeP k fs f (eachP (stepP k fs f cols rows ax spots path) cs n).2 (cols.take ax ++ cols.drop (ax + 1)) (without rows spots)).2) := by
            have hse := HSE.out
            unfold branchP
            dsimp only
            rw [← hse.1, ← hse.2.1, ← hse.2.2.1, if_neg (by rw [hF]; simp)]
            rfl
          have hUn : U.heap[w8.heap.size]? = some (.cells #[.int .i64 ta, .int .i64 tb, .slice pa' pl' pc', .slice ca' cl' cc', .slice ea' el' ec'] 32 (0, 0)) := (hE.2.1 _ (by omega)).trans hv.2.1
          have hfin := br_end (E := U) (w := w) (ea := some ⟨w8.heap.size, 0, none⟩) (ec := 1) (R := R) (T := T) (Ph := Ph) hK HSE.out.2.2.2.2 HSE.out.2.2.1 HSE.out.2.2.2.1 HR4.out.hsp HBI.out hbr HD8.out ⟨HBw4.out.os, HBw4.out.tape, HBw4.out.output, by have := HBw4.out.size; omega, fun x hx _ => HBw4.out.block x (by omega)⟩ hRg.symm (by omega) (by omega) (by omega) (by omega) (by omega) HTB0.out HPF4.out ⟨hE.2.2.1.trans (hv.2.2.2.1.trans hk8.os), hE.2.2.2.1.trans (hv.2.2.2.2.1.trans hk8.tape), hE.2.2.2.2.trans (hv.2.2.2.2.2.trans hk8.output)⟩ (by omega) (fun x hx hxm hxR hxT => (hE.2.1 x hxR).trans ((hv.2.2.1 x (by omega) hxT).trans (hk8.block x hx hxm))) ((hE.2.1 m (by omega)).trans ((hv.2.2.1 m (by omega) (by omega)).trans HM8.out))
            (.inr ⟨w8.heap.size, 0, 1, rfl, by simp, by simp, fun j hj => by
              obtain rfl : j = 0 := by simpa using hj
              refine ⟨⟨by omega, by omega⟩, _, _, _, _, _, heap_cell hUn (i := 0) rfl, heap_cell hUn (i := 1) rfl, heap_cell hUn (i := 2) rfl, heap_cell hUn (i := 3) rfl, heap_cell hUn (i := 4) rfl, ?_⟩
              exact TrV.below (fun x hx => (hE.2.1 x (by omega)).trans (hv.2.2.1 x hx.2 (by omega))) (fun x hx => ⟨by omega, by omega⟩) f _ _ HT8.out⟩)
          rw [← HPE.out] at hfin
          exact hfin
end Go.Proofs.Ytpdmkhnonbbhnaa
