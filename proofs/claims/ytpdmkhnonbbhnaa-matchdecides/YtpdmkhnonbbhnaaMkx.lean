/- branch: the calls of one case, one behind the other. branch: a round of its cases; its cases as a row of the tree. branch: what stands behind its cases; its end. -/
import Derived.Test.YtpdmkhnonbbhnaaMjx
namespace Go.Proofs.Ytpdmkhnonbbhnaa
open Go.RowKit Go.Maps

theorem eachP_ge {α β : Type} {step : α → Nat → β × Nat} (h : ∀ x n, n ≤ (step x n).2) : ∀ (l : List α) (n : Nat), n ≤ (eachP step l n).2
  | [], _ => Nat.le_refl _
  | a :: r, n => Nat.le_trans (h a n) (eachP_ge h r _)
theorem treeP_ge (k : Kn) (fs : List Fam) : ∀ (f n : Nat) (cols : List Col) (rows : List Nat), n ≤ (treeP k fs f n cols rows).2
  | 0, n, _, _ => Nat.le_succ n
  | f + 1, n, cols, rows => by
    by_cases hn : 5000 ≤ n
    · rw [treeP_big _ _ _ _ _ _ hn]; exact Nat.le_succ n
    · cases rows with
      | nil => rw [treeP_none _ _ _ _ _ (by omega)]; exact Nat.le_succ n
      | cons r rows =>
        cases hi : cols.findIdx? (hasRow r) with
        | none => rw [treeP_row _ _ _ _ _ _ _ (by omega) hi]; exact Nat.le_succ n
        | some ax =>
          have ha : ax < cols.length := (List.findIdx?_eq_some_iff_getElem.1 hi).1
          rw [treeP_branch k fs f n cols r rows ax ha (by omega) hi]
          have h1 : n ≤ (eachP (stepP k fs f cols (r :: rows) ax (ofRows cols[ax].2.2 (r :: rows)) (cols[ax].1 ++ [cols[ax].2.1])) (casesOf k (ofRows cols[ax].2.2 (r :: rows))) (n + 1)).2 := Nat.le_trans (Nat.le_succ n) (eachP_ge (fun x n => treeP_ge k fs f n _ _) _ _)
          unfold branchP
          dsimp only
          split
          · exact h1
          · exact Nat.le_trans h1 (treeP_ge k fs f _ _ _)
section
variable {k : Kn} {fs : List Fam} {fa : Option Addr} {fc b m f n : Nat} {cols : List Col} {rows : List Nat} {ax : Nat} {g o cc : Nat} {rv sv pv : Value} {S : Nat → Prop} {wr : World}
def P1 (S : Nat → Prop) (wr : World) (spots : List Sp) (x : Cs) (a u : Value) (w : World) : Prop := Below wr.heap.size wr w ∧ Spots w (Fr S wr.heap.size w) a (spots.filter (isOf x)) ∧ Spots w (Fr S wr.heap.size w) u (spots.filter fun s => !isOf x s)
def P2 (S : Nat → Prop) (wr : World) (spots : List Sp) (x : Cs) (u v : Value) (fields : List Col) (w : World) : Prop := Below wr.heap.size wr w ∧ Spots w (Fr S wr.heap.size w) u (spots.filter fun s => !isOf x s) ∧ Cols w (Fr S wr.heap.size w) v fields
def P3 (S : Nat → Prop) (wr : World) (v u : Value) (cols' : List Col) (rows' : List Nat) (w : World) : Prop := Below wr.heap.size wr w ∧ Cols w (Fr S wr.heap.size w) v cols' ∧ Nats w (Fr S wr.heap.size w) u rows'
theorem r1 {spots : List Sp} {path : List Nat} (hr : Rd k fs fa fc b m cols rows g o cc rv sv pv spots path S wr) (x : Cs) (hs : spots.length ≤ 200) : Calls Try.prog 46 #[sv, csV x] wr fun r w => ∃ a u, r = .returned (.tuple #[a, u]) ∧ P1 S wr spots x a u w :=
  (split_any sv spots x (fun y hy => (hr.set y hy).1) hr.hsp hs).mono fun _ _ ⟨e1, a, u, e2, e3, e4⟩ => ⟨a, u, e2, e1, e3, e4⟩
theorem r2 {w : World} {x : Cs} {a u : Value} (hc : Cx k fs fa fc b m f n cols rows ax) (hr : Rd k fs fa fc b m cols rows g o cc rv sv pv (ofRows (cols[ax]'hc.ha).2.2 rows) ((cols[ax]'hc.ha).1 ++ [(cols[ax]'hc.ha).2.1]) S wr) (hx : x ∈ casesOf k (ofRows (cols[ax]'hc.ha).2.2 rows)) (h : P1 S wr (ofRows (cols[ax]'hc.ha).2.2 rows) x a u w) :
    Calls Try.prog 47 #[.agg #[.slice fa fs.length fc, .map (some b)], a, .string ⟨x.1.toArray⟩, pv] w fun r w' => ∃ v, r = .returned v ∧ P2 S wr (ofRows (cols[ax]'hc.ha).2.2 rows) x u v (within k ((ofRows (cols[ax]'hc.ha).2.2 rows).filter (isOf x)) x.1 ((cols[ax]'hc.ha).1 ++ [(cols[ax]'hc.ha).2.1])) w' := by
  have hlt : ∀ x, S x → x < wr.heap.size := fun x hx => (hr.set x hx).1
  have hg := hc.good (cols[ax]'hc.ha) (List.getElem_mem hc.ha)
  have hrg := hg.right.sub hc.hK (a := ofRows (cols[ax]'hc.ha).2.2 rows) List.filter_sublist
  have hsl : (ofRows (cols[ax]'hc.ha).2.2 rows).length ≤ 200 := Nat.le_trans (List.length_filter_le _ _) hg.len
  obtain ⟨e1, e2, e3⟩ := h
  have hsz := e1.size
  have hnl : x.1.length < 140737488355328 := by
    obtain ⟨s, hs, rfl, _⟩ := case_of hc.hK hrg.together hx
    obtain ⟨L, hL, _, hp⟩ := hr.hsp.list
    rw [← hL] at hs
    obtain ⟨t, ht, rfl⟩ := List.mem_map.1 hs
    have := (hp t ht).open.2.2.2.2.1
    unfold csOf
    split
    · exact this
    · simp
  obtain ⟨pa, pc, hpe⟩ := hr.hpv.len
  subst hpe
  refine (within_any (S := Fr S wr.heap.size w) fa fs.length fc a _ x.1 _ pa pc (Fr.lt hlt hsz) (hr.map.on (e1.block b (Mv.lt hr.map))) e2 ((hr.hpv.on (Keeps.of e1 hlt)).up fun _ h => .inl h) (Nat.le_trans (List.length_filter_le _ _) hsl) hnl (fun s hs => hg.rows s (List.mem_filter.1 (List.mem_filter.1 hs).1).1) (fields_of hc.hK hrg.together hx) (by have := looks_fields hc.hK x.1; omega)).mono fun r w' h => ?_
  obtain ⟨f1, v, rfl, f2⟩ := h
  have hs2 := f1.size
  exact ⟨v, rfl, e1.trans (f1.mono hsz), (e3.on (Fr.keeps hlt hsz f1)).up fun y hy => Fr.up hsz hs2 y (.inl hy), f2.up fun y hy => Fr.up hsz hs2 y hy⟩
theorem r3 {w : World} {x : Cs} {u v : Value} {fields : List Col} {spots : List Sp} {path : List Nat} (hc : Cx k fs fa fc b m f n cols rows ax) (hr : Rd k fs fa fc b m cols rows g o cc rv sv pv spots path S wr) (hl : fields.length ≤ 100) (h : P2 S wr spots x u v fields w) :
    Calls Try.prog 50 #[.slice (some ⟨g, o, none⟩) cols.length cc, .int .i64 ax, v] w fun r w' => ∃ v, r = .returned v ∧ P2 S wr spots x u v (cols.take ax ++ fields ++ cols.drop (ax + 1)) w' := by
  have hlt : ∀ x, S x → x < wr.heap.size := fun x hx => (hr.set x hx).1
  obtain ⟨e1, e2, e3⟩ := h
  have hsz := e1.size
  have hnum := hc.num
  have hfu := hc.fuel
  refine (cut_cols g o cc cols fields v ax (Fr.lt hlt hsz) ((hr.hcols.on (Keeps.of e1 hlt)).up fun _ h => .inl h) hr.cap e3 (by omega) hc.ha).mono fun r w' h => ?_
  obtain ⟨f1, v, rfl, f2⟩ := h
  have hs2 := f1.size
  exact ⟨v, rfl, e1.trans (f1.mono hsz), (e2.on (Fr.keeps hlt hsz f1)).up fun y hy => Fr.up hsz hs2 y (.inl hy), f2.up fun y hy => Fr.up hsz hs2 y hy⟩
theorem r4 {w : World} {x : Cs} {u v : Value} {cols' : List Col} (hc : Cx k fs fa fc b m f n cols rows ax) {path : List Nat} (hr : Rd k fs fa fc b m cols rows g o cc rv sv pv (ofRows (cols[ax]'hc.ha).2.2 rows) path S wr) (h : P2 S wr (ofRows (cols[ax]'hc.ha).2.2 rows) x u v cols' w) :
    Calls Try.prog 51 #[rv, u] w fun r w' => ∃ y, r = .returned y ∧ P3 S wr v y cols' (without rows ((ofRows (cols[ax]'hc.ha).2.2 rows).filter fun s => !isOf x s)) w' := by
  have hlt : ∀ x, S x → x < wr.heap.size := fun x hx => (hr.set x hx).1
  have hg := hc.good (cols[ax]'hc.ha) (List.getElem_mem hc.ha)
  have hsl : (ofRows (cols[ax]'hc.ha).2.2 rows).length ≤ 200 := Nat.le_trans (List.length_filter_le _ _) hg.len
  obtain ⟨e1, e2, e3⟩ := h
  have hsz := e1.size
  refine (without_any rv u rows _ (Fr.lt hlt hsz) ((hr.hrows.on (Keeps.of e1 hlt)).up fun _ h => .inl h) e2 (rise_len hc.rise 200 hc.low) (Nat.le_trans (List.length_filter_le _ _) hsl) hc.rise (fun s hs => ?_) ?_).mono fun r w' h => ?_
  · have := (List.mem_filter.1 (List.mem_filter.1 hs).1).2
    simpa using this
  · exact (hg.rise.sublist ((List.filter_sublist.trans List.filter_sublist).map _)).imp fun h => Nat.ne_of_lt h
  · obtain ⟨f1, y, rfl, f2⟩ := h
    have hs2 := f1.size
    exact ⟨y, rfl, e1.trans (f1.mono hsz), (e3.on (Fr.keeps hlt hsz f1)).up fun y hy => Fr.up hsz hs2 y (.inl hy), f2.up fun y hy => Fr.up hsz hs2 y hy⟩
theorem without_sub (rows : List Nat) (spots : List Sp) : (without rows spots).Sublist rows := List.filter_sublist
theorem cols_num (k : Kn) (spots : List Sp) (con : Str) (path : List Nat) : (within k spots con path).length ≤ (looks k con).2.2 := by
  unfold within colsOf
  refine Nat.le_trans (List.length_filterMap_le _ _) ?_
  simp
end
end Go.Proofs.Ytpdmkhnonbbhnaa

namespace Go.Proofs.Ytpdmkhnonbbhnaa
open Go.RowKit Go.Maps

/-- The same world, draws aside. -/
structure Alk (w v : World) : Prop where
  heap : v.heap = w.heap
  os : v.os = w.os
  tape : v.tape = w.tape
  output : v.output = w.output
theorem Alk.below {a w v : World} {B : Nat} (h : Alk w v) (hb : Below B a w) : Below B a v := ⟨h.os.trans hb.os, h.tape.trans hb.tape, h.output.trans hb.output, by rw [h.heap]; exact hb.size, fun x hx => by rw [h.heap]; exact hb.block x hx⟩
theorem Alk.keeps {w v : World} (h : Alk w v) (S : Nat → Prop) : Keeps S w v := fun x _ => by rw [h.heap]
theorem Alk.fr {w v : World} (h : Alk w v) {S : Nat → Prop} {B : Nat} : ∀ x, Fr S B w x → Fr S B v x := fun x hx => by
  unfold Fr at *
  rwa [h.heap]
theorem Alk.p1 {S : Nat → Prop} {wr w v : World} {spots : List Sp} {x : Cs} {a u : Value} (h : Alk w v) (hp : P1 S wr spots x a u w) : P1 S wr spots x a u v := ⟨h.below hp.1, (hp.2.1.on (h.keeps _)).up h.fr, (hp.2.2.on (h.keeps _)).up h.fr⟩
theorem Alk.p2 {S : Nat → Prop} {wr w v : World} {spots : List Sp} {x : Cs} {a u : Value} {l : List Col} (h : Alk w v) (hp : P2 S wr spots x a u l w) : P2 S wr spots x a u l v := ⟨h.below hp.1, (hp.2.1.on (h.keeps _)).up h.fr, (hp.2.2.on (h.keeps _)).up h.fr⟩
theorem Alk.p3 {S : Nat → Prop} {wr w v : World} {a u : Value} {l : List Col} {r : List Nat} (h : Alk w v) (hp : P3 S wr a u l r w) : P3 S wr a u l r v := ⟨h.below hp.1, (hp.2.1.on (h.keeps _)).up h.fr, (hp.2.2.on (h.keeps _)).up h.fr⟩
section
variable {k : Kn} {fs : List Fam} {fa : Option Addr} {fc b m f n : Nat} {cols : List Col} {rows : List Nat} {ax : Nat} {g o cc : Nat} {rv sv pv : Value} {S : Nat → Prop} {W4 wr : World} {Cb i : Nat} {cur : Array Value}
theorem Bw.rd {step : Cs → Nat → Tr f × Nat} {cs : List Cs} {fv mv : Value} {spots : List Sp} {path : List Nat} (h : Bw step cs n m fv mv W4 Cb i cur wr) (hr : Rd k fs fa fc b m cols rows g o cc rv sv pv spots path S W4) (hS : ∀ x, S x → x ≠ Cb) (hbm : b ≠ m) (hbC : b ≠ Cb) : Rd k fs fa fc b m cols rows g o cc rv sv pv spots path S wr :=
  hr.on (fun x hx => h.keep x (hr.set x hx).1 (hr.set x hx).2 (hS x hx)) (h.keep b (Mv.lt hr.map) hbm hbC) h.size
/-- The values of the calls of one case. -/
theorem round_calls (hc : Cx k fs fa fc b m f n cols rows ax) {spots : List Sp} {path : List Nat} {cs : List Cs} (hsp : spots = ofRows (cols[ax]'hc.ha).2.2 rows) (hpa : path = (cols[ax]'hc.ha).1 ++ [(cols[ax]'hc.ha).2.1]) (hcs : cs = casesOf k spots) (hr4 : Rd k fs fa fc b m cols rows g o cc rv sv pv spots path S W4) (hS : ∀ x, S x → x ≠ Cb) (hbC : b ≠ Cb) (hm : m < W4.heap.size) (hC4 : Cb < W4.heap.size) (hmC : m ≠ Cb)
    (h : Bw (stepP k fs f cols rows ax spots path) cs n m (.slice fa fs.length fc) (.map (some b)) W4 Cb i cur wr) (hi : i < cs.length) (hcl : cs.length ≤ 200) :
    Calls Try.prog 46 #[sv, .agg #[.string ⟨cs[i].1.toArray⟩, .int .i64 cs[i].2, .int .i64 0, .int .i64 0, .slice none 0 0, .slice none 0 0, .slice none 0 0]] wr fun r w1 => ∃ a u, r = .returned (.tuple #[a, u]) ∧ Below wr.heap.size wr w1 ∧
    ∀ v1, Alk w1 v1 → Calls Try.prog 47 #[.agg #[.slice fa fs.length fc, .map (some b)], a, .string ⟨cs[i].1.toArray⟩, pv] v1 fun r w2 => ∃ v, r = .returned v ∧ Below wr.heap.size wr w2 ∧
    ∀ v2, Alk w2 v2 → Calls Try.prog 50 #[.slice (some ⟨g, o, none⟩) cols.length cc, .int .i64 ax, v] v2 fun r w3 => ∃ vv, r = .returned vv ∧ Below wr.heap.size wr w3 ∧
    ∀ v3, Alk w3 v3 → Calls Try.prog 51 #[rv, u] v3 fun r w4 => ∃ y, r = .returned y ∧ Below wr.heap.size wr w4 ∧
    ∀ v4, Alk w4 v4 → Calls Try.prog 20 #[.pointer (some ⟨m, 0, none⟩), vv, y] v4 fun r w5 => ∃ ta tb pa pl pc ca cl cc ea el ec, r = .returned (.agg #[.int .i64 ta, .int .i64 tb, .slice pa pl pc, .slice ca cl cc, .slice ea el ec]) ∧ w5.heap[Cb]? = some (.cells cur 53 (0, 0)) ∧ (∀ x, x < wr.heap.size → x ≠ m → w5.heap[x]? = wr.heap[x]?) ∧
      ∃ U, U = ((((w5.setCell ⟨Cb, i * 7 + 2, none⟩ (.int .i64 ta)).setCell ⟨Cb, i * 7 + 3, none⟩ (.int .i64 tb)).setCell ⟨Cb, i * 7 + 4, none⟩ (.slice pa pl pc)).setCell ⟨Cb, i * 7 + 5, none⟩ (.slice ca cl cc)).setCell ⟨Cb, i * 7 + 6, none⟩ (.slice ea el ec) ∧ ∃ cur', Bw (stepP k fs f cols rows ax spots path) cs n m (.slice fa fs.length fc) (.map (some b)) W4 Cb (i + 1) cur' U := by
  subst hsp hpa hcs
  have hr := h.rd hr4 hS hc.mapne hbC
  have hg := hc.good (cols[ax]'hc.ha) (List.getElem_mem hc.ha)
  have hsl : (ofRows (cols[ax]'hc.ha).2.2 rows).length ≤ 200 := Nat.le_trans (List.length_filter_le _ _) hg.len
  have hx := List.getElem_mem hi
  have hw := cols_num k ((ofRows (cols[ax]'hc.ha).2.2 rows).filter (isOf (casesOf k (ofRows (cols[ax]'hc.ha).2.2 rows))[i])) (casesOf k (ofRows (cols[ax]'hc.ha).2.2 rows))[i].1 ((cols[ax]'hc.ha).1 ++ [(cols[ax]'hc.ha).2.1])
  have hlf := looks_fields hc.hK (casesOf k (ofRows (cols[ax]'hc.ha).2.2 rows))[i].1
  have hfu := hc.fuel
  have hnum := hc.num
  have hat := hc.ha
  refine (r1 hr _ hsl).mono fun r w1 h1 => ?_
  obtain ⟨a, u, rfl, h1⟩ := h1
  refine ⟨a, u, rfl, h1.1, fun v1 a1 => (r2 hc hr hx (a1.p1 h1)).mono fun r w2 h2 => ?_⟩
  obtain ⟨v, rfl, h2⟩ := h2
  refine ⟨v, rfl, h2.1, fun v2 a2 => (r3 hc hr (by omega) (a2.p2 h2)).mono fun r w3 h3 => ?_⟩
  obtain ⟨vv, rfl, h3⟩ := h3
  refine ⟨vv, rfl, h3.1, fun v3 a3 => (r4 hc hr (a3.p2 h3)).mono fun r w4 h4 => ?_⟩
  obtain ⟨y, rfl, h4'⟩ := h4
  have hcnt := h.cnt
  refine ⟨y, rfl, h4'.1, fun v4 a4 => ?_⟩
  have h4 := a4.p3 h4'
  refine (sub_tree hc hr (n' := (eachP (stepP k fs f cols rows ax (ofRows (cols[ax]'hc.ha).2.2 rows) ((cols[ax]'hc.ha).1 ++ [(cols[ax]'hc.ha).2.1])) ((casesOf k (ofRows (cols[ax]'hc.ha).2.2 rows)).take i) n).2) ⟨hcnt.1, by omega⟩ h.mblk h4.1 h4.2.1 h4.2.2 (fun c hcm => ?_) ?_ (without_sub _ _)).mono fun r w5 h5 => ?_
  · rcases List.mem_append.1 hcm with hcm | hcm
    · rcases List.mem_append.1 hcm with hcm | hcm
      · exact (hc.good c (List.mem_of_mem_take hcm)).up (by omega)
      · have := Good.within hc.hK hg rows hx hcm
        exact this.up (by omega)
    · exact (hc.good c (List.mem_of_mem_drop hcm)).up (by omega)
  · rw [List.length_append, List.length_append, List.length_take, List.length_drop]
    omega
  · obtain ⟨e1, e2, e3, a', b', pa, pl, pc, ca, cl, cc', ea, el, ec, rfl, e4⟩ := h5
    have hst := h.step hi hm hC4 hmC h4.1 e1 e2 e3 (treeP_ge k fs f _ _ _) e4
    exact ⟨a', b', pa, pl, pc, ca, cl, cc', ea, el, ec, rfl, hst.1, fun x hx hxm => (e1.block x (by have := h4.1.size; omega) hxm).trans (h4.1.block x hx), hst.2⟩
/-- The cases, with their trees. -/
theorem Bw.row {step : Cs → Nat → Tr f × Nat} {cs : List Cs} {fv mv : Value} (h : Bw step cs n m fv mv W4 Cb cs.length cur wr) {B cap : Nat} {E : World} (hB : B ≤ Cb) (hC4 : Cb < W4.heap.size) (hsz : wr.heap.size ≤ E.heap.size) (hcap : cs.length ≤ cap) (hne : 0 < cs.length) (hk : ∀ x, x < wr.heap.size → (W4.heap.size ≤ x ∨ x = Cb) → E.heap[x]? = wr.heap[x]?) (hnm : ∀ c ∈ cs, c.1.length < 140737488355328) :
    RowP 7 (fun g o (c : Cs × Tr f) => (B ≤ g ∧ g < E.heap.size) ∧ E.cell? ⟨g, o, none⟩ = some (.string ⟨c.1.1.toArray⟩) ∧ E.cell? ⟨g, o + 1, none⟩ = some (.int .i64 c.1.2) ∧ c.1.1.length < 140737488355328 ∧ ∃ v0 v1 v2 v3 v4, E.cell? ⟨g, o + 2, none⟩ = some v0 ∧ E.cell? ⟨g, o + 3, none⟩ = some v1 ∧ E.cell? ⟨g, o + 4, none⟩ = some v2 ∧ E.cell? ⟨g, o + 5, none⟩ = some v3 ∧ E.cell? ⟨g, o + 6, none⟩ = some v4 ∧ TrV E (fun x => B ≤ x ∧ x < E.heap.size) f (.agg #[v0, v1, v2, v3, v4]) c.2)
      (.slice (some ⟨Cb, 0, none⟩) (cs.zip (eachP step cs n).1).length cap) (cs.zip (eachP step cs n).1) := by
  have hlen : (cs.zip (eachP step cs n).1).length = cs.length := by rw [List.length_zip, eachP_len]; omega
  have hw4 := h.size
  have hcb : E.heap[Cb]? = some (.cells cur 53 (0, 0)) := (hk Cb (by omega) (.inr rfl)).trans h.cblk
  have htk : cs.take cs.length = cs := List.take_length
  have hd := h.done
  rw [htk] at hd
  refine .inr ⟨Cb, 0, cap, rfl, fun e => by rw [e] at hlen; simp at hlen; omega, by rw [hlen]; exact hcap, fun j hj => ?_⟩
  have hj2 : j < cs.length := by rw [hlen] at hj; exact hj
  rw [List.getElem_zip]
  obtain ⟨n0, n1⟩ := h.names j hj2
  obtain ⟨v0, v1, v2, v3, v4, d0, d1, d2, d3, d4, dt⟩ := hd j (by rw [eachP_len]; exact hj2)
  rw [Nat.zero_add]
  refine ⟨⟨hB, by omega⟩, heap_cell' hcb n0, heap_cell' hcb n1, hnm _ (List.getElem_mem hj2), v0, v1, v2, v3, v4, heap_cell' hcb d0, heap_cell' hcb d1, heap_cell' hcb d2, heap_cell' hcb d3, heap_cell' hcb d4, ?_⟩
  exact TrV.below (S := fun x => W4.heap.size ≤ x ∧ x < wr.heap.size) (fun x hx => hk x hx.2 (.inl hx.1)) (fun x hx => ⟨by omega, by omega⟩) f _ _ dt
end
end Go.Proofs.Ytpdmkhnonbbhnaa

namespace Go.Proofs.Ytpdmkhnonbbhnaa
open Go.RowKit Go.Maps

def BrPost (k : Kn) (fs : List Fam) (fa : Option Addr) (fc b m f n : Nat) (cols : List Col) (rows : List Nat) (ax : Nat) (c : Col) (w : World) (r : Ending) (w' : World) : Prop :=
  Kx m w w' ∧ w'.heap[m]? = some (.cells #[.slice fa fs.length fc, .map (some b), .int .i64 (branchP k fs f n cols rows ax c).2] 65 (0, 0)) ∧ (branchP k fs f n cols rows ax c).2 ≤ 5001 + 201 * (f + 1) ∧
    ∃ x, r = .returned x ∧ TrV w' (fun b => w.heap.size ≤ b ∧ b < w'.heap.size) (f + 1) x (branchP k fs f n cols rows ax c).1
section
variable {k : Kn} {fs : List Fam} {fa : Option Addr} {fc b m f n : Nat} {cols : List Col} {rows : List Nat} {ax : Nat} {g o cc : Nat} {rv sv pv : Value} {S : Nat → Prop} {W4 wr : World} {Cb : Nat} {cur : Array Value}
theorem case_name {spots : List Sp} {w : World} {T : Nat → Prop} {v : Value} (hK : KnOk k fs) (ht : together k spots = true) (hs : Spots w T v spots) : ∀ c ∈ casesOf k spots, c.1.length < 140737488355328 ∧ (c.1 ≠ [] → (looks k c.1).1 < fs.length) := by
  intro c hc
  obtain ⟨s, hs1, rfl, _⟩ := case_of hK ht hc
  obtain ⟨_, e2, _⟩ := together_all ht s hs1 s hs1
  have hn : s.2.name.length < 140737488355328 := by
    obtain ⟨L, hL, _, hp⟩ := hs.list
    rw [← hL] at hs1
    obtain ⟨t, ht, rfl⟩ := List.mem_map.1 hs1
    exact (hp t ht).open.2.2.2.2.1
  unfold csOf
  by_cases h4 : s.2.kind = 4
  · rw [if_pos h4]
    refine ⟨hn, fun _ => ?_⟩
    obtain ⟨c, l1, _, l3⟩ := mayBe_con e2 h4
    show (looks k s.2.name).1 < _
    rw [l3]
    exact hK.family _ (look_mem l1)
  · rw [if_neg h4]
    exact ⟨by simp, fun h => absurd rfl h⟩
theorem cases_ne {spots : List Sp} (hK : KnOk k fs) (ht : together k spots = true) (hne : spots ≠ []) : 0 < (casesOf k spots).length := by
  cases spots with
  | nil => exact absurd rfl hne
  | cons s r =>
    have := ((casesOf_facts k (s :: r) (apart_of hK ht)).2 (csOf s.2)).2 (by simp)
    exact List.length_pos_of_mem this
/-- The calls behind the cases. -/
theorem else_calls (hc : Cx k fs fa fc b m f n cols rows ax) {spots : List Sp} {path : List Nat} {cs : List Cs} (hsp : spots = ofRows (cols[ax]'hc.ha).2.2 rows) (hcs : cs = casesOf k spots) (hne : spots ≠ []) (hr4 : Rd k fs fa fc b m cols rows g o cc rv sv pv spots path S W4) (hS : ∀ x, S x → x ≠ Cb) (hbC : b ≠ Cb) (hC4 : Cb < W4.heap.size)
    (h : Bw (stepP k fs f cols rows ax spots path) cs n m (.slice fa fs.length fc) (.map (some b)) W4 Cb cs.length cur wr) (hcl : cs.length ≤ 200) (cap : Nat) :
    ∀ v5, Alk wr v5 → Calls Try.prog 52 #[.agg #[.slice fa fs.length fc, .map (some b)], .slice (some ⟨Cb, 0, none⟩) cs.length cap] v5 fun r w6 => r = .returned (.bool (isFull k fs cs)) ∧ Below wr.heap.size wr w6 ∧
    ∀ v6, Alk w6 v6 → Calls Try.prog 50 #[.slice (some ⟨g, o, none⟩) cols.length cc, .int .i64 ax, .slice none 0 0] v6 fun r w7 => ∃ v2, r = .returned v2 ∧ Below wr.heap.size wr w7 ∧
    ∀ v7, Alk w7 v7 → Calls Try.prog 51 #[rv, sv] v7 fun r w8 => ∃ y, r = .returned y ∧ Below wr.heap.size wr w8 ∧
    ∀ v8, Alk w8 v8 → Calls Try.prog 20 #[.pointer (some ⟨m, 0, none⟩), v2, y] v8 fun r w9 => ∃ ta tb pa pl pc ca cl cc ea el ec, r = .returned (.agg #[.int .i64 ta, .int .i64 tb, .slice pa pl pc, .slice ca cl cc, .slice ea el ec]) ∧ Kx m wr w9 ∧
      w9.heap[m]? = some (.cells #[.slice fa fs.length fc, .map (some b), .int .i64 (treeP k fs f (eachP (stepP k fs f cols rows ax spots path) cs n).2 (cols.take ax ++ cols.drop (ax + 1)) (without rows spots)).2] 65 (0, 0)) ∧ (treeP k fs f (eachP (stepP k fs f cols rows ax spots path) cs n).2 (cols.take ax ++ cols.drop (ax + 1)) (without rows spots)).2 ≤ 5001 + 201 * (f + 1) ∧
      TrV w9 (fun x => wr.heap.size ≤ x ∧ x < w9.heap.size) f (.agg #[.int .i64 ta, .int .i64 tb, .slice pa pl pc, .slice ca cl cc, .slice ea el ec]) (treeP k fs f (eachP (stepP k fs f cols rows ax spots path) cs n).2 (cols.take ax ++ cols.drop (ax + 1)) (without rows spots)).1 := by
  subst hsp hcs
  have hr := h.rd hr4 hS hc.mapne hbC
  have hg := hc.good (cols[ax]'hc.ha) (List.getElem_mem hc.ha)
  have hrg := hg.right.sub hc.hK (a := ofRows (cols[ax]'hc.ha).2.2 rows) List.filter_sublist
  have hsl : (ofRows (cols[ax]'hc.ha).2.2 rows).length ≤ 200 := Nat.le_trans (List.length_filter_le _ _) hg.len
  have hfu := hc.fuel
  have hnum := hc.num
  have hat := hc.ha
  have hlt : ∀ x, S x → x < wr.heap.size := fun x hx => (hr.set x hx).1
  have h0 := cases_ne hc.hK hrg.together hne
  have hcn := case_name hc.hK hrg.together hr.hsp _ (List.getElem_mem h0)
  have hcnt := h.cnt
  have hmb := h.mblk
  rw [List.take_length] at hcnt hmb
  have hw4 := h.size
  intro v5 a5
  have hr5 := hr.on (a5.keeps S) (by rw [a5.heap]) (by rw [a5.heap]; exact Nat.le_refl _)
  refine (full_any fa fs fc Cb cap _ (fun x hx => (hr5.set x hx).1) hr5.map hr5.fams (by rw [a5.heap]; omega) h0 (heap_cell' (by rw [a5.heap]; exact h.cblk) (by have := (h.names 0 h0).1; rwa [Nat.zero_mul] at this)) hcn.1 hcn.2 hcl).mono fun r w6 h6 => ?_
  obtain ⟨rfl, h6⟩ := h6
  have h6 : Below wr.heap.size wr w6 := (a5.below (Below.refl wr.heap.size wr)).trans (by rw [a5.heap] at h6; exact h6)
  refine ⟨rfl, h6, fun v6 a6 => ?_⟩
  have h6 := a6.below h6
  have hz6 := h6.size
  refine (cut_cols g o cc cols [] (.slice none 0 0) ax (fun x hx => Nat.lt_of_lt_of_le (hlt x hx) hz6) (hr.hcols.on (Keeps.of h6 hlt)) hr.cap (.inl ⟨rfl, _, _, rfl⟩) (by simp; omega) hc.ha).mono fun r w7 h7 => ?_
  obtain ⟨h7, v2, rfl, h7c⟩ := h7
  have hz7 := h7.size
  refine ⟨v2, rfl, h6.trans (h7.mono hz6), fun v7 a7 => ?_⟩
  have hb7 : Below wr.heap.size wr v7 := a7.below (h6.trans (h7.mono hz6))
  refine (without_any rv sv rows _ (fun x hx => Nat.lt_of_lt_of_le (hlt x hx) hb7.size) (hr.hrows.on (Keeps.of hb7 hlt)) (hr.hsp.on (Keeps.of hb7 hlt)) (rise_len hc.rise 200 hc.low) hsl hc.rise (fun s hs => ?_) ?_).mono fun r w8 h8 => ?_
  · have := (List.mem_filter.1 hs).2
    simpa using this
  · exact (hg.rise.sublist (List.filter_sublist.map _)).imp fun h => Nat.ne_of_lt h
  obtain ⟨h8, y, rfl, h8r⟩ := h8
  have hz8 := h8.size
  have e7 := a7.heap
  refine ⟨y, rfl, hb7.trans (h8.mono hb7.size), fun v8 a8 => ?_⟩
  have hb8 : Below wr.heap.size wr v8 := a8.below (hb7.trans (h8.mono hb7.size))
  have e8 := a8.heap
  rw [List.append_nil] at h7c
  have hC : Cols v8 (Fr S wr.heap.size v8) v2 (cols.take ax ++ cols.drop (ax + 1)) := by
    refine (((h7c.on (a7.keeps _)).on (fun x hx => h8.block x ?_)).on (a8.keeps _)).up fun x hx => ?_
    · rw [e7]
      rcases hx with hx | hx
      · have := hlt x hx; omega
      · exact hx.2
    · rcases hx with hx | hx
      · exact .inl hx
      · rw [e7] at hz8
        exact .inr ⟨by omega, by rw [e8]; omega⟩
  have hR : Nats v8 (Fr S wr.heap.size v8) y (without rows (ofRows (cols[ax]'hc.ha).2.2 rows)) := (h8r.on (a8.keeps _)).up fun x hx => by
    rcases hx with hx | hx
    · exact .inl hx
    · exact .inr ⟨by have := hb7.size; omega, by rw [e8]; omega⟩
  refine (sub_tree hc hr (n' := (eachP (stepP k fs f cols rows ax (ofRows (cols[ax]'hc.ha).2.2 rows) path) (casesOf k (ofRows (cols[ax]'hc.ha).2.2 rows)) n).2) ⟨hcnt.1, by omega⟩ hmb hb8 hC hR (fun c hcm => ?_) ?_ (without_sub _ _)).mono fun r w9 h9 => ?_
  · rcases List.mem_append.1 hcm with hcm | hcm
    · exact (hc.good c (List.mem_of_mem_take hcm)).up (by omega)
    · exact (hc.good c (List.mem_of_mem_drop hcm)).up (by omega)
  · rw [List.length_append, List.length_take, List.length_drop]
    omega
  · obtain ⟨e1, e2, e3, a', b', pa, pl, pc, ca, cl, cc', ea, el, ec, rfl, e4⟩ := h9
    refine ⟨a', b', pa, pl, pc, ca, cl, cc', ea, el, ec, rfl, (Kx.of hb8).trans e1, e2, ?_, TrV.below (Keeps.refl _ _) (fun x hx => ⟨by have := hb8.size; omega, hx.2⟩) f _ _ e4⟩
    rcases Nat.lt_or_ge (eachP (stepP k fs f cols rows ax (ofRows (cols[ax]'hc.ha).2.2 rows) path) (casesOf k (ofRows (cols[ax]'hc.ha).2.2 rows)) n).2 5000 with hlt5 | hlt5
    · have := e3.2 hlt5
      omega
    · have := e3.1 hlt5
      omega
/-- The end of branch. -/
theorem br_end {spots : List Sp} {path : List Nat} {cs : List Cs} {w E : World} {els : List (Tr f)} {N R T Ph : Nat} {pa ea : Option Addr} {pc ec cap : Nat} {c : Col} (hK : KnOk k fs) (ht : together k spots = true) (hcs : cs = casesOf k spots) (hne : spots ≠ []) (hs4 : Spots W4 S sv spots)
    (h : Bw (stepP k fs f cols rows ax spots path) cs n m (.slice fa fs.length fc) (.map (some b)) W4 Cb cs.length cur wr) (hbr : branchP k fs f n cols rows ax c = (((3, 0, path), cs.zip (eachP (stepP k fs f cols rows ax spots path) cs n).1, els), N)) (hN : N ≤ 5001 + 201 * (f + 1))
    (hw : Kx m w W4) (hR : R = w.heap.size) (hRP : R < Ph) (hPC : Ph ≤ Cb) (hCT : Cb < T) (hT : T < W4.heap.size) (hmw : m < w.heap.size) (hcap : cs.length ≤ cap) (hpath : Nats W4 (fun x => R < x ∧ x < Ph) (.slice pa path.length pc) path)
    (hos : E.os = wr.os ∧ E.tape = wr.tape ∧ E.output = wr.output) (hsz : wr.heap.size ≤ E.heap.size) (hk : ∀ x, x < wr.heap.size → x ≠ m → x ≠ R → x ≠ T → E.heap[x]? = wr.heap[x]?) (hm : E.heap[m]? = some (.cells #[.slice fa fs.length fc, .map (some b), .int .i64 N] 65 (0, 0)))
    (h5 : RowP 5 (fun g o (e : Tr f) => (w.heap.size ≤ g ∧ g < E.heap.size) ∧ ∃ v0 v1 v2 v3 v4, E.cell? ⟨g, o, none⟩ = some v0 ∧ E.cell? ⟨g, o + 1, none⟩ = some v1 ∧ E.cell? ⟨g, o + 2, none⟩ = some v2 ∧ E.cell? ⟨g, o + 3, none⟩ = some v3 ∧ E.cell? ⟨g, o + 4, none⟩ = some v4 ∧ TrV E (fun b => w.heap.size ≤ b ∧ b < E.heap.size) f (.agg #[v0, v1, v2, v3, v4]) e) (.slice ea els.length ec) els) :
    BrPost k fs fa fc b m f n cols rows ax c w (.returned (.agg #[.int .i64 3, .int .i64 0, .slice pa path.length pc, .slice (some ⟨Cb, 0, none⟩) cs.length cap, .slice ea els.length ec])) E := by
  have hw4 := h.size
  have hww := hw.size
  have h0 : 0 < cs.length := by rw [hcs]; exact cases_ne hK ht hne
  have hlen : (cs.zip (eachP (stepP k fs f cols rows ax spots path) cs n).1).length = cs.length := by rw [List.length_zip, eachP_len]; omega
  have hrow := h.row (B := w.heap.size) (cap := cap) (E := E) (by omega) (by omega) hsz hcap h0 (fun x hx hx2 => hk x hx (by omega) (by omega) (by omega)) (by rw [hcs]; exact fun c hc => (case_name hK ht hs4 c hc).1)
  unfold BrPost
  rw [hbr]
  refine ⟨⟨hos.1.trans (h.os.trans hw.os), hos.2.1.trans (h.tape.trans hw.tape), hos.2.2.trans (h.output.trans hw.output), by omega, fun x hx hxm => ?_⟩, hm, hN, _, rfl, ?_⟩
  · rw [hk x (by omega) hxm (by omega) (by omega), h.keep x (by omega) hxm (by omega)]
    exact hw.block x hx hxm
  · refine ⟨pa, pc, some ⟨Cb, 0, none⟩, cap, ea, ec, ?_, ?_, ?_, h5⟩
    · show _ = Value.agg #[_, _, _, .slice _ (cs.zip (eachP (stepP k fs f cols rows ax spots path) cs n).1).length _, _]
      rw [hlen]
      rfl
    · exact (hpath.on (fun x hx => (hk x (by omega) (by omega) (by omega) (by omega)).trans (h.keep x (by omega) (by omega) (by omega)))).up fun x hx => ⟨by omega, by omega⟩
    · exact hrow
end
end Go.Proofs.Ytpdmkhnonbbhnaa
