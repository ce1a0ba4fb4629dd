/- down: the walk. -/
import Derived.Test.YtpdmkhnonbbhnaaMvx
namespace Go.Proofs.Ytpdmkhnonbbhnaa
open Go.RowKit Go.Maps

def DownPost (f : Nat) (t : Tr f) (vs : List Pt) (w : World) (r : Ending) (w' : World) : Prop := Below w.heap.size w w' ∧ r = .returned (.int .i64 (downP f t vs []))
set_option maxHeartbeats 16000000 in
set_option maxRecDepth 10000 in
theorem down_any {w : World} {S : Nat → Prop} (F : Nat) (hF : F ≤ 10000) (t : Tr F) (vs : List Pt) (x v : Value) (hS : ∀ b, S b → b < w.heap.size) (hT : TrV w S F x t) (hV : Pats w S v vs) (hSm : Sm F t) (hSh : Short F t) :
    Calls Try.prog 11 #[x, v] w (DownPost F t vs w) := by
  obtain ⟨va, vc, rfl, _⟩ := RowP.open hV
  have hform : ∀ (f : Nat) (t' : Tr f) (y : Value), TrV w S f y t' → ∃ k r p c e, y = .agg (trA k r p c e) := fun f t' y h => by
    cases f with
    | zero => exact ⟨0, 0, (none, 0, 0), (none, 0, 0), (none, 0, 0), h⟩
    | succ f =>
      obtain ⟨pa, pc, ca, cc, ea, ec, h, _⟩ := h
      exact ⟨_, _, (pa, _, pc), (ca, _, cc), (ea, _, ec), h⟩
  obtain ⟨tk, tr, tp, tc, te, rfl⟩ := hform F t x hT
  have HFM : Hid (∀ (f : Nat) (t' : Tr f) (y : Value), TrV w S f y t' → ∃ k r p c e, y = .agg (trA k r p c e)) := hform
  have HS : Hid (∀ b, S b → b < w.heap.size) := hS
  have HV : Hid (Pats w S (.slice va vs.length vc) vs) := hV
  have HT : Hid (TrV w S F (.agg (trA tk tr tp tc te)) t ∧ Sm F t ∧ Short F t) := ⟨hT, hSm, hSh⟩
  clear hform hS hV hT hSm hSh
  unfold trA
  go_enter Try.func11, Try.ntmps11
  go_wp2
  have HD0 : Hid (Dn w S [] (.slice none 0 0) (trA tk tr tp tc te) (w.alloc (Obj.cells #[.int .i64 tk, .int .i64 tr, .slice tp.1 tp.2.1 tp.2.2, .slice tc.1 tc.2.1 tc.2.2, .slice te.1 te.2.1 te.2.2] 32))) := Dn.start _
  go_loopw [5] (fun sv wr => ∃ (f : Nat) (t' : Tr f) (l : List Sq) (k r : Int) (p c e : Option Addr × Nat × Nat), f + l.length = F ∧ Hid (Dn w S l sv (trA k r p c e) wr ∧ TrV w S f (.agg (trA k r p c e)) t' ∧ Sm f t' ∧ Short f t' ∧ downP F t vs [] = downP f t' vs (l.map (·.1)))) (fun sv _ => F - sLen sv)
  case atStart => exact ⟨F, t, [], tk, tr, tp, tc, te, by simp, HD0.out, HT.out.1, HT.out.2.1, HT.out.2.2, rfl⟩
  case round =>
    obtain ⟨f, t', l, k, r, p, c, e, hfl, HR⟩ := hrel
    clear HD0 HT
    have hlen : l.length ≤ 10000 := by omega
    obtain ⟨sa, sc, hsv⟩ := HR.out.1.form
    subst hsv
    have hd0 := HR.out.1.tree
    have d0 : wr.cell? ⟨w.heap.size, 0, none⟩ = some (.int .i64 k) := heap_cell hd0 rfl
    have d1 : wr.cell? ⟨w.heap.size, 1, none⟩ = some (.int .i64 r) := heap_cell hd0 rfl
    have d2 : wr.cell? ⟨w.heap.size, 2, none⟩ = some (.slice p.1 p.2.1 p.2.2) := heap_cell hd0 rfl
    clear hd0
    by_cases hk3 : k = 3
    · subst hk3
      obtain ⟨f, rfl⟩ : ∃ f', f = f' + 1 := by
        cases f with
        | succ f => exact ⟨f, rfl⟩
        | zero =>
          have h0 : Value.agg (trA 3 r p c e) = .agg #[.int .i64 0, .int .i64 0, .slice none 0 0, .slice none 0 0, .slice none 0 0] := HR.out.2.1
          unfold trA at h0
          injection h0 with h0
          injection h0 with h0
          injection h0 with h0
          injection h0 with _ h0
          omega
      obtain ⟨pa, pc, ca, cc, ea, ec, he, hNP, hCS, hES⟩ := HR.out.2.1
      unfold trA at he
      injection he with he
      have e0 : t'.1.1 = 3 := by injection he with he; injection he with he; injection he with _ he; exact he.symm
      have e2 : p = (pa, t'.1.2.2.length, pc) := by
        injection he with he; injection he with _ he; injection he with _ he; injection he with he _
        injection he with h1 h2 h3
        exact Prod.ext h1 (Prod.ext h2 h3)
      have e3 : c = (ca, t'.2.1.length, cc) := by
        injection he with he; injection he with _ he; injection he with _ he; injection he with _ he; injection he with he _
        injection he with h1 h2 h3
        exact Prod.ext h1 (Prod.ext h2 h3)
      have e4 : e = (ea, t'.2.2.length, ec) := by
        injection he with he; injection he with _ he; injection he with _ he; injection he with _ he; injection he with _ he; injection he with he _
        injection he with h1 h2 h3
        exact Prod.ext h1 (Prod.ext h2 h3)
      subst e2 e3 e4
      clear he
      have hbw := HR.out.1.below
      have hkw := Keeps.of hbw HS.out
      have CA := at_any (S := S) vs t'.1.2.2 (.slice va vs.length vc) (.slice pa t'.1.2.2.length pc) (fun y hy => by have := HS.out y hy; have := hbw.size; omega) (HV.out.on hkw) (hNP.on hkw) HR.out.2.2.2.1.1
      have HNP : Hid (Nats w S (.slice pa t'.1.2.2.length pc) t'.1.2.2 ∧ t'.1.2.2.length < 140737488355328) := ⟨hNP, HR.out.2.2.2.1.1⟩
      have HCS : Hid (RowP 7 (CaseT w S f) (.slice ca t'.2.1.length cc) t'.2.1) := hCS
      have HES : Hid (RowP 5 (ElseT w S f) (.slice ea t'.2.2.length ec) t'.2.2) := hES
      have HE0 : Hid (t'.1.1 = 3) := e0
      clear hNP hCS hES hbw hkw e0
      go_upto_region 4 with (first
        | (go_at_call 27; (with_reducible refine Calls.mono CA ?_); rintro e' w1 ⟨hb1, xk, xs, xn, xa, xl, xc, rfl, hx⟩; have HB1 : Hid (Below wr.heap.size wr w1 ∧ ∀ y, valAt vs t'.1.2.2 = some y → xk = y.kind ∧ xs = y.name ∧ xn = y.num) := ⟨hb1, hx⟩; clear hb1 hx))
      obtain ⟨xb, hxb⟩ : ∃ xb, xb = w1.heap.size := ⟨_, rfl⟩
      obtain ⟨W5, hW5⟩ : ∃ W5, W5 = w1.alloc (Obj.cells #[.int .i64 xk, .string ⟨xs.toArray⟩, .int .i64 xn, .slice xa xl xc] 39) := ⟨_, rfl⟩
      rw [← hW5, ← hxb]
      have HW5 : Hid (Dn w S l (.slice sa l.length sc) (trA 3 r (pa, t'.1.2.2.length, pc) (ca, t'.2.1.length, cc) (ea, t'.2.2.length, ec)) W5 ∧ w.heap.size < xb ∧ xb < W5.heap.size ∧ W5.heap[xb]? = some (.cells #[.int .i64 xk, .string ⟨xs.toArray⟩, .int .i64 xn, .slice xa xl xc] 39 (0, 0))) := by
        have h1 := (HR.out.1.on HB1.out.1)
        have h2 := h1.on ((Below.refl _ _).alloc (Nat.le_refl _) (Obj.cells #[.int .i64 xk, .string ⟨xs.toArray⟩, .int .i64 xn, .slice xa xl xc] 39))
        rw [← hW5] at h2
        have h3 := h1.size
        refine ⟨h2, by omega, by rw [hW5, hxb]; simp, ?_⟩
        rw [hW5, hxb]
        exact new_block _ _
      have HPS : Hid (Sm (f + 1) t' ∧ Short (f + 1) t' ∧ downP F t vs [] = downP (f + 1) t' vs (l.map (·.1))) := HR.out.2.2
      clear hW5 hxb HR CA d0 d1 d2
      cases hval : valAt vs t'.1.2.2 with
      | none =>
        have HRES : Hid (downP F t vs [] = -2) := by show _ = _; rw [HPS.out.2.2]; exact down_none HE0.out hval
        clear HPS hval
        go_wp2
        refine bodyPost_ret (v := .int .i64 (-2)) (by simp [results, Try.results11, go_sem]) rfl ?_
        exact ⟨HW5.out.1.below, by rw [HRES.out]⟩
      | some y =>
        obtain ⟨q1, q2, q3⟩ := HB1.out.2 y hval
        subst q1 q2 q3
        have HVAL : Hid (valAt vs t'.1.2.2 = some y) := hval
        clear hval HB1
        rw [show (some y).isSome = true from rfl]
        go_wp2
        go_loopw [8] (fun iv wr => ∃ (i : Nat), i ≤ l.length ∧ iv = .int .i64 i ∧ Hid (Below W5.heap.size W5 wr) ∧ Hid (∀ q ∈ l.take i, q.1 ≠ t'.1.2.2)) (fun iv _ => l.length - (intOf iv).toNat)
        case atStart => exact ⟨0, by omega, by go_num, Below.refl _ _, fun q hq => by simp at hq⟩
        case round =>
          obtain ⟨i, hi, rfl, HB, HM⟩ := hrel
          have HD : Hid (Dn w S l (.slice sa l.length sc) (trA 3 r (pa, t'.1.2.2.length, pc) (ca, t'.2.1.length, cc) (ea, t'.2.2.length, ec)) wr) := HW5.out.1.on HB.out
          have d2 : wr.cell? ⟨w.heap.size, 2, none⟩ = some (.slice pa t'.1.2.2.length pc) := heap_cell HD.out.tree rfl
          by_cases hil : i < l.length
          · obtain ⟨g, cap, he, hg1, hg2, hgc⟩ := HD.out.seen hil
            injection he with he _ hcap
            subst he hcap
            have hgi : l[i]? = some l[i] := List.getElem?_eq_getElem hil
            have hpi := HD.out.paths _ (List.getElem_mem hil)
            have HTK : Hid (∀ q, l[i]? = some q → q.1 ≠ t'.1.2.2 → ∀ q ∈ l.take (i + 1), q.1 ≠ t'.1.2.2) := fun q h1 h2 z hz => by
              rw [List.take_add_one, h1] at hz
              rcases List.mem_append.1 hz with hz | hz
              · exact HM.out z hz
              · obtain rfl : z = q := by simpa using hz
                exact h2
            have HMM : Hid (∀ q, l[i]? = some q → q.1 ∈ l.map (·.1)) := fun q h1 => List.mem_map.2 ⟨q, List.mem_of_getElem? h1, rfl⟩
            have i1 : (0 : Int) ≤ (i : Int) := by omega
            have i2 : (i : Int) < (l.length : Int) := by omega
            generalize l[i] = q at hgc hgi hpi
            have HGI : Hid (l[i]? = some q) := hgi
            have HI : Hid (i < l.length) := hil
            have hkd : Keeps S w wr.drew := Keeps.of HD.out.below.drew HS.out
            have CW := nats_dec (S := S) (w := wr.drew) (.slice q.2.1 q.1.length q.2.2) (.slice pa t'.1.2.2.length pc) q.1 t'.1.2.2 (fun y hy => by have h1 := HS.out y hy; have h2 := HD.out.below.size; show y < wr.heap.size; omega) (hpi.1.on hkd) (HNP.out.1.on hkd) hpi.2
            clear hgi hpi hkd hil
            go_upto_region 9 with fail
            go_region_with (first | (go_at_call 16; (with_reducible refine Calls.mono CW ?_); rintro e' w3 ⟨rfl, hb3⟩))
            all_goals
              have HB3 : Hid (Below W5.heap.size W5 w3) := HB.out.drew.trans (hb3.mono HB.out.size)
              clear hb3 CW d2 hgc HD
              by_cases heq : q.1 = t'.1.2.2
              · have HRES : Hid (downP F t vs [] = -2) := by
                  show _ = _
                  rw [HPS.out.2.2]
                  refine down_seen HE0.out HVAL.out ?_
                  rw [← heq]
                  exact HMM.out q HGI.out
                rw [decide_eq_true heq]
                clear heq
                go_wp2
                refine bodyPost_ret (v := .int .i64 (-2)) (by simp [results, Try.results11, go_sem]) rfl ?_
                exact ⟨HW5.out.1.below.trans (HB3.out.mono HW5.out.1.below.size), by rw [HRES.out]⟩
              · rw [decide_eq_false heq]
                have HNE : Hid (q.1 ≠ t'.1.2.2) := heq
                clear heq
                go_wp2
                go_roundw
                case rel => exact ⟨i + 1, HI.out, by go_num, HB3.out, HTK.out q HGI.out HNE.out⟩
                case measure => simp [intOf]; have := HI.out; omega
          · have hie : i = l.length := by omega
            have HNS : Hid (t'.1.2.2 ∉ l.map (·.1)) := by
              have h1 := HM.out
              rw [hie, List.take_length] at h1
              intro h2
              obtain ⟨q, hq, e⟩ := List.mem_map.1 h2
              exact h1 q hq e
            subst hie
            have i2 : ¬ ((l.length : Nat) : Int) < (l.length : Int) := by omega
            have HX : Hid (w.heap.size < xb ∧ xb < wr.heap.size ∧ wr.heap[xb]? = some (.cells #[.int .i64 y.kind, .string ⟨y.name.toArray⟩, .int .i64 y.num, .slice xa xl xc] 39 (0, 0))) := by
              have h := HW5.out
              have h2 := HB.out.size
              exact ⟨h.2.1, by omega, (HB.out.block _ h.2.2.1).trans h.2.2.2⟩
            clear HM HB HW5 hil hi
            obtain ⟨i0, hi0, hz0, hz1, hz2⟩ := info_parts Try.info28
            have hown := HD.out.own
            have hws := HD.out.size
            have HDA : Hid (Dn w S l (.slice sa l.length sc) (trA 3 r (pa, t'.1.2.2.length, pc) (ca, t'.2.1.length, cc) (ea, t'.2.2.length, ec)) (wr.alloc (Obj.cells #[.slice pa t'.1.2.2.length pc] 28))) := HD.out.on ((Below.refl _ _).alloc (Nat.le_refl _) _)
            go_upto_region 14 with (at_builtin; refine wpList_append_lies _ rfl _ _ 73 rfl (w.heap.size + 1) 28 i0 _ 1 24 Try.underlying73 hi0 hz0 hz1 hz2 rfl (by decide) _ _ _ rfl (hown.alloc _) ⟨wr.heap.size, 0, none⟩ 1 1 [.slice pa t'.1.2.2.length pc] rfl rfl (World.news_of_block (new_block' wr _)) (by intro u hu; simp at hu; rcases hu with rfl; rfl) (by omega) (by unfold maxLen; omega) (by omega) (by simp; omega) (wr.heap.size + 1) (by simp) ?_; intro g' cap' W7 hown7 hgr7 hat7 hlt7; have HR7 : Hid (W7.ownsRow _ _ _ _ _ _ ∧ World.grownBy _ W7 _ ∧ _) := ⟨hown7, hgr7, hat7⟩; clear hown7 hgr7 hat7 hlt7 hown)
            have HD7 : Hid (Dn w S (l ++ [(t'.1.2.2, pa, pc)]) (.slice (some ⟨g', 0, none⟩) (l.length + 1) cap') (trA 3 r (pa, t'.1.2.2.length, pc) (ca, t'.2.1.length, cc) (ea, t'.2.2.length, ec)) W7) := HDA.out.snoc (q := (t'.1.2.2, pa, pc)) HNP.out HR7.out.1 HR7.out.2.1
            have HX7 : Hid (w.heap.size < xb ∧ xb < W7.heap.size ∧ W7.heap[xb]? = some (.cells #[.int .i64 y.kind, .string ⟨y.name.toArray⟩, .int .i64 y.num, .slice xa xl xc] 39 (0, 0))) := by
              have hx := HX.out
              have hg := HR7.out.2.1
              have hx2 : (wr.alloc (Obj.cells #[.slice pa t'.1.2.2.length pc] 28)).heap[xb]? = some (.cells #[.int .i64 y.kind, .string ⟨y.name.toArray⟩, .int .i64 y.num, .slice xa xl xc] 39 (0, 0)) := (Below.heap_alloc _ _ _ hx.2.1).trans hx.2.2
              have hne : some xb ≠ (Value.slice sa l.length sc).ownBlock := fun e => by
                rcases HDA.out.own.2 with ⟨e1, _⟩ | ⟨g, cap, cur, e1, _, hgc, _⟩
                · rw [e1] at e; cases e
                · rw [e1] at e
                  have : xb = g := by injection e
                  rw [← this, hx2] at hgc
                  injection hgc with hgc
                  injection hgc with _ hgc
                  cases hgc
              exact ⟨hx.1, lt_of_heap ((hg.block xb (by simp; omega) hne).trans hx2), (hg.block xb (by simp; omega) hne).trans hx2⟩
            have HCL : Hid (t'.2.1.length ≤ 200 ∧ t'.2.2.length ≤ 1) := ⟨HPS.out.1.1, HPS.out.1.2.1⟩
            have hcl : t'.2.1.length ≤ 200 := HCL.out.1
            clear HR7 HX HDA HD d2 i2 hws hi0 hz0 hz1 hz2
            go_wp2
            go_loopw [10, 11] (fun nv iv wr => ∃ (i : Nat) (n : Int), i ≤ t'.2.1.length ∧ iv = .int .i64 i ∧ nv = .int .i64 n ∧ Hid (Below W7.heap.size W7 wr) ∧ Hid (NxI y t'.2.1 i n)) (fun _ iv _ => t'.2.1.length - (intOf iv).toNat)
            case atStart => exact ⟨0, -1, by omega, by go_num, rfl, Below.refl _ _, NxI.start y _⟩
            case round =>
              obtain ⟨i, n, hi, rfl, rfl, HB, HN⟩ := hrel
              have HD : Hid (Dn w S (l ++ [(t'.1.2.2, pa, pc)]) (.slice (some ⟨g', 0, none⟩) (l.length + 1) cap') (trA 3 r (pa, t'.1.2.2.length, pc) (ca, t'.2.1.length, cc) (ea, t'.2.2.length, ec)) wr) := HD7.out.on HB.out
              have d3 : wr.cell? ⟨w.heap.size, 3, none⟩ = some (.slice ca t'.2.1.length cc) := heap_cell HD.out.tree rfl
              have d4 : wr.cell? ⟨w.heap.size, 4, none⟩ = some (.slice ea t'.2.2.length ec) := heap_cell HD.out.tree rfl
              by_cases hic : i < t'.2.1.length
              · obtain ⟨_, _, he2, hrow2⟩ := RowP.open HCS.out
                injection he2 with he2 _ hcc2
                subst he2 hcc2
                obtain ⟨gc, oc, rfl, hgl, hrc⟩ := hrow2 (fun e => by rw [e] at hic; simp at hic)
                obtain ⟨s0, q0, q1, q2, v0, v1, v2, v3, v4, c2, c3, c4, c5, c6, hin⟩ := hrc i hic
                obtain ⟨k', r', p', cx', ex', hv⟩ := HFM.out _ _ _ hin
                unfold trA at hv
                injection hv with hv
                have a0 : v0 = .int .i64 k' := by injection hv with hv; injection hv
                have a1 : v1 = .int .i64 r' := by injection hv with hv; injection hv with _ hv; injection hv
                have a2 : v2 = .slice p'.1 p'.2.1 p'.2.2 := by injection hv with hv; injection hv with _ hv; injection hv with _ hv; injection hv
                have a3 : v3 = .slice cx'.1 cx'.2.1 cx'.2.2 := by injection hv with hv; injection hv with _ hv; injection hv with _ hv; injection hv with _ hv; injection hv
                have a4 : v4 = .slice ex'.1 ex'.2.1 ex'.2.2 := by injection hv with hv; injection hv with _ hv; injection hv with _ hv; injection hv with _ hv; injection hv with _ hv; injection hv
                subst a0 a1 a2 a3 a4
                have hkw := Keeps.of HD.out.below HS.out
                replace q0 := (hkw.cell (p := ⟨gc, oc + i * 7, none⟩) s0).trans q0
                replace q1 := (hkw.cell (p := ⟨gc, oc + i * 7 + 1, none⟩) s0).trans q1
                replace c2 := (hkw.cell (p := ⟨gc, oc + i * 7 + 2, none⟩) s0).trans c2
                replace c3 := (hkw.cell (p := ⟨gc, oc + i * 7 + 3, none⟩) s0).trans c3
                replace c4 := (hkw.cell (p := ⟨gc, oc + i * 7 + 4, none⟩) s0).trans c4
                replace c5 := (hkw.cell (p := ⟨gc, oc + i * 7 + 5, none⟩) s0).trans c5
                replace c6 := (hkw.cell (p := ⟨gc, oc + i * 7 + 6, none⟩) s0).trans c6
                have HYH : Hid (hit y t'.2.1[i].1 = true → NxI y t'.2.1 (i + 1) i) := fun h => NxI.hit hic h
                have HNH : Hid (hit y t'.2.1[i].1 = false → NxI y t'.2.1 (i + 1) n) := fun h => HN.out.miss hic h
                have i1 : (0 : Int) ≤ (i : Int) := by omega
                have i2 : (i : Int) < (t'.2.1.length : Int) := by omega
                clear hrc hin hv hkw s0 q2
                generalize t'.2.1[i].1 = cs at q0 q1 HYH HNH
                have HI : Hid (i < t'.2.1.length) := hic
                clear hic
                go_upto_region 18 with fail
                obtain ⟨cb, hcb⟩ : ∃ cb, cb = wr.heap.size := ⟨_, rfl⟩
                obtain ⟨W8, hW8⟩ : ∃ W8, W8 = wr.alloc (Obj.cells #[.string ⟨cs.1.toArray⟩, .int .i64 cs.2, .int .i64 k', .int .i64 r', .slice p'.1 p'.2.1 p'.2.2, .slice cx'.1 cx'.2.1 cx'.2.2, .slice ex'.1 ex'.2.1 ex'.2.2] 53) := ⟨_, rfl⟩
                rw [← hW8, ← hcb]
                have HB8 : Hid (Below W7.heap.size W7 W8) := by show Below _ _ _; rw [hW8]; exact HB.out.alloc HB.out.size _
                have hnb : W8.heap[cb]? = some (.cells #[.string ⟨cs.1.toArray⟩, .int .i64 cs.2, .int .i64 k', .int .i64 r', .slice p'.1 p'.2.1 p'.2.2, .slice cx'.1 cx'.2.1 cx'.2.2, .slice ex'.1 ex'.2.1 ex'.2.2] 53 (0, 0)) := by rw [hW8, hcb]; exact new_block _ _
                have n0 : W8.cell? ⟨cb, 0, none⟩ = some (.string ⟨cs.1.toArray⟩) := heap_cell hnb rfl
                have n1 : W8.cell? ⟨cb, 1, none⟩ = some (.int .i64 cs.2) := heap_cell hnb rfl
                have hxw := (HB8.out.block xb HX7.out.2.1).trans HX7.out.2.2
                have x0 : W8.cell? ⟨xb, 0, none⟩ = some (.int .i64 y.kind) := heap_cell hxw rfl
                have x1 : W8.cell? ⟨xb, 1, none⟩ = some (.string ⟨y.name.toArray⟩) := heap_cell hxw rfl
                have x2 : W8.cell? ⟨xb, 2, none⟩ = some (.int .i64 y.num) := heap_cell hxw rfl
                clear hW8 hcb hnb hxw q0 q1 c2 c3 c4 c5 c6 d3 d4
                go_cut [82] from 56 to 82 (fun v wc => v = .bool (hit y cs) ∧ wc = W8)
                case first =>
                  by_cases hk4 : y.kind = 4
                  · rw [hk4] at x0
                    cases hn : (cs.1 == y.name) with
                    | true =>
                      have e3 : Hid (Value.bool true = .bool (hit y cs)) := by show _ = _; unfold hit; rw [hk4, hn]; rfl
                      clear hk4
                      go_wp2
                      go_meet
                      case rel => exact ⟨e3.out, rfl⟩
                    | false =>
                      have e3 : Hid (Value.bool false = .bool (hit y cs)) := by show _ = _; unfold hit; rw [hk4, hn]; rfl
                      clear hk4
                      go_wp2
                      go_meet
                      case rel => exact ⟨e3.out, rfl⟩
                  · have hk4' : (y.kind == 4) = false := by simpa using hk4
                    by_cases hk3 : y.kind = 3
                    · rw [hk3] at x0
                      cases hem : List.isEmpty cs.1 with
                      | true =>
                        have hce : cs.1 = [] := List.isEmpty_iff.1 hem
                        cases hnn : (cs.2 == y.num) with
                        | true =>
                          have e3 : Hid (Value.bool true = .bool (hit y cs)) := by show _ = _; unfold hit; rw [hk3, hce, hnn]; rfl
                          clear hk4 hk3 hk4' hce
                          go_wp2
                          go_meet
                          case rel => exact ⟨e3.out, rfl⟩
                        | false =>
                          have e3 : Hid (Value.bool false = .bool (hit y cs)) := by show _ = _; unfold hit; rw [hk3, hce, hnn]; rfl
                          clear hk4 hk3 hk4' hce
                          go_wp2
                          go_meet
                          case rel => exact ⟨e3.out, rfl⟩
                      | false =>
                        have hce : (cs.1 == []) = false := by
                          cases hq : cs.1 == [] with
                          | false => rfl
                          | true => rw [eq_of_beq hq] at hem; cases hem
                        have e3 : Hid (Value.bool false = .bool (hit y cs)) := by show _ = _; unfold hit; rw [hk3, hce]; rfl
                        clear hk4 hk3 hk4' hce
                        go_wp2
                        go_meet
                        case rel => exact ⟨e3.out, rfl⟩
                    · have hk3' : (y.kind == 3) = false := by simpa using hk3
                      have e3 : Hid (Value.bool false = .bool (hit y cs)) := by show _ = _; unfold hit; rw [hk4', hk3']; rfl
                      clear hk4 hk3
                      go_wp2
                      go_meet
                      case rel => exact ⟨e3.out, rfl⟩
                obtain ⟨rfl, hwc⟩ := hcut
                obtain rfl := hwc.symm
                clear x0 x1 x2 n0 n1
                cases hh : hit y cs with
                | true =>
                  have HN2 : Hid (NxI y t'.2.1 (i + 1) i) := HYH.out hh
                  clear hh
                  go_wp2
                  go_roundw
                  case rel => exact ⟨i + 1, i, HI.out, by go_num, by go_num, HB8.out, HN2.out⟩
                  case measure => simp [intOf]; have := HI.out; omega
                | false =>
                  have HN2 : Hid (NxI y t'.2.1 (i + 1) n) := HNH.out hh
                  clear hh
                  go_wp2
                  go_roundw
                  case rel => exact ⟨i + 1, n, HI.out, by go_num, rfl, HB8.out, HN2.out⟩
                  case measure => simp [intOf]; have := HI.out; omega
              · have hie : i = t'.2.1.length := by omega
                subst hie
                have i2 : ¬ ((t'.2.1.length : Nat) : Int) < (t'.2.1.length : Int) := by omega
                have hnx := HN.out
                unfold NxI at hnx
                rw [List.take_length] at hnx
                clear HN HB hic
                rcases hnx with ⟨hn, hx⟩ | ⟨j, hj, hn, hx⟩
                · subst hn
                  by_cases hel : t'.2.2.length = 1
                  · obtain ⟨eT, hel1⟩ : ∃ eT, t'.2.2 = [eT] := by
                      match h : t'.2.2, hel with
                      | [eT], _ => exact ⟨eT, rfl⟩
                    obtain ⟨_, _, he2, hrow2⟩ := RowP.open HES.out
                    injection he2 with he2 _ hcc2
                    subst he2 hcc2
                    obtain ⟨ge, oe, rfl, hgl, hrc⟩ := hrow2 (fun e => by rw [e] at hel; simp at hel)
                    obtain ⟨s0, v0, v1, v2, v3, v4, c2, c3, c4, c5, c6, hin⟩ := hrc 0 (by omega)
                    have hg0 : t'.2.2[0]'(by omega) = eT := by simp [hel1]
                    rw [hg0] at hin
                    rw [Nat.zero_mul, Nat.add_zero] at c2 c3 c4 c5 c6
                    obtain ⟨k', r', p', cx', ex', hv⟩ := HFM.out _ _ _ hin
                    have hin2 := hin
                    rw [hv] at hin2
                    unfold trA at hv
                    injection hv with hv
                    have a0 : v0 = .int .i64 k' := by injection hv with hv; injection hv
                    have a1 : v1 = .int .i64 r' := by injection hv with hv; injection hv with _ hv; injection hv
                    have a2 : v2 = .slice p'.1 p'.2.1 p'.2.2 := by injection hv with hv; injection hv with _ hv; injection hv with _ hv; injection hv
                    have a3 : v3 = .slice cx'.1 cx'.2.1 cx'.2.2 := by injection hv with hv; injection hv with _ hv; injection hv with _ hv; injection hv with _ hv; injection hv
                    have a4 : v4 = .slice ex'.1 ex'.2.1 ex'.2.2 := by injection hv with hv; injection hv with _ hv; injection hv with _ hv; injection hv with _ hv; injection hv with _ hv; injection hv
                    subst a0 a1 a2 a3 a4
                    clear hv hin
                    have hkw := Keeps.of HD.out.below HS.out
                    replace c2 := (hkw.cell (p := ⟨ge, oe, none⟩) s0).trans c2
                    replace c3 := (hkw.cell (p := ⟨ge, oe + 1, none⟩) s0).trans c3
                    replace c4 := (hkw.cell (p := ⟨ge, oe + 2, none⟩) s0).trans c4
                    replace c5 := (hkw.cell (p := ⟨ge, oe + 3, none⟩) s0).trans c5
                    replace c6 := (hkw.cell (p := ⟨ge, oe + 4, none⟩) s0).trans c6
                    clear hrc hkw s0 hg0
                    obtain ⟨U, hU, hUR, hUs, hUk, hUo⟩ := store5 (HD.out.tree : wr.heap[w.heap.size]? = some (.cells #[.int .i64 3, .int .i64 r, .slice pa t'.1.2.2.length pc, .slice ca t'.2.1.length cc, .slice (some ⟨ge, oe, none⟩) t'.2.2.length ec] 32 (0, 0))) (.int .i64 k') (.int .i64 r') (.slice p'.1 p'.2.1 p'.2.2) (.slice cx'.1 cx'.2.1 cx'.2.2) (.slice ex'.1 ex'.2.1 ex'.2.2)
                    have HDU : Hid (Dn w S (l ++ [(t'.1.2.2, pa, pc)]) (.slice (some ⟨g', 0, none⟩) (l.length + 1) cap') (trA k' r' p' cx' ex') U) := HD.out.turn hUs hUo hUk hUR
                    have d0 : wr.cell? ⟨w.heap.size, 0, none⟩ = some (.int .i64 3) := heap_cell HD.out.tree rfl
                    have d1 : wr.cell? ⟨w.heap.size, 1, none⟩ = some (.int .i64 r) := heap_cell HD.out.tree rfl
                    have d2 : wr.cell? ⟨w.heap.size, 2, none⟩ = some (.slice pa t'.1.2.2.length pc) := heap_cell HD.out.tree rfl
                    have z0 := heap_frozen (o := 0) HD.out.tree
                    have z1 := heap_frozen (o := 1) HD.out.tree
                    have z2 := heap_frozen (o := 2) HD.out.tree
                    have z3 := heap_frozen (o := 3) HD.out.tree
                    have z4 := heap_frozen (o := 4) HD.out.tree
                    have HREL : Hid (TrV w S f (.agg (trA k' r' p' cx' ex')) eT ∧ Sm f eT ∧ Short f eT ∧ downP F t vs [] = downP f eT vs ((l ++ [(t'.1.2.2, pa, pc)]).map (·.1))) := ⟨hin2, HPS.out.1.2.2.2 _ (by rw [hel1]; exact List.mem_singleton.2 rfl), HPS.out.2.1.2.2 _ (by rw [hel1]; exact List.mem_singleton.2 rfl), by rw [HPS.out.2.2, List.map_append]; exact (down_else HE0.out HVAL.out HNS.out hx).1 eT hel1⟩
                    clear hin2 hUR hUs hUk hUo hi
                    have HFL : Hid (f + 1 + l.length = F) := hfl
                    rw [hel] at d4
                    clear hel hel1
                    go_wp2
                    rw [← hU]
                    clear hU
                    go_roundw
                    case rel => exact ⟨f, eT, l ++ [(t'.1.2.2, pa, pc)], k', r', p', cx', ex', by rw [List.length_append]; simp; have := HFL.out; omega, HDU.out, HREL.out.1, HREL.out.2.1, HREL.out.2.2.1, HREL.out.2.2.2⟩
                    case measure => simp [sLen]; have := HFL.out; omega
                  · have HRES : Hid (downP F t vs [] = -2) := by show _ = _; rw [HPS.out.2.2]; exact (down_else HE0.out HVAL.out HNS.out hx).2 hel
                    have hel0 : ((t'.2.2.length : Int) == 1) = false := by simp; omega
                    clear hx
                    go_wp2
                    refine bodyPost_ret (v := .int .i64 (-2)) (by simp [results, Try.results11, go_sem]) rfl ?_
                    exact ⟨HD.out.below, by rw [HRES.out]⟩
                · subst hn
                  obtain ⟨_, _, he2, hrow2⟩ := RowP.open HCS.out
                  injection he2 with he2 _ hcc2
                  subst he2 hcc2
                  obtain ⟨gc, oc, rfl, hgl, hrc⟩ := hrow2 (fun e => by rw [e] at hj; simp at hj)
                  obtain ⟨s0, q0, q1, q2, v0, v1, v2, v3, v4, c2, c3, c4, c5, c6, hin⟩ := hrc j hj
                  obtain ⟨k', r', p', cx', ex', hv⟩ := HFM.out _ _ _ hin
                  have hin2 := hin
                  rw [hv] at hin2
                  unfold trA at hv
                  injection hv with hv
                  have a0 : v0 = .int .i64 k' := by injection hv with hv; injection hv
                  have a1 : v1 = .int .i64 r' := by injection hv with hv; injection hv with _ hv; injection hv
                  have a2 : v2 = .slice p'.1 p'.2.1 p'.2.2 := by injection hv with hv; injection hv with _ hv; injection hv with _ hv; injection hv
                  have a3 : v3 = .slice cx'.1 cx'.2.1 cx'.2.2 := by injection hv with hv; injection hv with _ hv; injection hv with _ hv; injection hv with _ hv; injection hv
                  have a4 : v4 = .slice ex'.1 ex'.2.1 ex'.2.2 := by injection hv with hv; injection hv with _ hv; injection hv with _ hv; injection hv with _ hv; injection hv with _ hv; injection hv
                  subst a0 a1 a2 a3 a4
                  clear hv hin
                  have hkw := Keeps.of HD.out.below HS.out
                  replace c2 := (hkw.cell (p := ⟨gc, oc + j * 7 + 2, none⟩) s0).trans c2
                  replace c3 := (hkw.cell (p := ⟨gc, oc + j * 7 + 3, none⟩) s0).trans c3
                  replace c4 := (hkw.cell (p := ⟨gc, oc + j * 7 + 4, none⟩) s0).trans c4
                  replace c5 := (hkw.cell (p := ⟨gc, oc + j * 7 + 5, none⟩) s0).trans c5
                  replace c6 := (hkw.cell (p := ⟨gc, oc + j * 7 + 6, none⟩) s0).trans c6
                  clear hrc hkw s0 q0 q1 q2
                  have j1 : (0 : Int) ≤ (j : Int) := by omega
                  have j2 : (j : Int) < (t'.2.1.length : Int) := by omega
                  obtain ⟨U, hU, hUR, hUs, hUk, hUo⟩ := store5 (HD.out.tree : wr.heap[w.heap.size]? = some (.cells #[.int .i64 3, .int .i64 r, .slice pa t'.1.2.2.length pc, .slice (some ⟨gc, oc, none⟩) t'.2.1.length cc, .slice ea t'.2.2.length ec] 32 (0, 0))) (.int .i64 k') (.int .i64 r') (.slice p'.1 p'.2.1 p'.2.2) (.slice cx'.1 cx'.2.1 cx'.2.2) (.slice ex'.1 ex'.2.1 ex'.2.2)
                  have HDU : Hid (Dn w S (l ++ [(t'.1.2.2, pa, pc)]) (.slice (some ⟨g', 0, none⟩) (l.length + 1) cap') (trA k' r' p' cx' ex') U) := HD.out.turn hUs hUo hUk hUR
                  have d0 : wr.cell? ⟨w.heap.size, 0, none⟩ = some (.int .i64 3) := heap_cell HD.out.tree rfl
                  have d1 : wr.cell? ⟨w.heap.size, 1, none⟩ = some (.int .i64 r) := heap_cell HD.out.tree rfl
                  have d2 : wr.cell? ⟨w.heap.size, 2, none⟩ = some (.slice pa t'.1.2.2.length pc) := heap_cell HD.out.tree rfl
                  have z0 := heap_frozen (o := 0) HD.out.tree
                  have z1 := heap_frozen (o := 1) HD.out.tree
                  have z2 := heap_frozen (o := 2) HD.out.tree
                  have z3 := heap_frozen (o := 3) HD.out.tree
                  have z4 := heap_frozen (o := 4) HD.out.tree
                  have HREL : Hid (TrV w S f (.agg (trA k' r' p' cx' ex')) t'.2.1[j].2 ∧ Sm f t'.2.1[j].2 ∧ Short f t'.2.1[j].2 ∧ downP F t vs [] = downP f t'.2.1[j].2 vs ((l ++ [(t'.1.2.2, pa, pc)]).map (·.1))) := ⟨hin2, HPS.out.1.2.2.1 _ (List.getElem_mem hj), HPS.out.2.1.2.1 _ (List.getElem_mem hj), by rw [HPS.out.2.2, List.map_append]; exact down_case HE0.out HVAL.out HNS.out hx⟩
                  clear hin2 hUR hUs hUk hUo hi
                  have HFL : Hid (f + 1 + l.length = F) := hfl
                  go_wp2
                  rw [← hU]
                  clear hU
                  go_roundw
                  case rel => exact ⟨f, t'.2.1[j].2, l ++ [(t'.1.2.2, pa, pc)], k', r', p', cx', ex', by rw [List.length_append]; simp; have := HFL.out; omega, HDU.out, HREL.out.1, HREL.out.2.1, HREL.out.2.2.1, HREL.out.2.2.2⟩
                  case measure => simp [sLen]; have := HFL.out; omega
    · have HRES : Hid (downP F t vs [] = if k = 2 then r else if k = 1 then -1 else -2) := by
        show _ = _
        rw [HR.out.2.2.2.2]
        have h1 := HR.out.2.1
        cases f with
        | zero =>
          have h0 : Value.agg (trA k r p c e) = .agg #[.int .i64 0, .int .i64 0, .slice none 0 0, .slice none 0 0, .slice none 0 0] := h1
          unfold trA at h0
          injection h0 with h0
          injection h0 with h0
          injection h0 with h0
          injection h0 with _ h0
          subst h0
          rfl
        | succ f =>
          obtain ⟨pa, pc, ca, cc, ea, ec, he, _⟩ := h1
          unfold trA at he
          injection he with he
          have e0 : k = t'.1.1 := by injection he with he; injection he with he; injection he
          have e1 : r = t'.1.2.1 := by injection he with he; injection he with _ he; injection he with he; injection he
          rw [down_leaf (by rw [← e0]; exact hk3), e0, e1]
      have HB : Hid (Below w.heap.size w wr) := HR.out.1.below
      have hk3' : (k == 3) = false := by simpa using hk3
      clear HR
      by_cases h2 : k = 2
      · subst h2
        have HR2 : Hid (downP F t vs [] = r) := by have := HRES.out; show _ = _; rw [this, if_pos rfl]
        clear hk3
        go_wp2
        refine bodyPost_ret (v := .int .i64 r) (by simp [results, Try.results11, go_sem]) rfl ?_
        exact ⟨HB.out, by rw [HR2.out]⟩
      · have h2' : (k == 2) = false := by simpa using h2
        by_cases h1 : k = 1
        · subst h1
          have HR2 : Hid (downP F t vs [] = -1) := by have := HRES.out; show _ = _; rw [this, if_neg (by decide), if_pos rfl]
          clear hk3 h2
          go_wp2
          refine bodyPost_ret (v := .int .i64 (-1)) (by simp [results, Try.results11, go_sem]) rfl ?_
          exact ⟨HB.out, by rw [HR2.out]⟩
        · have h1' : (k == 1) = false := by simpa using h1
          have HR2 : Hid (downP F t vs [] = -2) := by have := HRES.out; show _ = _; rw [this, if_neg h2, if_neg h1]
          clear hk3 h2 h1
          go_wp2
          refine bodyPost_ret (v := .int .i64 (-2)) (by simp [results, Try.results11, go_sem]) rfl ?_
          exact ⟨HB.out, by rw [HR2.out]⟩
end Go.Proofs.Ytpdmkhnonbbhnaa
