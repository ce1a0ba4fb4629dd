/- MatchDecides: the columns' patterns are right; the first row that fits, found from the last on; the walk. MatchDecides: the walk. -/
import Derived.Test.YtpdmkhnonbbhnaaYl
import Derived.Test.YtpdmkhnonbbhnaaWr
import Derived.Test.YtpdmkhnonbbhnaaWa
import Derived.Test.YtpdmkhnonbbhnaaMux
import Derived.Test.YtpdmkhnonbbhnaaYj
namespace Go.Proofs.Ytpdmkhnonbbhnaa
open Go.RowKit Go.Maps

theorem well_col {k : Kn} {fs : List Fam} (hk : KnOk k fs) {rows : List (List Pt)} (hr : RightR k rows) (n : Nat) : ∀ p ∈ rows.filterMap (·[n]?), Well k p := by
  intro p hp
  obtain ⟨row, hrow, hpn⟩ := List.mem_filterMap.1 hp
  by_cases hw : wild p = true
  · rw [Well_iff]
    intro h4
    have := (wild_iff p).1 hw
    omega
  · have hw : wild p = false := by simpa using hw
    obtain ⟨r, hrl, rfl⟩ := List.getElem_of_mem hrow
    have hl : (r, rows[r]) ∈ linesR rows := mem_linesR.2 (List.getElem?_eq_getElem hrl)
    have hm : (r, p) ∈ spotsOf n (linesR rows) := mem_spotsOf.2 ⟨(r, rows[r]), hl, hpn, hw, rfl⟩
    have hlt : n < (rows.headD []).length := by
      rw [← hr.1 _ hrow]
      exact (List.getElem?_eq_some_iff.1 hpn).1
    exact well_of hk (p.1 + 1) _ (hr.2 _ (mem_colsOf.2 ⟨n, hlt, List.ne_nil_of_mem hm, rfl⟩)) _ hm (Nat.lt_succ_self _)
/-- The first row from the j-th on that fits. -/
def wantF (rows : List (List Pt)) (vs : List Pt) (j : Nat) : Int := match (rows.drop j).findIdx? fun row => fitAll row vs with
  | some i => ((j + i : Nat) : Int)
  | none => -1
theorem wantF_zero (rows : List (List Pt)) (vs : List Pt) : wantF rows vs 0 = wantP rows vs := by
  unfold wantF wantP
  rw [List.drop_zero]
  split <;> rename_i h <;> simp [h]
theorem wantF_all (rows : List (List Pt)) (vs : List Pt) : wantF rows vs rows.length = -1 := by
  unfold wantF
  rw [List.drop_length]
  rfl
theorem wantF_step {rows : List (List Pt)} {vs : List Pt} {j : Nat} (h : j < rows.length) : wantF rows vs j = if fitAll rows[j] vs = true then (j : Int) else wantF rows vs (j + 1) := by
  unfold wantF
  rw [List.drop_eq_getElem_cons h, List.findIdx?_cons]
  by_cases hf : fitAll rows[j] vs = true
  · simp [hf]
  · simp only [hf, Bool.false_eq_true, if_false]
    cases (rows.drop (j + 1)).findIdx? fun row => fitAll row vs with
    | none => rfl
    | some i =>
      show ((j + (i + 1) : Nat) : Int) = ((j + 1 + i : Nat) : Int)
      omega
theorem col_take {rows : List (List Pt)} {n i : Nat} {p : Pt} {row : List Pt} (hi : rows[i]? = some row) (hp : row[n]? = some p) : (rows.take (i + 1)).filterMap (·[n]?) = (rows.take i).filterMap (·[n]?) ++ [p] := by
  rw [List.take_add_one, hi, List.filterMap_append]
  simp [hp]
end Go.Proofs.Ytpdmkhnonbbhnaa

namespace Go.Proofs.Ytpdmkhnonbbhnaa
open Go.RowKit Go.Maps

set_option maxHeartbeats 16000000 in
set_option maxRecDepth 10000 in
theorem decides_any {F : Nat} (hF : F = 5001) {w : World} {S : Nat → Prop} (fs : List Fam) (rows : List (List Pt)) (vs : List Pt) (fa ra va : Option Addr) (fc rc vc : Nat) (hS : ∀ b, S b → b < w.heap.size) (hFm : Fams w S (.slice fa fs.length fc) fs) (hR : RowsAt w S (.slice ra rows.length rc) rows) (hV : Pats w S (.slice va vs.length vc) vs) (hfl : fs.length < 140737488355328) (hrl : rows.length < 140737488355328) (hrw : ∀ r ∈ rows, r.length < 140737488355328) (hfw : ∀ f ∈ fs, f.1.length < 140737488355328 ∧ f.2.length < 140737488355328) (hvl : vs.length < 140737488355328) :
    Calls Try.prog 3 #[.slice fa fs.length fc, .slice ra rows.length rc, .slice va vs.length vc] w fun r w' => Below w.heap.size w w' ∧ r = .returned (.bool true) := by
  have HIN : Hid ((∀ b, S b → b < w.heap.size) ∧ Fams w S (.slice fa fs.length fc) fs ∧ RowsAt w S (.slice ra rows.length rc) rows ∧ Pats w S (.slice va vs.length vc) vs) := ⟨hS, hFm, hR, hV⟩
  have HFW : Hid (∀ f ∈ fs, f.1.length < 140737488355328 ∧ f.2.length < 140737488355328) := hfw
  have HF : Hid (F = 5001) := hF
  have HLI : Hid (∀ u, Below w.heap.size w u → Calls Try.prog 6 #[.slice fa fs.length fc, .slice ra rows.length rc] u (LightPost fs rows u)) := fun u hb => light_any (S := S) fs rows fa ra fc rc (fun b h => Nat.lt_of_lt_of_le (hS b h) hb.size) (hFm.on (Keeps.of hb hS)) (hR.on (Keeps.of hb hS)) hfl hrl hrw hfw
  obtain ⟨D, hD⟩ := deep_row vs
  have HHV : Hid (∀ u, Below w.heap.size w u → Calls Try.prog 7 #[.slice va vs.length vc, .int .i64 10000] u fun r w' => (∃ x : Int, r = .returned (.int .i64 x) ∧ -1 ≤ x ∧ x ≤ 10000 ∧ (0 ≤ x → (szs vs : Int) ≤ 10000 - x)) ∧ Below u.heap.size u w') := fun u hb => heavy_any D _ vs 10000 u S hD (fun b h => Nat.lt_of_lt_of_le (hS b h) hb.size) hvl (by omega) (by omega) (hV.on (Keeps.of hb hS))
  have HVL : Hid (vs.length < 140737488355328) := hvl
  clear hS hFm hR hV hfl hrl hrw hfw hF hD
  have CA := awake_any w
  go_enter Try.func3, Try.ntmps3
  go_upto_region 4 with (first
    | (go_at_call 5; (with_reducible refine Calls.mono CA ?_); rintro e' w0 ⟨hb0, rfl⟩; have CL := HLI.out w0 hb0)
    | (go_at_call 6; (with_reducible refine Calls.mono CL ?_); rintro e' w1 ⟨hb1, sm, rfl, hsm⟩; have HSM : Hid (sm = true → _) := hsm; have hbb1 := hb0.trans (hb1.mono hb0.size); have CH := HHV.out w1 hbb1; clear hsm hb1 hb0)
    | (go_at_call 7; (with_reducible refine Calls.mono CH ?_); rintro e' w2 ⟨⟨x, rfl, hx1, hx2, hx3⟩, hb2⟩))
  have HB2 : Hid (Below w.heap.size w w2) := hbb1.trans (hb2.mono hbb1.size)
  clear hbb1 hb2 CL CA CH HLI HHV hx3 hx1 hx2
  cases sm with
  | false =>
    go_wp2
    refine bodyPost_ret (v := .bool true) (by simp [results, Try.results3, go_sem]) rfl ?_
    exact ⟨HB2.out, rfl⟩
  | true =>
    by_cases hx0 : x < 0
    · go_wp2
      refine bodyPost_ret (v := .bool true) (by simp [results, Try.results3, go_sem]) rfl ?_
      exact ⟨HB2.out, rfl⟩
    · have hsm := HSM.out rfl
      have CC : Calls Try.prog 8 #[.slice fa fs.length fc, .slice ra rows.length rc] w2 (FirstPost F fs rows w2) := by
        have hb := HB2.out
        have h := HIN.out
        exact comp_first HF.out (S := S) fs rows fa fc _ (fun b hb' => Nat.lt_of_lt_of_le (h.1 b hb') hb.size) (h.2.1.on (Keeps.of hb h.1)) (h.2.2.1.on (Keeps.of hb h.1)) (by omega) (by have := fam_sum fs; omega) (by omega)
      have hfl : fs.length ≤ 10000 := by omega
      have hrl : rows.length ≤ 10000 := by omega
      clear hsm HSM
      go_upto_region 7 with (first
        | (go_at_call 8; (with_reducible refine Calls.mono CC ?_); rintro e' w3 ⟨hb3, tk, tr, pa, pl, pc, ca, cl, cc, ea, el, ec, b, a1, l1, c1, a2, l2, c2, e, rfl, hans⟩; have HB3 : Hid (Below w2.heap.size w2 w3) := hb3; have HANS : Hid (e = 0 → _) := hans; clear hb3 hans))
      by_cases he : ¬ e = 0
      · have hbb := HB2.out.trans (HB3.out.mono HB2.out.size)
        have HBB : Hid (Below w.heap.size w w3) := hbb
        clear hbb
        have he' : (e != 0) = true := by simpa using he
        go_wp2
        refine bodyPost_ret (v := .bool true) (by simp [results, Try.results3, go_sem]) rfl ?_
        exact ⟨(HBB.out.alloc HBB.out.size _).alloc (by simp; have := HBB.out.size; omega) _, rfl⟩
      · have he : e = 0 := Classical.not_not.1 he
        subst he
        obtain ⟨t, c, hci, hav⟩ := HANS.out rfl
        clear HANS
        obtain ⟨htv, a1', c1', a2', c2', hcv, hnat, hpat⟩ := hav
        injection hcv with hcv
        have e0 : b = c.1 := by injection hcv with hcv; injection hcv with hcv; injection hcv
        have e1 : a1 = a1' ∧ l1 = c.2.1.length ∧ c1 = c1' := by injection hcv with hcv; injection hcv with _ hcv; injection hcv with hcv; injection hcv with h1 h2 h3; exact ⟨h1, h2, h3⟩
        have e2 : a2 = a2' ∧ l2 = c.2.2.length ∧ c2 = c2' := by injection hcv with hcv; injection hcv with _ hcv; injection hcv with _ hcv; injection hcv with hcv; injection hcv with h1 h2 h3; exact ⟨h1, h2, h3⟩
        obtain ⟨rfl, rfl, rfl⟩ := e1
        obtain ⟨rfl, rfl, rfl⟩ := e2
        subst e0
        clear hcv
        obtain ⟨W4, hW4⟩ : ∃ W4, W4 = (w3.alloc (Obj.cells #[.int .i64 tk, .int .i64 tr, .slice pa pl pc, .slice ca cl cc, .slice ea el ec] 32)).alloc (Obj.cells #[.bool c.1, .slice a1 c.2.1.length c1, .slice a2 c.2.2.length c2] 34) := ⟨_, rfl⟩
        rw [← hW4]
        have hb34 : Below w3.heap.size w3 W4 := by rw [hW4]; exact ((Below.refl _ _).alloc (Nat.le_refl _) _).alloc (by simp) _
        have hbw3 : Below w.heap.size w w3 := HB2.out.trans (HB3.out.mono HB2.out.size)
        have hs4 : W4.heap.size = w3.heap.size + 2 := by rw [hW4]; simp
        have hn0 : W4.heap[w3.heap.size]? = some (.cells #[.int .i64 tk, .int .i64 tr, .slice pa pl pc, .slice ca cl cc, .slice ea el ec] 32 (0, 0)) := by
          rw [hW4, Below.heap_alloc _ _ _ (by simp)]
          exact new_block _ _
        have hn1 : W4.heap[w3.heap.size + 1]? = some (.cells #[.bool c.1, .slice a1 c.2.1.length c1, .slice a2 c.2.2.length c2] 34 (0, 0)) := by
          have e : (w3.alloc (Obj.cells #[.int .i64 tk, .int .i64 tr, .slice pa pl pc, .slice ca cl cc, .slice ea el ec] 32)).heap.size = w3.heap.size + 1 := by simp
          rw [hW4, ← e]
          exact new_block _ _
        have HBW : Hid (Below w.heap.size w W4) := hbw3.trans (hb34.mono hbw3.size)
        have HT : Hid (∀ u, Below W4.heap.size W4 u → (u.cell? ⟨w3.heap.size, 0, none⟩ = some (.int .i64 tk) ∧ u.cell? ⟨w3.heap.size, 1, none⟩ = some (.int .i64 tr) ∧ u.cell? ⟨w3.heap.size, 2, none⟩ = some (.slice pa pl pc) ∧ u.cell? ⟨w3.heap.size, 3, none⟩ = some (.slice ca cl cc) ∧ u.cell? ⟨w3.heap.size, 4, none⟩ = some (.slice ea el ec)) ∧ TrV u (fun y => y < u.heap.size) F (.agg #[.int .i64 tk, .int .i64 tr, .slice pa pl pc, .slice ca cl cc, .slice ea el ec]) t) := fun u hu => by
          have h := (hu.block w3.heap.size (by omega)).trans hn0
          refine ⟨⟨heap_cell h rfl, heap_cell h rfl, heap_cell h rfl, heap_cell h rfl, heap_cell h rfl⟩, TrV.below (Keeps.of (hb34.trans (hu.mono hb34.size)) fun y hy => hy.2) (fun y hy => ?_) _ _ _ htv⟩
          have := hu.size; omega
        have HC : Hid (∀ u, Below W4.heap.size W4 u → (u.cell? ⟨w3.heap.size + 1, 0, none⟩ = some (.bool c.1) ∧ u.cell? ⟨w3.heap.size + 1, 1, none⟩ = some (.slice a1 c.2.1.length c1) ∧ u.cell? ⟨w3.heap.size + 1, 2, none⟩ = some (.slice a2 c.2.2.length c2)) ∧ Nats u (fun y => y < u.heap.size) (.slice a1 c.2.1.length c1) c.2.1 ∧ Pats u (fun y => y < u.heap.size) (.slice a2 c.2.2.length c2) (c.2.2.map fun u => (⟨F + 1, u⟩ : Pt))) := fun u hu => by
          have h := (hu.block (w3.heap.size + 1) (by omega)).trans hn1
          have hk := Keeps.of (hb34.trans (hu.mono hb34.size)) (S := fun y => w2.heap.size ≤ y ∧ y < w3.heap.size) fun y hy => hy.2
          have hup : ∀ y, (w2.heap.size ≤ y ∧ y < w3.heap.size) → y < u.heap.size := fun y hy => by have := hu.size; omega
          exact ⟨⟨heap_cell h rfl, heap_cell h rfl, heap_cell h rfl⟩, (hnat.on hk).up hup, (hpat.on hk).up hup⟩
        have HIU : Hid (∀ u, Below W4.heap.size W4 u → Below w.heap.size w u ∧ (∀ b, S b → b < u.heap.size) ∧ Fams u S (.slice fa fs.length fc) fs ∧ RowsAt u S (.slice ra rows.length rc) rows ∧ Pats u S (.slice va vs.length vc) vs) := fun u hu => by
          have hb := HBW.out.trans (hu.mono HBW.out.size)
          have hk := Keeps.of hb HIN.out.1
          exact ⟨hb, fun y hy => by have := HIN.out.1 y hy; have := hb.size; omega, HIN.out.2.1.on hk, HIN.out.2.2.1.on hk, HIN.out.2.2.2.on hk⟩
        have HCI : Hid (CompIs F fs rows 0 (some (t, c))) := hci
        have HFI : Hid (Sm F t ∧ Short F t ∧ c.2.1.length ≤ 200 ∧ c.2.2.length ≤ 16) := comp_fine (by have := HF.out; omega) hci
        obtain ⟨hlong, k, hkn, hright, hrest⟩ := comp_ok hci
        obtain ⟨h200, h16⟩ := long_len hlong
        have HK : Hid (knowF 0 [] fs = some k ∧ RightR k rows ∧ ∀ r ∈ rows, r.length ≤ 16) := ⟨hkn, hright, h16⟩
        clear hrest hW4 hb34 hbw3 hs4 hn0 hn1 hci hlong hkn hright h16 htv hnat hpat HB2 HB3 CC
        by_cases hr0 : rows.length = 0
        · have hr0' : ((rows.length : Int) == 0) = true := by simp; exact List.eq_nil_of_length_eq_zero hr0
          clear hr0
          go_wp2
          refine bodyPost_ret (v := .bool true) (by simp [results, Try.results3, go_sem]) rfl ?_
          exact ⟨HBW.out, rfl⟩
        · have hr0' : ((rows.length : Int) == 0) = false := by simp; intro e; rw [e] at hr0; simp at hr0
          obtain ⟨_, _, he1, hrow1⟩ := RowP.open HIN.out.2.2.1
          injection he1 with he1 hx1 hcc1
          subst he1 hcc1
          clear hx1
          obtain ⟨gr, or_, rfl, hcr, hrr⟩ := hrow1 (fun e => by rw [e] at hr0; simp at hr0)
          have HRR : Hid (∀ u, Below W4.heap.size W4 u → ∀ j (h : j < rows.length), ∃ ad cap, u.cell? ⟨gr, or_ + j, none⟩ = some (.slice ad rows[j].length cap) ∧ Pats w S (.slice ad rows[j].length cap) rows[j]) := fun u hu j h => by
            obtain ⟨s0, ad, cap, q, hp⟩ := hrr j h
            rw [Nat.mul_one] at q
            exact ⟨ad, cap, ((Keeps.of (HIU.out u hu).1 HIN.out.1).cell (p := ⟨gr, or_ + j, none⟩) s0).trans q, hp⟩
          clear hrow1 hrr
          have HR0 : Hid (0 < rows.length) := by show _ < _; omega
          obtain ⟨ad0, cap0, z0, _⟩ := HRR.out W4 (Below.refl _ _) 0 HR0.out
          have HHD : Hid (∀ r ∈ rows, r.length = (rows[0]'HR0.out).length) := fun r hr => (HK.out.2.1.1 r hr).trans (HK.out.2.1.1 _ (List.getElem_mem _)).symm
          rw [Nat.add_zero] at z0
          have hr1 : (0 : Int) < (rows.length : Int) := by omega
          have hhl : (rows[0]'HR0.out).length ≤ 16 := HK.out.2.2 _ (List.getElem_mem _)
          have hm1 : (rows[0]'HR0.out).length = (rows.headD []).length := HK.out.2.1.1 _ (List.getElem_mem _)
          generalize (rows[0]'HR0.out).length = m0 at *
          have HM0 : Hid (m0 = (rows.headD []).length) := hm1
          clear hm1
          by_cases hlen : ¬ vs.length = m0
          · have hlen' : ((vs.length : Int) != (m0 : Int)) = true := by simp; omega
            clear hlen
            go_wp2
            refine bodyPost_ret (v := .bool true) (by simp [results, Try.results3, go_sem]) rfl ?_
            exact ⟨HBW.out, rfl⟩
          · obtain rfl : m0 = vs.length := (Classical.not_not.1 hlen).symm
            clear hlen
            have hlen' : ((vs.length : Int) != (vs.length : Int)) = false := by simp
            go_wp2
            clear hlen' z0
            go_loopw [13] (fun nv wr => ∃ (n : Nat), n ≤ vs.length ∧ nv = .int .i64 n ∧ Hid (Below W4.heap.size W4 wr) ∧ Hid (∀ m (_ : m < n) (h : m < vs.length), Suit k vs[m] (rows.filterMap (·[m]?)))) (fun nv _ => vs.length - (intOf nv).toNat)
            case atStart => exact ⟨0, by omega, by go_num, Below.refl _ _, fun m hm => absurd hm (Nat.not_lt_zero _)⟩
            case round =>
              obtain ⟨n, hn, rfl, HB, HSU⟩ := hrel
              by_cases hnl : n < vs.length
              · have n1 : (0 : Int) ≤ (n : Int) := by omega
                have n2 : (n : Int) < (vs.length : Int) := by omega
                have HNL : Hid (n < vs.length) := hnl
                clear hnl hn
                go_wp2
                go_loopw [14, 15] (fun bv iv wr => ∃ (i : Nat) (l : List Cq4) (ba : Option Addr) (bc : Nat), i ≤ rows.length ∧ iv = .int .i64 i ∧ bv = .slice ba l.length bc ∧ l.length ≤ i ∧ Hid (Below W4.heap.size W4 wr) ∧ Hid (Sn w S W4.heap.size l (.slice ba l.length bc) wr) ∧ Hid (l.map (·.1) = (rows.take i).filterMap (·[n]?))) (fun _ iv _ => rows.length - (intOf iv).toNat)
                case atStart => exact ⟨0, [], none, 0, by omega, by go_num, rfl, by simp, HB.out, Sn.start _ _, rfl⟩
                case round =>
                  clear HB
                  obtain ⟨i, l, ba, bc, hi, rfl, rfl, hli, HB, HSN, HLB⟩ := hrel
                  by_cases hil : i < rows.length
                  · obtain ⟨ad, cap, q, hp⟩ := HRR.out wr HB.out i hil
                    have hrlen : rows[i].length = vs.length := HHD.out _ (List.getElem_mem hil)
                    have hnr : n < rows[i].length := by rw [hrlen]; exact HNL.out
                    obtain ⟨_, _, he2, hrow2⟩ := RowP.open hp
                    injection he2 with he2 hx2 hcc2
                    subst he2 hcc2
                    obtain ⟨g2, o2, rfl, hc2, hr2⟩ := hrow2 (fun e => by rw [e] at hnr; simp at hnr)
                    have hk := Keeps.of (HIU.out wr HB.out).1 HIN.out.1
                    obtain ⟨s0, q0, q1, q2, y1, y2, ad2, cp2, q3, P2⟩ := ((hr2 n hnr).on hk).open
                    have HQ : Hid (rows[i][n].name.length < 140737488355328 ∧ rows[i][n].kids.length < 140737488355328 ∧ Pats w S (.slice ad2 rows[i][n].kids.length cp2) rows[i][n].kids) := ⟨y1, y2, P2.on fun b hb => (hk b hb).symm⟩
                    have HAD : Hid ((rows.take (i + 1)).filterMap (·[n]?) = (rows.take i).filterMap (·[n]?) ++ [rows[i][n]]) := col_take (List.getElem?_eq_getElem hil) (List.getElem?_eq_getElem hnr)
                    have i1 : (0 : Int) ≤ (i : Int) := by omega
                    have i2 : (i : Int) < (rows.length : Int) := by omega
                    rw [hrlen] at q
                    clear hx2 hp hrow2 hr2 hk s0 y1 y2 P2 hrlen hc2
                    generalize rows[i][n] = p at *
                    clear hnr
                    have HI : Hid (i < rows.length) := hil
                    clear hil hi
                    have hown := HSN.out.own
                    have hws := HB.out.size
                    have HSA : Hid (Sn w S W4.heap.size l (.slice ba l.length bc) (wr.alloc (Obj.cells #[.int .i64 p.kind, .string ⟨p.name.toArray⟩, .int .i64 p.num, .slice ad2 p.kids.length cp2] 39))) := HSN.out.on ((Below.refl _ _).alloc (Nat.le_refl _) _)
                    obtain ⟨i0, hi0, hz0, hz1, hz2⟩ := info_parts Try.info39
                    have HR0' : Hid (((rows.length : Int) == 0) = false) := hr0'
                    clear hr0'
                    go_upto_region 17 with (at_builtin; refine wpList_append_lies _ rfl _ _ 24 rfl W4.heap.size 39 i0 _ 4 56 Try.underlying24 hi0 hz0 hz1 hz2 rfl (by decide) _ _ _ rfl (hown.alloc _) ⟨wr.heap.size, 0, none⟩ 1 1 [.int .i64 p.kind, .string ⟨p.name.toArray⟩, .int .i64 p.num, .slice ad2 p.kids.length cp2] rfl rfl (World.news_of_block (new_block' wr _)) (by intro u hu; simp at hu; rcases hu with rfl | rfl | rfl | rfl <;> rfl) (by omega) (by unfold maxLen; omega) (by omega) (by simp; omega) (wr.heap.size + 1) (by simp) ?_; intro g' cap' W7 hown7 hgr7 hat7 hlt7; have HR7 : Hid (W7.ownsRow _ _ _ _ _ _ ∧ World.grownBy _ W7 _ ∧ _) := ⟨hown7, hgr7, hat7⟩; clear hown7 hgr7 hat7 hlt7 hown)
                    have HS7 : Hid (Sn w S W4.heap.size (l ++ [(p, ad2, cp2)]) (.slice (some ⟨g', 0, none⟩) (l.length + 1) cap') W7) := HSA.out.snoc (q := (p, ad2, cp2)) HQ.out HR7.out.1
                    have HB7 : Hid (Below W4.heap.size W4 W7) := (HB.out.alloc hws _).grown HR7.out.2.1 (by simp; omega) (fun y e => (HSA.out.own.lt y e).1)
                    clear HR7 HSA hws hi0 hz0 hz1 hz2
                    go_wp2
                    go_roundw
                    case rel => exact ⟨i + 1, l ++ [(p, ad2, cp2)], _, _, HI.out, by go_num, by rw [List.length_append]; rfl, by rw [List.length_append]; simp; omega, HB7.out, by rw [List.length_append]; exact HS7.out, by show _ = _; rw [HAD.out, List.map_append, HLB.out]; rfl⟩
                    case measure => simp [intOf]; have := HI.out; omega
                  · have hie : i = rows.length := by omega
                    subst hie
                    have i2 : ¬ ((rows.length : Nat) : Int) < (rows.length : Int) := by omega
                    have HLB2 : Hid (l.map (·.1) = rows.filterMap (·[n]?)) := by
                      have h := HLB.out
                      rw [List.take_length] at h
                      exact h
                    have hbw := (HIU.out wr HB.out).1
                    have hk := Keeps.of hbw HIN.out.1
                    obtain ⟨_, _, he2, hrow2⟩ := RowP.open HIN.out.2.2.2
                    injection he2 with he2 hx2 hcc2
                    subst he2 hcc2
                    have hnl := HNL.out
                    obtain ⟨g2, o2, rfl, hc2, hr2⟩ := hrow2 (fun e => by rw [e] at hnl; simp at hnl)
                    obtain ⟨s0, q0, q1, q2, y1, y2, ad2, cp2, q3, P2⟩ := ((hr2 n hnl).on hk).open
                    have hup : ∀ b, S b → b < wr.heap.size := (HIU.out wr HB.out).2.1
                    have CS := suits_any HK.out.1 hfl HFW.out (vs[n].1 + 1) vs[n] (Nat.lt_succ_self _) (l.map (·.1)) (by rw [HLB2.out]; exact Nat.le_trans (List.length_filterMap_le _ _) h200) (fun y hy => by
                      rw [HLB2.out] at hy
                      exact well_col (knowF_ok HK.out.1) HK.out.2.1 n y hy) wr (fun y => y < wr.heap.size) fa fc (.slice ba l.length bc) _ (fun b hb => hb) ((HIU.out wr HB.out).2.2.1.up hup) (HSN.out.pats hbw HIN.out.1) ⟨ad2, cp2, rfl, y1, y2, P2.up hup⟩
                    rw [HLB2.out] at CS
                    have HSN1 : Hid (Suit k (vs[n]'HNL.out) (rows.filterMap (·[n]?)) → ∀ m (_ : m < n + 1) (h2 : m < vs.length), Suit k vs[m] (rows.filterMap (·[m]?))) := fun hs m hm h2 => by
                      by_cases e : m = n
                      · subst e; exact hs
                      · exact HSU.out m (by omega) h2
                    clear hk hx2 hrow2 hr2 s0 y1 y2 P2 hup HSN HLB2 HLB hc2 hbw hil hi
                    go_upto_region 20 with (first | (go_at_call 9; (with_reducible refine Calls.mono CS ?_); rintro e' w5 ⟨hb5, b5, rfl, hs5⟩; have HB5 : Hid (Below wr.heap.size wr w5 ∧ (b5 = true → Suit k (vs[n]'HNL.out) (rows.filterMap (·[n]?)))) := ⟨hb5, hs5⟩; clear hb5 hs5))
                    cases b5 with
                    | false =>
                      go_wp2
                      refine bodyPost_ret (v := .bool true) (by simp [results, Try.results3, go_sem]) rfl ?_
                      exact ⟨(HIU.out w5 (HB.out.trans (HB5.out.1.mono HB.out.size))).1, rfl⟩
                    | true =>
                      have HB6 : Hid (Below W4.heap.size W4 w5 ∧ Suit k (vs[n]'HNL.out) (rows.filterMap (·[n]?))) := ⟨HB.out.trans (HB5.out.1.mono HB.out.size), HB5.out.2 rfl⟩
                      clear HB5
                      go_wp2
                      go_roundw
                      case rel => exact ⟨n + 1, HNL.out, by go_num, HB6.out.1, HSN1.out HB6.out.2⟩
                      case measure => simp [intOf]; have := HNL.out; omega
              · have hne : n = vs.length := by omega
                subst hne
                have n2 : ¬ ((vs.length : Nat) : Int) < (vs.length : Int) := by omega
                have HDE : Hid (downP F t vs [] = wantP rows vs ∧ (c.1 = true → 0 ≤ wantP rows vs ∧ c.2.2 = []) ∧ (c.1 = false → c.2.2.length = vs.length) ∧ (∀ r ∈ c.2.1, (r : Int) ≠ wantP rows vs) ∧ (c.1 = false → fitAll (c.2.2.map fun u => (⟨F + 1, u⟩ : Pt)) vs = true → wantP rows vs < 0)) :=
                  decides (by have := HF.out; omega) HCI.out (fun e => by have := HR0.out; rw [e] at this; simp at this) HM0.out (fun k' hk' m hm => by
                    obtain rfl := Option.some.inj (HK.out.1.symm.trans hk')
                    exact HSU.out m hm hm)
                obtain ⟨r', hr'⟩ : ∃ r', rows.length = r' + 1 := ⟨rows.length - 1, by have := HR0.out; omega⟩
                have HR' : Hid (rows.length = r' + 1) := hr'
                have hw1 : IntKind.i64.wrap ((rows.length : Int) - 1) = (rows.length : Int) - 1 := by rw [IntKind.wrap_i64]; omega
                clear hnl hn HSU hr'
                go_wp2
                go_loopw [17, 18] (fun xv iv wr => ∃ (j : Nat), j ≤ rows.length ∧ ((∃ j' : Nat, j = j' + 1 ∧ iv = .int .i64 (j' : Nat)) ∨ (j = 0 ∧ iv = .int .i64 (-1))) ∧ xv = .int .i64 (wantF rows vs j) ∧ Hid (Below W4.heap.size W4 wr)) (fun _ iv _ => (intOf iv + 1).toNat)
                case atStart => exact ⟨rows.length, Nat.le_refl _, .inl ⟨r', HR'.out, by congr 1; have := HR'.out; omega⟩, by rw [wantF_all], HB.out⟩
                case round =>
                  clear HB hw1
                  obtain ⟨j, hj, ⟨j', rfl, rfl⟩ | ⟨rfl, rfl⟩, rfl, HB⟩ := hrel
                  · obtain ⟨ad, cap, q, hp⟩ := HRR.out wr HB.out j' hj
                    have hrlen : rows[j'].length = vs.length := HHD.out _ (List.getElem_mem hj)
                    have hin := HIU.out wr HB.out
                    have CF := fitAll_any rows[j'] vs (by omega) HVL.out wr S _ _ hin.2.1 (hp.on (Keeps.of hin.1 HIN.out.1)) hin.2.2.2.2
                    have HST : Hid (wantF rows vs j' = if fitAll rows[j'] vs = true then (j' : Int) else wantF rows vs (j' + 1)) := wantF_step hj
                    have hw2 : IntKind.i64.wrap ((j' : Int) - 1) = (j' : Int) - 1 := by rw [IntKind.wrap_i64]; omega
                    have i1 : (0 : Int) ≤ (j' : Int) := by omega
                    have i2 : (j' : Int) < (rows.length : Int) := by omega
                    clear hin hp
                    generalize fitAll rows[j'] vs = bf at CF HST
                    rw [hrlen] at q CF
                    have HJ : Hid (j' < rows.length) := hj
                    clear hrlen hj
                    generalize hwf : wantF rows vs (j' + 1) = x1 at *
                    clear hwf
                    go_upto_region 27 with (first | (go_at_call 10; (with_reducible refine Calls.mono CF ?_); rintro e' w5 ⟨rfl, hb5⟩; have HB5 : Hid (Below W4.heap.size W4 w5) := HB.out.trans (hb5.mono HB.out.size); clear hb5))
                    cases bf with
                    | true =>
                      have HX : Hid (wantF rows vs j' = (j' : Int)) := by have := HST.out; rw [if_pos rfl] at this; exact this
                      clear HST
                      go_wp2
                      go_roundw
                      case rel => exact ⟨j', Nat.le_of_lt HJ.out, by cases j' with | zero => exact .inr ⟨rfl, by go_num⟩ | succ m => exact .inl ⟨m, rfl, by congr 1; omega⟩, by rw [HX.out], HB5.out⟩
                      case measure => simp [intOf]
                    | false =>
                      have HX : Hid (wantF rows vs j' = x1) := by have := HST.out; rw [if_neg (by decide)] at this; exact this
                      clear HST
                      go_wp2
                      go_roundw
                      case rel => exact ⟨j', Nat.le_of_lt HJ.out, by cases j' with | zero => exact .inr ⟨rfl, by go_num⟩ | succ m => exact .inl ⟨m, rfl, by congr 1; omega⟩, by rw [HX.out], HB5.out⟩
                      case measure => simp [intOf]
                  · rw [wantF_zero]
                    obtain ⟨⟨y0, y1, y2, y3, y4⟩, htv⟩ := HT.out wr HB.out
                    have hin := HIU.out wr HB.out
                    have CD := down_any F (by have := HF.out; omega) t vs _ (.slice va vs.length vc) (fun _ h => h) htv (hin.2.2.2.2.up hin.2.1) HFI.out.1 HFI.out.2.1
                    unfold DownPost at CD
                    rw [HDE.out.1] at CD
                    have HD2 := HDE
                    clear HDE
                    generalize wantP rows vs = x1 at *
                    clear htv hin hj
                    go_upto_region 30 with (first | (go_at_call 11; (with_reducible refine Calls.mono CD ?_); rintro e' w5 ⟨hb5, rfl⟩; have HB5 : Hid (Below W4.heap.size W4 w5) := HB.out.trans (hb5.mono HB.out.size); clear hb5))
                    obtain ⟨⟨z0, z1, z2⟩, hnat, hpat⟩ := HC.out w5 HB5.out
                    have HNP : Hid (Nats w5 (fun y => y < w5.heap.size) (.slice a1 c.2.1.length c1) c.2.1 ∧ Pats w5 (fun y => y < w5.heap.size) (.slice a2 c.2.2.length c2) (c.2.2.map fun u => (⟨F + 1, u⟩ : Pt))) := ⟨hnat, hpat⟩
                    clear hnat hpat y0 y1 y2 y3 y4
                    have hxx : (x1 != x1) = false := by simp
                    have hl1 : c.2.1.length ≤ 200 := HFI.out.2.2.1
                    generalize hcb : c.1 = cb at *
                    generalize hcl : c.2.2.length = c2l at *
                    have HCB : Hid (c.1 = cb ∧ c.2.2.length = c2l) := ⟨hcb, hcl⟩
                    clear hcb hcl
                    go_cut [139] from 110 to 139 (fun z wc => z = .bool false ∧ wc = w5)
                    case first =>
                      cases cb with
                      | true =>
                        have hx0' : ¬ x1 < 0 := by have := (HD2.out.2.1 rfl).1; omega
                        have hx0'' : decide (x1 < 0) = false := decide_eq_false hx0'
                        have h0 : c2l = 0 := by rw [← HCB.out.2, (HD2.out.2.1 rfl).2]; rfl
                        subst h0
                        go_wp2
                        go_meet
                        case rel => exact ⟨rfl, rfl⟩
                      | false =>
                        have h0 : c2l = vs.length := HD2.out.2.2.1 rfl
                        subst h0
                        have hvv : ((vs.length : Int) != (vs.length : Int)) = false := by simp
                        go_wp2
                        go_meet
                        case rel => exact ⟨rfl, rfl⟩
                    obtain ⟨rfl, hwc⟩ := hcut
                    obtain rfl := hwc.symm
                    clear hxx
                    go_wp2
                    go_loopw [21] (fun iv wr => ∃ (i : Nat), i ≤ c.2.1.length ∧ iv = .int .i64 i ∧ wr = w5) (fun iv _ => c.2.1.length - (intOf iv).toNat)
                    case atStart => exact ⟨0, by omega, by go_num, rfl⟩
                    case round =>
                      obtain ⟨i, hi, rfl, hw⟩ := hrel
                      obtain rfl := hw.symm
                      by_cases hil : i < c.2.1.length
                      · obtain ⟨_, _, he2, hrow2⟩ := RowP.open HNP.out.1
                        injection he2 with he2 hx2 hcc2
                        subst he2 hcc2
                        obtain ⟨g2, o2, rfl, hc2, hr2⟩ := hrow2 (fun e => by rw [e] at hil; simp at hil)
                        obtain ⟨_, q⟩ := hr2 i hil
                        rw [Nat.mul_one] at q
                        have hne : (((c.2.1[i] : Nat) : Int) == x1) = false := by
                          have := HD2.out.2.2.2.1 _ (List.getElem_mem hil)
                          simpa using this
                        have i1 : (0 : Int) ≤ (i : Int) := by omega
                        have i2 : (i : Int) < (c.2.1.length : Int) := by omega
                        clear hx2 hrow2 hr2 hc2
                        generalize c.2.1[i] = y at *
                        have HI : Hid (i < c.2.1.length) := hil
                        clear hil hi
                        go_wp2
                        go_roundw
                        case rel => exact ⟨i + 1, HI.out, by go_num, by trivial⟩
                        case measure => simp [intOf]; have := HI.out; omega
                      · have hie : i = c.2.1.length := by omega
                        subst hie
                        have i2 : ¬ ((c.2.1.length : Nat) : Int) < (c.2.1.length : Int) := by omega
                        clear hil hi
                        cases cb with
                        | true =>
                          go_wp2
                          refine bodyPost_ret (v := .bool true) (by simp [results, Try.results3, go_sem]) rfl ?_
                          exact ⟨(HIU.out _ HB5.out).1, rfl⟩
                        | false =>
                          have hin := HIU.out _ HB5.out
                          have h0 : c2l = vs.length := HD2.out.2.2.1 rfl
                          have CF := fitAll_any (c.2.2.map fun u => (⟨F + 1, u⟩ : Pt)) vs (by rw [List.length_map, HCB.out.2, h0]; exact Nat.le_refl _) HVL.out w5 (fun y => y < w5.heap.size) _ _ (fun _ h => h) HNP.out.2 (hin.2.2.2.2.up hin.2.1)
                          have HFT : Hid (fitAll (c.2.2.map fun u => (⟨F + 1, u⟩ : Pt)) vs = true → x1 < 0) := HD2.out.2.2.2.2 rfl
                          generalize fitAll (c.2.2.map fun u => (⟨F + 1, u⟩ : Pt)) vs = bf at CF HFT
                          clear hin h0
                          go_upto_region 40 with (first | (go_at_call 10; (with_reducible refine Calls.mono CF ?_); rintro e' w6 ⟨rfl, hb6⟩; have HB6 : Hid (Below w.heap.size w w6) := (HIU.out _ (HB5.out.trans (hb6.mono HB5.out.size))).1; clear hb6))
                          cases bf with
                          | true =>
                            have hx0' : x1 < 0 := HFT.out rfl
                            go_wp2
                            refine bodyPost_ret (v := .bool true) (by simp [results, Try.results3, go_sem]) rfl ?_
                            exact ⟨HB6.out, rfl⟩
                          | false =>
                            go_wp2
                            refine bodyPost_ret (v := .bool true) (by simp [results, Try.results3, go_sem]) rfl ?_
                            exact ⟨HB6.out, rfl⟩
end Go.Proofs.Ytpdmkhnonbbhnaa
