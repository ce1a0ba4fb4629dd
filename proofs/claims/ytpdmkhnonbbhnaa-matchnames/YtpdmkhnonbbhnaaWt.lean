/- MatchNames: the law's own walk. -/
import Derived.Test.YtpdmkhnonbbhnaaMsx
import Derived.Test.YtpdmkhnonbbhnaaWp
import Derived.Test.YtpdmkhnonbbhnaaMqx
namespace Go.Proofs.Ytpdmkhnonbbhnaa
open Go.RowKit Go.Maps
def isNo (n : Str) : Bool := n == noA || n == noB
def hasNo (fs : List Fam) : Bool := fs.any fun f => f.1.any isNo
def morV (b : Bool) (x y : Value) : Value := if b then x else y
theorem hasNo_take (fs : List Fam) (i : Nat) (h : i < fs.length) : hasNo (fs.take (i + 1)) = (hasNo (fs.take i) || fs[i].1.any isNo) := by
  unfold hasNo
  rw [List.take_add_one, List.getElem?_eq_getElem h, List.any_append]
  simp only [Option.toList_some, List.any_cons, List.any_nil, Bool.or_false]
theorem any_take (ns : List Str) (k : Nat) (h : k < ns.length) : (ns.take (k + 1)).any isNo = ((ns.take k).any isNo || isNo ns[k]) := by
  rw [List.take_add_one, List.getElem?_eq_getElem h, List.any_append]
  simp only [Option.toList_some, List.any_cons, List.any_nil, Bool.or_false]
theorem hasNo_not {fs : List Fam} (h : hasNo fs = false) : ∀ f ∈ fs, ∀ n ∈ f.1, n ≠ noA ∧ n ≠ noB := fun f hf n hn => by
  have h1 := List.any_eq_false.1 h f hf
  have h2 : isNo n = false := by
    have := List.any_eq_false.1 (by simpa using h1 : f.1.any isNo = false) n hn
    simpa using this
  unfold isNo at h2
  simpa using h2
set_option maxHeartbeats 16000000 in
set_option maxRecDepth 10000 in
theorem names_any {F : Nat} (hF : F = 5001) {w : World} {S : Nat → Prop} (fs : List Fam) (rows : List (List Pt)) (nm : Str) (fa ra : Option Addr) (fc rc : Nat) (hS : ∀ b, S b → b < w.heap.size) (hFm : Fams w S (.slice fa fs.length fc) fs) (hR : RowsAt w S (.slice ra rows.length rc) rows) (hfl : fs.length < 140737488355328) (hrl : rows.length < 140737488355328) (hrw : ∀ r ∈ rows, r.length < 140737488355328) (hfw : ∀ f ∈ fs, f.1.length < 140737488355328 ∧ f.2.length < 140737488355328) (hnm : nm.length < 140737488355328) (hfa : fa = none → fs = [] ∧ fc = 0) :
    Calls Try.prog 4 #[.slice fa fs.length fc, .slice ra rows.length rc, .string ⟨nm.toArray⟩] w fun r w' => Below w.heap.size w w' ∧ r = .returned (.bool true) := by
  have HIN : Hid ((∀ b, S b → b < w.heap.size) ∧ Fams w S (.slice fa fs.length fc) fs ∧ RowsAt w S (.slice ra rows.length rc) rows) := ⟨hS, hFm, hR⟩
  have HBD : Hid (fs.length < 140737488355328 ∧ rows.length < 140737488355328 ∧ (∀ r ∈ rows, r.length < 140737488355328) ∧ (∀ f ∈ fs, f.1.length < 140737488355328 ∧ f.2.length < 140737488355328) ∧ nm.length < 140737488355328) := ⟨hfl, hrl, hrw, hfw, hnm⟩
  have HFA : Hid (fa = none → fs = [] ∧ fc = 0) := hfa
  have HF : Hid (F = 5001) := hF
  have HLI : Hid (∀ u, Below w.heap.size w u → Calls Try.prog 6 #[.slice fa fs.length fc, .slice ra rows.length rc] u (LightPost fs rows u)) := fun u hb => light_any (S := S) fs rows fa ra fc rc (fun b h => Nat.lt_of_lt_of_le (hS b h) hb.size) (hFm.on (Keeps.of hb hS)) (hR.on (Keeps.of hb hS)) hfl hrl hrw hfw
  clear hS hFm hR hfl hrl hrw hfw hnm hfa hF
  have CA := awake_any w
  go_enter Try.func4, Try.ntmps4
  go_upto_region 3 with (first
    | (go_at_call 5; (with_reducible refine Calls.mono CA ?_); rintro e' w1 ⟨hb1, rfl⟩; have CL := HLI.out w1 hb1)
    | (go_at_call 6; (with_reducible refine Calls.mono CL ?_); rintro e' w2 ⟨hb2, sm, rfl, hsm⟩))
  have HSM : Hid (sm = true → _) := hsm
  have HB2 : Hid (Below w.heap.size w w2) := hb1.trans (hb2.mono hb1.size)
  clear hsm hb1 hb2 CL CA HLI
  cases sm with
  | false =>
    go_wp2
    refine bodyPost_ret (v := .bool true) (by simp [results, Try.results4, go_sem]) rfl ?_
    exact ⟨HB2.out, rfl⟩
  | true =>
    have hsm := HSM.out rfl
    have CC : Calls Try.prog 8 #[.slice fa fs.length fc, .slice ra rows.length rc] w2 (FirstPost F fs rows w2) := by
      have hb := HB2.out
      have h := HIN.out
      exact comp_first HF.out (S := S) fs rows fa fc _ (fun b hb' => Nat.lt_of_lt_of_le (h.1 b hb') hb.size) (h.2.1.on (Keeps.of hb h.1)) (h.2.2.on (Keeps.of hb h.1)) (by omega) (by have := fam_sum fs; omega) (by omega)
    have HRL : Hid (rows.length ≤ 10000 ∧ (rows.map szs).sum ≤ 10000 ∧ fs.length ≤ 10000 ∧ fs.length + (fs.map famz).sum ≤ 10000) := ⟨by omega, by omega, by omega, by omega⟩
    clear hsm HSM
    go_upto_region 6 with (first
      | (go_at_call 8; (with_reducible refine Calls.mono CC ?_); rintro e' w3 ⟨hb3, tk, tr, pa, pl, pc, ca, cl, cc, ea, el, ec, b, a1, l1, c1, a2, l2, c2, e, rfl, hans⟩; have HB3 : Hid (Below w2.heap.size w2 w3) := hb3; have HANS : Hid (e = 0 → _) := hans; clear hb3 hans))
    by_cases he : ¬ e = 0
    · have hbb := HB2.out.trans (HB3.out.mono HB2.out.size)
      have HBB : Hid (Below w.heap.size w w3) := hbb
      clear hbb
      have he' : (e != 0) = true := by simpa using he
      go_wp2
      refine bodyPost_ret (v := .bool true) (by simp [results, Try.results4, go_sem]) rfl ?_
      exact ⟨(HBB.out.alloc HBB.out.size _).alloc (by simp; have := HBB.out.size; omega) _, rfl⟩
    · have he : e = 0 := Classical.not_not.1 he
      subst he
      obtain ⟨t, c, hci, hav⟩ := HANS.out rfl
      clear HANS
      obtain ⟨W4, hW4⟩ : ∃ W4, W4 = (w3.alloc (Obj.cells #[.int .i64 tk, .int .i64 tr, .slice pa pl pc, .slice ca cl cc, .slice ea el ec] 32)).alloc (Obj.cells #[.bool b, .slice a1 l1 c1, .slice a2 l2 c2] 34) := ⟨_, rfl⟩
      rw [← hW4]
      have hb34 : Below w3.heap.size w3 W4 := by rw [hW4]; exact ((Below.refl _ _).alloc (Nat.le_refl _) _).alloc (by simp) _
      have HCI : Hid (CompIs F fs rows 0 (some (t, c))) := hci
      have HW4 : Hid (Below w.heap.size w W4 ∧ W4.heap.size = w3.heap.size + 2 ∧ AnsV W4 (fun y => y < w3.heap.size) F t c (.agg #[.int .i64 tk, .int .i64 tr, .slice pa pl pc, .slice ca cl cc, .slice ea el ec]) (.agg #[.bool b, .slice a1 l1 c1, .slice a2 l2 c2]) ∧ W4.heap[w3.heap.size]? = some (.cells #[.int .i64 tk, .int .i64 tr, .slice pa pl pc, .slice ca cl cc, .slice ea el ec] 32 (0, 0)) ∧ W4.heap[w3.heap.size + 1]? = some (.cells #[.bool b, .slice a1 l1 c1, .slice a2 l2 c2] 34 (0, 0)) ∧ w.heap.size ≤ w3.heap.size) := by
        have hbb := HB2.out.trans (HB3.out.mono HB2.out.size)
        refine ⟨hbb.trans (hb34.mono hbb.size), by rw [hW4]; simp, hav.on (Keeps.of hb34 fun y hy => hy.2) fun y hy => hy.2, ?_, ?_, hbb.size⟩
        · rw [hW4, Below.heap_alloc _ _ _ (by simp)]
          exact new_block _ _
        · have e : (w3.alloc (Obj.cells #[.int .i64 tk, .int .i64 tr, .slice pa pl pc, .slice ca cl cc, .slice ea el ec] 32)).heap.size = w3.heap.size + 1 := by simp
          rw [hW4, ← e]
          exact new_block _ _
      clear hW4 hb34 hav hci HB2 HB3 CC
      obtain ⟨_, _, he1, hrow1⟩ := RowP.open HIN.out.2.2
      injection he1 with he1 hx1 hcc1
      subst he1 hcc1
      clear hx1
      have HR1 : Hid (rows ≠ [] → ∃ g o, ra = some ⟨g, o, none⟩ ∧ rows.length ≤ rc ∧ ∀ j (h : j < rows.length), S g ∧ ∃ ad cap, w.cell? ⟨g, o + j * 1, none⟩ = some (.slice ad rows[j].length cap) ∧ Pats w S (.slice ad rows[j].length cap) rows[j]) := hrow1
      clear hrow1
      go_wp2
      go_loopw [12, 13] (fun ov iv wr => ∃ (i : Nat) (l : List Rw), i ≤ rows.length ∧ iv = .int .i64 i ∧ l.length = i ∧ Hid (Ro W4 l ov wr ∧ l.map (·.1) = (rows.take i).map fun r => r.map (renT nm))) (fun _ iv _ => rows.length - (intOf iv).toNat)
      case atStart => exact ⟨0, [], by omega, by go_num, rfl, Ro.start W4, rfl⟩
      case round =>
        obtain ⟨i, l, hi, rfl, hl, HRO⟩ := hrel
        have HB : Hid (Below W4.heap.size W4 wr) := HRO.out.1.below
        by_cases hil : i < rows.length
        · obtain ⟨g, o, rfl, hc, hr⟩ := HR1.out (fun e => by rw [e] at hil; simp at hil)
          obtain ⟨s0, ad, cap, q, hp⟩ := hr i hil
          have hbw : Below w.heap.size w wr := HW4.out.1.trans (HB.out.mono HW4.out.1.size)
          have hk := Keeps.of hbw HIN.out.1
          have q := (hk.cell (p := ⟨g, o + i * 1, none⟩) s0).trans q
          rw [Nat.mul_one] at q
          obtain ⟨D, hD⟩ := deep_all rows[i]
          have CN := ren_any nm HBD.out.2.2.2.2 D rows[i] hD (by have := le_sum_of_mem _ _ (List.mem_map.2 ⟨rows[i], List.getElem_mem hil, rfl⟩ : szs rows[i] ∈ rows.map szs); have := HRL.out.2.1; omega) (.slice ad rows[i].length cap) wr S (fun y hy => by have := HIN.out.1 y hy; have := hbw.size; omega) (hp.on hk)
          have HTK : Hid (((rows.take (i + 1)).map fun r => r.map (renT nm)) = ((rows.take i).map fun r => r.map (renT nm)) ++ [rows[i].map (renT nm)]) := by show _ = _; rw [List.take_add_one, List.getElem?_eq_getElem hil, List.map_append]; rfl
          have i1 : (0 : Int) ≤ (i : Int) := by omega
          have i2 : (i : Int) < (rows.length : Int) := by omega
          have hlw : l.length ≤ 10000 := by have := HRL.out.1; omega
          have hw4 : W4.heap.size ≤ wr.heap.size := HB.out.size
          have HIL : Hid (i < rows.length) := hil
          have HLE : Hid (rows[i].length = (rows[i].map (renT nm)).length) := (List.length_map _).symm
          clear hk hr hp hD hbw
          generalize rows[i] = row at *
          obtain ⟨i0, hi0, hz0, hz1, hz2⟩ := info_parts Try.info24
          go_wp2_with (first
            | (go_at_call 12; (with_reducible refine Calls.mono CN ?_); rintro e' w5 ⟨hb5, ad3, cap3, rfl, hp3⟩; have hown5 : w5.ownsRow W4.heap.size 24 1 u12 l.length (l.flatMap rwC) := own_keep HRO.out.1.own fun k hk => hb5.block k (HRO.out.1.own.lt k hk).2; have hw5 : wr.heap.size ≤ w5.heap.size := hb5.size; have HB5 : Hid (Below wr.heap.size wr w5) := hb5; have HP3 : Hid (Pats w5 _ _ _) := hp3; clear hb5 hp3)
            | (at_builtin; refine wpList_append_lies _ rfl _ _ 23 rfl W4.heap.size 24 i0 _ 1 24 Try.underlying23 hi0 hz0 hz1 hz2 rfl (by decide) _ _ _ rfl (hown5.alloc _) ⟨w5.heap.size, 0, none⟩ 1 1 [.slice ad3 row.length cap3] rfl rfl (World.news_of_block (new_block' w5 _)) (by intro u hu; simp at hu; rcases hu with rfl; rfl) (by omega) (by unfold maxLen; omega) (by omega) (by simp; omega) (w5.heap.size + 1) (by simp) ?_; intro g' cap' W7 hown7 hgr7 hat7 hlt7; have HR7 : Hid (W7.ownsRow _ _ _ _ _ _ ∧ World.grownBy _ W7 _ ∧ _) := ⟨hown7, hgr7, hat7⟩; clear hown7 hgr7 hat7 hlt7 hown5))
          refine ⟨⟨i + 1, l ++ [((row.map (renT nm), ad3, cap3) : Rw)], HIL.out, by go_num, by simp [hl], ?_, ?_⟩, by simp [intOf]; have := HIL.out; omega⟩
          · have hq : Pats w5 (fun y => wr.heap.size ≤ y ∧ y < w5.heap.size) (.slice ad3 (row.map (renT nm)).length cap3) (row.map (renT nm)) := by rw [← HLE.out]; exact HP3.out
            have := HRO.out.1.snoc (q := ((row.map (renT nm), ad3, cap3) : Rw)) (w5 := w5.alloc _) (HB5.out.alloc HB5.out.size _) (Pats.up (hq.on (Keeps.of ((Below.refl _ _).alloc (Nat.le_refl _) _) fun y hy => hy.2)) fun y hy => ⟨hy.1, by simp; omega⟩) (by unfold rwC; rw [← HLE.out]; exact HR7.out.1) HR7.out.2.1 (HR7.out.2.2.imp (fun e => by show some g' = _; exact e.symm) (fun e => by show some g' = _; rw [e]; simp))
            simpa [hl] using this
          · rw [HTK.out, List.map_append, HRO.out.2]
            rfl
        · have hie : i = rows.length := by omega
          have HO : Hid (RowsAt wr (fun y => W4.heap.size ≤ y ∧ y < wr.heap.size) u12 (rnR nm rows)) := by
            have h1 := HRO.out.1.rows
            have h2 := HRO.out.2
            rw [hie, List.take_length] at h2
            rw [h2] at h1
            exact h1
          have HBW : Hid (Below w.heap.size w wr) := HW4.out.1.trans (HB.out.mono HW4.out.1.size)
          subst hie
          have i2 : ¬ ((rows.length : Nat) : Int) < (rows.length : Int) := by omega
          clear HRO HR1 hil hi hl
          obtain ⟨N3, hN3⟩ : ∃ N3, N3 = no3 wr := ⟨_, rfl⟩
          have hN3' : N3 = ((wr.alloc (Obj.cells #[.string ⟨#[78, 111, 98, 111, 100, 121, 39, 115, 65]⟩, .string ⟨#[78, 111, 98, 111, 100, 121, 39, 115, 66]⟩] 9)).alloc (Obj.cells #[.int .i64 1, .int .i64 0] 3)).alloc (Obj.cells #[.slice (some ⟨wr.heap.size, 0, none⟩) 2 2, .slice (some ⟨wr.heap.size + 1, 0, none⟩) 2 2] 47) := hN3
          have HN3 : Hid (N3 = no3 wr) := hN3
          clear hN3
          go_wp2_with (first
            | (at_builtin; rw [← hN3', HN3.out]; refine wpList_append_noF (S := S) rfl _ _ rfl rfl rfl HBW.out HFA.out HIN.out.2.1 HIN.out.1 (by have := HRL.out.2.2.1; omega) ?_; intro g7 cap7 W7 hb7 hF7; have HF7 : Hid (Below wr.heap.size wr W7 ∧ Fams W7 _ _ _) := ⟨hb7, hF7⟩; clear hb7 hF7))
          have HB7 : Hid (Below w.heap.size w W7) := HBW.out.trans (HF7.out.1.mono HBW.out.size)
          obtain ⟨_, _, he2, hrow2⟩ := RowP.open HIN.out.2.1
          injection he2 with he2 hx2 hcc2
          subst he2 hcc2
          clear hx2
          have HR2 : Hid (fs ≠ [] → ∃ g o, fa = some ⟨g, o, none⟩ ∧ fs.length ≤ fc ∧ ∀ j (h : j < fs.length), S g ∧ (∃ ad cap, w.cell? ⟨g, o + j * 2, none⟩ = some (.slice ad fs[j].1.length cap) ∧ Strs w S (.slice ad fs[j].1.length cap) fs[j].1) ∧ ∃ ad cap, w.cell? ⟨g, o + j * 2 + 1, none⟩ = some (.slice ad fs[j].2.length cap) ∧ Ints w S (.slice ad fs[j].2.length cap) fs[j].2) := hrow2
          clear hrow2 HN3 hN3' i2
          go_loopw [14, 15, 16] (fun mv iv _ wr => ∃ (i : Nat), i ≤ fs.length ∧ iv = .int .i64 i ∧ wr = W7 ∧ Hid (mv = morV (hasNo (fs.take i)) (.slice fa fs.length fc) (.slice (some ⟨g7, 0, none⟩) (fs.length + 1) cap7))) (fun _ iv _ _ => fs.length - (intOf iv).toNat)
          case atStart => exact ⟨0, by omega, by go_num, rfl, rfl⟩
          case round =>
            obtain ⟨i, hi, rfl, hw, HM⟩ := hrel
            obtain rfl := hw.symm
            by_cases hif : i < fs.length
            · obtain ⟨gf, of, hfa, hcf, hr⟩ := HR2.out (fun e => by rw [e] at hif; simp at hif)
              obtain ⟨s0, ⟨ad, cap, q, hst⟩, _⟩ := hr i hif
              have hk := Keeps.of HB7.out HIN.out.1
              have q := (hk.cell (p := ⟨gf, of + i * 2, none⟩) s0).trans q
              have hst := hst.on hk
              have i1 : (0 : Int) ≤ (i : Int) := by omega
              have i2 : (i : Int) < (fs.length : Int) := by omega
              have HIF : Hid (i < fs.length) := hif
              have HST : Hid (Strs W7 S (.slice ad fs[i].1.length cap) fs[i].1 ∧ fs[i].1.length < 140737488355328) := ⟨hst, (HBD.out.2.2.2.1 _ (List.getElem_mem hif)).1⟩
              have HTK : Hid (hasNo (fs.take (i + 1)) = (hasNo (fs.take i) || fs[i].1.any isNo)) := hasNo_take fs i hif
              have hfl : fs.length ≤ 10000 := HRL.out.2.2.1
              clear hr hst hk s0
              generalize hb0 : hasNo (fs.take i) = b0 at *
              clear hb0
              generalize fs[i].1 = ns at *
              obtain ⟨_, _, he3, hrow3⟩ := RowP.open HST.out.1
              injection he3 with he3 hx3 hcc3
              subst he3 hcc3
              clear hx3
              have HR3 : Hid (ns ≠ [] → ∃ g o, ad = some ⟨g, o, none⟩ ∧ ns.length ≤ cap ∧ ∀ j (h : j < ns.length), S g ∧ W7.cell? ⟨g, o + j * 1, none⟩ = some (.string ⟨ns[j].toArray⟩) ∧ ns[j].length < 140737488355328) := hrow3
              clear hrow3
              have HNL : Hid (ns.length < 140737488355328) := HST.out.2
              have hnl : ns.length < 140737488355328 := HNL.out
              clear HST
              have HFE : Hid (fa = some ⟨gf, of, none⟩) := hfa
              rw [hfa]
              clear hfa
              go_wp2
              go_loopw [14, 16] (fun mv kv wr => ∃ (k : Nat), k ≤ ns.length ∧ kv = .int .i64 k ∧ wr = W7 ∧ Hid (mv = morV (b0 || (ns.take k).any isNo) (.slice fa fs.length fc) (.slice (some ⟨g7, 0, none⟩) (fs.length + 1) cap7))) (fun _ kv _ => ns.length - (intOf kv).toNat)
              case atStart => exact ⟨0, by omega, by go_num, rfl, by show _ = _; rw [List.take_zero]; simpa using HM.out⟩
              case round =>
                obtain ⟨k, hkn, rfl, hw, HM2⟩ := hrel
                obtain rfl := hw.symm
                by_cases hkf : k < ns.length
                · obtain ⟨gs, os, rfl, hcs, hrs⟩ := HR3.out (fun e => by rw [e] at hkf; simp at hkf)
                  obtain ⟨_, y0, hnk⟩ := hrs k hkf
                  rw [Nat.mul_one] at y0
                  have HTK2 : Hid ((ns.take (k + 1)).any isNo = ((ns.take k).any isNo || isNo ns[k])) := any_take ns k hkf
                  have k1 : (0 : Int) ≤ (k : Int) := by omega
                  have k2 : (k : Int) < (ns.length : Int) := by omega
                  have HKF : Hid (k < ns.length) := hkf
                  clear hrs
                  generalize ns[k] = n at *
                  generalize hb1 : (ns.take k).any isNo = b1 at *
                  clear hb1
                  cases hA : (n == [78, 111, 98, 111, 100, 121, 39, 115, 65]) with
                  | true =>
                    have hA' : isNo n = true := by unfold isNo noA; rw [hA]; rfl
                    have HA' : Hid (isNo n = true) := hA'
                    clear hA'
                    go_wp2
                    refine ⟨⟨k + 1, HKF.out, by go_num, by trivial, ?_⟩, by simp [intOf]; have := HKF.out; omega⟩
                    show _ = _
                    rw [HTK2.out, HA'.out, HFE.out]
                    simp [morV]
                  | false =>
                    cases hB : (n == [78, 111, 98, 111, 100, 121, 39, 115, 66]) with
                    | true =>
                      have hA' : isNo n = true := by unfold isNo noB; rw [hB]; simp
                      have HA' : Hid (isNo n = true) := hA'
                      clear hA'
                      go_wp2
                      refine ⟨⟨k + 1, HKF.out, by go_num, by trivial, ?_⟩, by simp [intOf]; have := HKF.out; omega⟩
                      show _ = _
                      rw [HTK2.out, HA'.out, HFE.out]
                      simp [morV]
                    | false =>
                      have hA' : isNo n = false := by unfold isNo noA noB; rw [hA, hB]; rfl
                      have HA' : Hid (isNo n = false) := hA'
                      clear hA'
                      go_wp2
                      refine ⟨⟨k + 1, HKF.out, by go_num, by trivial, ?_⟩, by simp [intOf]; have := HKF.out; omega⟩
                      show _ = _
                      rw [HTK2.out, HA'.out, Bool.or_false]
                      exact HM2.out
                · have hke : k = ns.length := by omega
                  subst hke
                  have k2 : ¬ ((ns.length : Nat) : Int) < (ns.length : Int) := by omega
                  have HM3 : Hid (u14 = morV (b0 || ns.any isNo) (.slice fa fs.length fc) (.slice (some ⟨g7, 0, none⟩) (fs.length + 1) cap7)) := by
                    have := HM2.out
                    rw [List.take_length] at this
                    exact this
                  clear HM2 HR3
                  go_wp2
                  refine ⟨⟨i + 1, HIF.out, by go_num, by trivial, ?_⟩, by simp [intOf]; have := HIF.out; omega⟩
                  show _ = _
                  rw [HTK.out, ← HFE.out]
                  exact HM3.out
            · have hie : i = fs.length := by omega
              subst hie
              have HM0 : Hid (u14 = morV (hasNo fs) (.slice fa fs.length fc) (.slice (some ⟨g7, 0, none⟩) (fs.length + 1) cap7)) := by
                have := HM.out
                rw [List.take_length] at this
                exact this
              have CC2 : Calls Try.prog 8 #[u14, u12] W7 (AgainPost F t c W7) := by
                have h7 := HF7.out
                have hcn := comp_names nm HCI.out
                have hsum := comp_sum HCI.out
                have hrl := HRL.out
                have hO : RowsAt W7 (fun y => y < W7.heap.size) u12 (rnR nm rows) := (HO.out.on (Keeps.of h7.1 fun y hy => hy.2)).up fun y hy => by have := h7.1.size; omega
                have hrs := rows_ren nm rows
                rw [HM0.out]
                cases hh : hasNo fs with
                | true =>
                  exact comp_again HF.out (S := fun y => y < W7.heap.size) fs (rnR nm rows) hcn.1 fa fc u12 (fun _ h => h) ((HIN.out.2.1.on (Keeps.of HB7.out HIN.out.1)).up fun y hy => by have := HIN.out.1 y hy; have := HB7.out.size; omega) hO (by omega) (by omega) (by omega)
                | false =>
                  refine comp_again HF.out (S := fun y => y < W7.heap.size) (noF :: fs) (rnR nm rows) (hcn.2 (hasNo_not hh)) (some ⟨g7, 0, none⟩) cap7 u12 (fun _ h => h) (h7.2.up fun y hy => ?_) hO (by rw [List.length_cons]; omega) (by rw [List.map_cons, List.sum_cons]; show 2 + _ ≤ _; omega) (by omega)
                  rcases hy with hy | hy
                  · have := HIN.out.1 y hy; have := HB7.out.size; omega
                  · exact hy.2
              have HB47 : Hid (Below W4.heap.size W4 W7) := HB.out.trans (HF7.out.1.mono HB.out.size)
              have i3 : ¬ ((fs.length : Nat) : Int) < (fs.length : Int) := by omega
              clear HM HM0 hif HR2 HO HF7 HBW HB HFA hi
              go_upto_region 23 with (first
                | (go_at_call 8; (with_reducible refine Calls.mono CC2 ?_); rintro e' w8 ⟨hb8, tk', tr', pa', pl', pc', ca', cl', cc', ea', el', ec', b', a1', l1', c1', a2', l2', c2', rfl, hav'⟩; have HB8 : Hid (Below W7.heap.size W7 w8 ∧ AnsV w8 _ F t c _ _) := ⟨hb8, hav'⟩; clear hb8 hav'))
              obtain ⟨W9, hW9⟩ : ∃ W9, W9 = (w8.alloc (Obj.cells #[.int .i64 tk', .int .i64 tr', .slice pa' pl' pc', .slice ca' cl' cc', .slice ea' el' ec'] 32)).alloc (Obj.cells #[.bool b', .slice a1' l1' c1', .slice a2' l2' c2'] 34) := ⟨_, rfl⟩
              rw [← hW9]
              have hb89 : Below w8.heap.size w8 W9 := by rw [hW9]; exact ((Below.refl _ _).alloc (Nat.le_refl _) _).alloc (by simp) _
              have hs9 : W9.heap.size = w8.heap.size + 2 := by rw [hW9]; simp
              have hn0 : W9.heap[w8.heap.size]? = some (.cells #[.int .i64 tk', .int .i64 tr', .slice pa' pl' pc', .slice ca' cl' cc', .slice ea' el' ec'] 32 (0, 0)) := by
                rw [hW9, Below.heap_alloc _ _ _ (by simp)]
                exact new_block _ _
              have hn1 : W9.heap[w8.heap.size + 1]? = some (.cells #[.bool b', .slice a1' l1' c1', .slice a2' l2' c2'] 34 (0, 0)) := by
                have e : (w8.alloc (Obj.cells #[.int .i64 tk', .int .i64 tr', .slice pa' pl' pc', .slice ca' cl' cc', .slice ea' el' ec'] 32)).heap.size = w8.heap.size + 1 := by simp
                rw [hW9, ← e]
                exact new_block _ _
              have h8 := HB8.out
              have h4 := HW4.out
              have h47 := HB47.out
              have hb49 : Below W4.heap.size W4 W9 := (h47.trans (h8.1.mono h47.size)).trans (hb89.mono (Nat.le_trans h47.size h8.1.size))
              have ho0 : W9.heap[w3.heap.size]? = _ := (hb49.block _ (by omega)).trans h4.2.2.2.1
              have ho1 : W9.heap[w3.heap.size + 1]? = _ := (hb49.block _ (by omega)).trans h4.2.2.2.2.1
              have hA1 : AnsV W9 (fun y => y < W9.heap.size) F t c (.agg #[.int .i64 tk, .int .i64 tr, .slice pa pl pc, .slice ca cl cc, .slice ea el ec]) (.agg #[.bool b, .slice a1 l1 c1, .slice a2 l2 c2]) := h4.2.2.1.on (Keeps.of hb49 fun y hy => by omega) fun y hy => by have := hb49.size; omega
              have hA2 : AnsV W9 (fun y => y < W9.heap.size) F t c (.agg #[.int .i64 tk', .int .i64 tr', .slice pa' pl' pc', .slice ca' cl' cc', .slice ea' el' ec']) (.agg #[.bool b', .slice a1' l1' c1', .slice a2' l2' c2']) := h8.2.on (Keeps.of hb89 fun y hy => hy.2) fun y hy => by have := hb89.size; omega
              have CT := (both_same (by have := HF.out; omega) HCI.out (fun _ h => h) hA1 hA2).1
              have HCV : Hid (∀ u, Below W9.heap.size W9 u → (u.cell? ⟨w3.heap.size + 1, 0, none⟩ = some (.bool b) ∧ u.cell? ⟨w3.heap.size + 1, 1, none⟩ = some (.slice a1 l1 c1) ∧ u.cell? ⟨w3.heap.size + 1, 2, none⟩ = some (.slice a2 l2 c2) ∧ u.cell? ⟨w8.heap.size + 1, 0, none⟩ = some (.bool b') ∧ u.cell? ⟨w8.heap.size + 1, 1, none⟩ = some (.slice a1' l1' c1') ∧ u.cell? ⟨w8.heap.size + 1, 2, none⟩ = some (.slice a2' l2' c2')) ∧ Calls Try.prog 14 #[.agg #[.bool b, .slice a1 l1 c1, .slice a2 l2 c2], .agg #[.bool b', .slice a1' l1' c1', .slice a2' l2' c2']] u (fun r w' => r = .returned (.bool true) ∧ Below u.heap.size u w')) := fun u hu => by
                have o1 := (hu.block _ (by have := hb49.size; omega)).trans ho1
                have n1 := (hu.block _ (by omega)).trans hn1
                refine ⟨⟨heap_cell o1 rfl, heap_cell o1 rfl, heap_cell o1 rfl, heap_cell n1 rfl, heap_cell n1 rfl, heap_cell n1 rfl⟩, ?_⟩
                exact (both_same (S := fun y => y < u.heap.size) (by have := HF.out; omega) HCI.out (fun _ h => h) (hA1.on (Keeps.of hu fun _ h => h) fun y hy => by have := hu.size; omega) (hA2.on (Keeps.of hu fun _ h => h) fun y hy => by have := hu.size; omega)).2
              have HB9 : Hid (Below w.heap.size w W9) := h4.1.trans (hb49.mono h4.1.size)
              have x0 : W9.cell? ⟨w3.heap.size, 0, none⟩ = some (.int .i64 tk) := heap_cell ho0 rfl
              have x1 : W9.cell? ⟨w3.heap.size, 1, none⟩ = some (.int .i64 tr) := heap_cell ho0 rfl
              have x2 : W9.cell? ⟨w3.heap.size, 2, none⟩ = some (.slice pa pl pc) := heap_cell ho0 rfl
              have x3 : W9.cell? ⟨w3.heap.size, 3, none⟩ = some (.slice ca cl cc) := heap_cell ho0 rfl
              have x4 : W9.cell? ⟨w3.heap.size, 4, none⟩ = some (.slice ea el ec) := heap_cell ho0 rfl
              have y0 : W9.cell? ⟨w8.heap.size, 0, none⟩ = some (.int .i64 tk') := heap_cell hn0 rfl
              have y1 : W9.cell? ⟨w8.heap.size, 1, none⟩ = some (.int .i64 tr') := heap_cell hn0 rfl
              have y2 : W9.cell? ⟨w8.heap.size, 2, none⟩ = some (.slice pa' pl' pc') := heap_cell hn0 rfl
              have y3 : W9.cell? ⟨w8.heap.size, 3, none⟩ = some (.slice ca' cl' cc') := heap_cell hn0 rfl
              have y4 : W9.cell? ⟨w8.heap.size, 4, none⟩ = some (.slice ea' el' ec') := heap_cell hn0 rfl
              clear hW9 hb89 hs9 hn0 hn1 h8 h4 h47 hb49 ho0 ho1 hA1 hA2 HB8 HW4 HB47 HCI CC2
              go_wp2_with (first
                | (go_at_call 13; (with_reducible refine Calls.mono CT ?_); rintro e' w10 ⟨rfl, hb10⟩; obtain ⟨⟨z0, z1, z2, z3, z4, z5⟩, CV⟩ := HCV.out w10 hb10; have HB10 : Hid (Below w.heap.size w w10) := HB9.out.trans (hb10.mono HB9.out.size); clear hb10)
                | (go_at_call 14; (with_reducible refine Calls.mono CV ?_); rintro e' w11 ⟨rfl, hb11⟩))
              refine bodyPost_ret (v := .bool true) (by simp [results, Try.results4, go_sem]) rfl ?_
              exact ⟨HB10.out.trans (hb11.mono HB10.out.size), rfl⟩
end Go.Proofs.Ytpdmkhnonbbhnaa
