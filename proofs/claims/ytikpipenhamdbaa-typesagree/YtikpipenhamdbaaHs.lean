/- The graph: the contract of bounds, over the contract of the sorted names. -/
import Derived.Test.YtikpipenhamdbaaHo
import Derived.Sort.KeysCollected
namespace Go.Proofs.Ytikpipenhamdbaa
open Go.RowKit Go.Maps

/-- What bounds answers. -/
def BoundsP (lo G b : Nat) (xs : List Gx) (L : List (List UInt8 × List Nd)) (w : World) (e : Ending) (w' : World) : Prop :=
  ∃ (v : Value) (es : List Bl4) (bs : List Bd) (rss : List (List (Value × Nat))) (ns : List (List UInt8)), e = .returned v ∧ RowB w' w.heap.size v es bs rss ∧ ns.Nodup ∧ ns.Pairwise (fun a b => a ≤ b) ∧ (∀ n, n ∈ ns ↔ ∃ i, i < xs.length ∧ lbX xs i = (2, n)) ∧ bs.map (·.1) = ns.filter (pL L) ∧ (∀ x ∈ bs, flat x.2.1 x.2.2 = subL L [(2, x.1, 0)]) ∧ Gk lo G b w w' ∧ ns.length ≤ 200000000
theorem Try.info48b : (Try.prog.info? 46).map (fun i => (i.zero, i.size, i.bytes)) = some (some (.agg #[.string ⟨#[]⟩, .int .i64 0, .string ⟨#[]⟩, .slice none 0 0]), 4, 64) := by kernel_rfl
theorem add_zero_at (g i : Nat) : (⟨g, 0, none⟩ : Addr).add i = ⟨g, i, none⟩ := by
  unfold Addr.add
  split
  · rename_i h0; rw [h0]
  · simp
theorem row_len4 {w : World} {lo : Nat} {v : Value} {es : List Bl4} {bs : List Bd} {rss : List (List (Value × Nat))} (h : RowB w lo v es bs rss) : ∃ va vc, v = .slice va es.length vc := by
  rcases h.own.2 with ⟨h0, h1⟩ | ⟨g, cap, _, h1, _⟩
  · exact ⟨none, 0, by rw [h0, h1]⟩
  · exact ⟨_, cap, h1⟩
theorem sorted_le (ss : List (List UInt8)) : (ss.mergeSort (fun x y => decide (x ≤ y))).Pairwise (fun a b => a ≤ b) := by
  have h2 : (ss.mergeSort (fun x y => decide (x ≤ y))).Pairwise (fun a b => decide (a ≤ b) = true) := List.pairwise_mergeSort (fun a b c h k => by
    simp at h k ⊢
    exact List.le_trans h k) (fun a b => by
    simp
    exact List.le_total a b) ss
  exact h2.imp fun h => of_decide_eq_true h
set_option maxHeartbeats 16000000 in
set_option maxRecDepth 10000 in
theorem bounds_of {lo G b wk : Nat} {xs : List Gx} {D : DataW Unit} {dn : Nat → List Nd} {rt rk : Nat → Nat} {L : List (List UInt8 × List Nd)} (hM : Mn wk xs D dn rt rk L) (hO : Okl L) (h5 : ¬ Over xs dn) (w : World) (h : GX w lo G b (fun _ => False) xs D wk)
    (C1 : Calls Try.prog 35 #[.map (some b)] w fun e w' => e = .returned (.func (.func 50) #[] #[.pointer (some ⟨w.heap.size, 0, none⟩)]) ∧ w' = w.alloc (.cells #[.map (some b)] 48))
    (C2 : Calls Try.prog 34 #[.func (.func 50) #[] #[.pointer (some ⟨w.heap.size, 0, none⟩)]] (w.alloc (.cells #[.map (some b)] 48)) fun e w' => ∃ (v : Value) (ss : List (List UInt8)), e = .returned v ∧ ss.Perm (strKeys D) ∧ w'.ownsRow (w.alloc (.cells #[.map (some b)] 48)).heap.size 9 1 v ss.length ((ss.mergeSort (fun x y => decide (x ≤ y))).map encStr) ∧ (v = .slice none 0 0 ↔ ss = []) ∧ Below (w.alloc (.cells #[.map (some b)] 48)).heap.size (w.alloc (.cells #[.map (some b)] 48)) w') :
    Calls Try.prog 20 #[.pointer (some ⟨G, 0, none⟩)] w (BoundsP lo G b xs L w) := by
  have hl := h.num
  have c1 := h.c1
  have hperm : (vnames xs).Perm (strKeys D) := by
    have hown : w.ownsMap Try.prog 9 (plainElem Try.prog 3) b (Maps.size D) D := by
      obtain ⟨v, ns, _, hG, _⟩ := h
      exact hG.map
    obtain ⟨es, hD, hpw, _⟩ := hown.entries law9
    obtain ⟨es', hD', hko⟩ := hown.keysOf
    obtain rfl : es = es' := by rw [hD] at hD'; simpa using hD'
    have hhas := hM.vm.has
    rw [hD] at hhas ⊢
    exact perm_strKeys hpw (fun p hp => by obtain ⟨v, hv⟩ := hko p hp; obtain ⟨x, _, hx, _⟩ := Maps.keyOf_str Try.underlying9 hv; exact ⟨x, hx⟩) (vnames_nodup hM.den) (fun x => by rw [mem_vnames, hhas])
  have hvl : (vnames xs).length ≤ xs.length := by
    unfold vnames
    rw [List.length_map]
    have := List.length_filter_le (fun i => decide ((lbX xs i).1 = 2)) (List.range xs.length)
    rw [List.length_range] at this
    exact this
  have C3 : Calls Try.prog 34 #[.func (.func 50) #[] #[.pointer (some ⟨w.heap.size, 0, none⟩)]] (w.alloc (.cells #[.map (some b)] 48)) fun e w' => ∃ (ns : List (List UInt8)) (kad : Option Addr) (kcap : Nat), e = .returned (.slice kad ns.length kcap) ∧ ns.length ≤ 200000000 ∧ Hid (BoW w lo G b wk xs D dn rt rk L ns (.slice kad ns.length kcap) 0 w' (.slice none 0 0) [] [] [] ∧ ns.Nodup ∧ ns.Pairwise (fun a b => a ≤ b) ∧ ∀ n, n ∈ ns ↔ ∃ i, i < xs.length ∧ lbX xs i = (2, n)) := by
    refine Calls.mono C2 ?_
    rintro e w' ⟨v, ss, rfl, hp, ho, _, hbel⟩
    have hs0 : (w.alloc (Obj.cells #[.map (some b)] 48)).heap.size = w.heap.size + 1 := by simp
    have hb0 := (Below.refl w.heap.size w).alloc (Nat.le_refl _) (Obj.cells #[.map (some b)] 48)
    have hb : Below w.heap.size w w' := hb0.trans (hbel.mono (by omega))
    have hpn : (ss.mergeSort (fun x y => decide (x ≤ y))).Perm (vnames xs) := (List.mergeSort_perm ss _).trans (hp.trans hperm.symm)
    have hle := sorted_le ss
    have hlen : (ss.mergeSort (fun x y => decide (x ≤ y))).length = ss.length := List.length_mergeSort _
    rw [hs0, ← hlen] at ho
    generalize ss.mergeSort (fun x y => decide (x ≤ y)) = ns at *
    have hnl : ns.length ≤ 200000000 := by rw [hpn.length_eq]; omega
    have hK : Hid (∀ kv, v = kv → BoW w lo G b wk xs D dn rt rk L ns kv 0 w' (.slice none 0 0) [] [] [] ∧ ns.Nodup ∧ ns.Pairwise (fun a b => a ≤ b) ∧ ∀ n, n ∈ ns ↔ ∃ i, i < xs.length ∧ lbX xs i = (2, n)) := fun kv e => by
      subst e
      exact ⟨⟨⟨xs, Eqg.refl xs, hM.den, h.below hb⟩, Gk.of_below hb hl.2.1, ho, RowB.nil _ _, by simp, fun x hx => by simp at hx, hl.2⟩, hpn.nodup_iff.2 (vnames_nodup hM.den), hle, fun n => by rw [hpn.mem_iff, mem_vnames]⟩
    rcases id ho.2 with ⟨hv, h0⟩ | ⟨g, cap, cur, hv, _⟩
    · exact ⟨ns, none, 0, by rw [hv, h0], hnl, hK.out _ (by rw [hv, h0])⟩
    · exact ⟨ns, _, cap, by rw [hv], hnl, hK.out _ hv⟩
  have HM : Hid (Mn wk xs D dn rt rk L ∧ Okl L ∧ ¬ Over xs dn) := ⟨hM, hO, h5⟩
  clear C2 hM hO h5 hperm h hvl
  obtain ⟨i0, hi, hz0, hz1, hz2⟩ := info_parts Try.info48b
  go_enter Try.func20, Try.ntmps20
  go_upto_region 3 with (first
    | (go_at_call 35; (with_reducible refine Calls.mono C1 ?_); rintro e' w0 ⟨rfl, rfl⟩)
    | (go_at_call 34; (with_reducible refine Calls.mono C3 ?_); rintro e' w1 ⟨ns, kad, kcap, rfl, hnl, HO⟩))
  clear C1 C3 c1
  go_loopw [3, 14] (fun lv iv wr => ∃ (j m : Nat) (va : Option Addr) (vc : Nat) (es : List Bl4) (bs : List Bd) (rss : List (List (Value × Nat))), j ≤ ns.length ∧ iv = .int .i64 j ∧ lv = .slice va m vc ∧ m ≤ j ∧ Hid (es.length = m ∧ BoW w lo G b wk xs D dn rt rk L ns (.slice kad ns.length kcap) j wr (.slice va m vc) es bs rss)) (fun _ iv _ => ns.length - (intOf iv).toNat)
  case atStart => exact ⟨0, 0, none, 0, [], [], [], by omega, by go_num, rfl, Nat.le_refl _, rfl, HO.out.1⟩
  case round =>
    obtain ⟨j, m, va, vc, es, bs, rss, hj, rfl, rfl, hmj, HP⟩ := hrel
    by_cases hlt : j < ns.length
    · have hlt' : (j : Int) < (ns.length : Int) := by omega
      obtain ⟨hel, T⟩ := HP.out
      obtain ⟨hM, hO, h5⟩ := HM.out
      obtain ⟨i, hil, hie⟩ := (HO.out.2.2.2 ns[j]).1 (List.getElem_mem hlt)
      obtain ⟨hlead, hdn⟩ := hM.leads hil hie
      have hvn : varB ns[j] = true := by
        have := hM.vm.nn i hil (by rw [hie])
        rw [hie] at this
        exact this
      have hnj : ns[j].length < 140737488355328 := by have := var_len hvn; omega
      have hok : Okr (dn i) := by
        rw [hdn]
        exact hO.subL _ (Okr.cons.2 ⟨ok_two hvn, Okr.nil⟩)
      have h500 : (dn i).length ≤ 500 := by
        rcases Nat.lt_or_ge 500 (dn i).length with q | q
        · exact absurd ⟨i, hil, by rw [hie], q⟩ h5
        · exact q
      have hxl : xs.length ≤ 200000000 := hl.1
      have hrl := Den.rt_lt hM.den hil
      obtain ⟨kg, hkad, k0⟩ : ∃ kg, kad = some ⟨kg, 0, none⟩ ∧ wr.cell? ⟨kg, j, none⟩ = some (.string ⟨ns[j].toArray⟩) := by
        rcases id T.key.2 with ⟨hv, h0⟩ | ⟨g, cp, cur, hv, hg, hh, hcap, _⟩
        · omega
        · have := T.key.cells (g := g) (by rw [hv]; rfl) j (encStr ns[j]) (by rw [List.getElem?_map, List.getElem?_eq_getElem hlt]; rfl)
          rw [add_zero_at] at this
          simp only [Value.slice.injEq] at hv
          exact ⟨g, hv.1, this⟩
      subst hkad
      have c1 : wr.cell? ⟨G, 1, none⟩ = some (.map (some b)) := by
        obtain ⟨ys, _, _, y3⟩ := T.gr
        exact y3.c1
      have hrun : (Instr.lookup 48 (.map (some b)) (.string ⟨ns[j].toArray⟩) false).run Try.prog wr = .ok (.int .i64 i) wr := by
        obtain ⟨ys, _, _, v, nn, _, hG, _⟩ := T.gr
        obtain ⟨c, hr, hat, _⟩ := hG.map.lookup_int law9 Try.underlying48 Try.underlying3 (Try.zeroValue3 _) (key9 ns[j] hnj)
        have hg := hM.vm.get i hil (by rw [hie])
        rw [hie, hat] at hg
        cases hg
        exact hr
      have CE : Calls Try.prog 29 #[.pointer (some ⟨G, 0, none⟩), .int .i64 i] wr fun e w' => e = .returned (.int .i64 (rt i : Nat)) ∧ Hid (BoW w lo G b wk xs D dn rt rk L ns (.slice (some ⟨kg, 0, none⟩) ns.length kcap) j w' (.slice va m vc) es bs rss) := by
        obtain ⟨ys, y1, y2, y3⟩ := T.gr
        refine Calls.mono (end_any y3 y2 i (by rw [y1.len]; exact hil)) ?_
        rintro e w' ⟨rfl, E⟩
        obtain ⟨zs, z1, z2, z3⟩ := E.ex
        exact ⟨rfl, T.move E.gk ⟨zs, y1.trans z1, z2, z3⟩⟩
      have CT : ∀ W, Hid (BoW w lo G b wk xs D dn rt rk L ns (.slice (some ⟨kg, 0, none⟩) ns.length kcap) j W (.slice va m vc) es bs rss) → Calls Try.prog 36 #[.pointer (some ⟨G, 0, none⟩), .int .i64 i] W (TypeP lo G b wk (fun _ => False) xs D dn rt rk 500 i W) := fun W hB => by
        obtain ⟨ys, y1, y2, y3⟩ := hB.out.gr
        refine Calls.mono (type_any 500 ys W i y3 y2 (by rw [y1.len]; exact hil) h500 hok) ?_
        rintro e w' ⟨k, n, ad, len, cap, t, rws, h1, h2, h3, h4, h5, zs, z1, z2, z3⟩
        exact ⟨k, n, ad, len, cap, t, rws, h1, h2, h3, h4, h5, zs, y1.trans z1, z2, z3⟩
      have i1 : (0 : Int) ≤ (j : Int) := by omega
      have HLT : Hid (j < ns.length) := hlt
      by_cases hrt : rt i = i
      · rw [hrt] at CE
        have HSK : Hid (∀ W, BoW w lo G b wk xs D dn rt rk L ns (.slice (some ⟨kg, 0, none⟩) ns.length kcap) j W (.slice va m vc) es bs rss → BoW w lo G b wk xs D dn rt rk L ns (.slice (some ⟨kg, 0, none⟩) ns.length kcap) (j + 1) W (.slice va m vc) es bs rss) := fun W hB => hB.skip hlt (hlead.1 hrt)
        have HEL : Hid (es.length = m) := hel
        clear HP T hM hO h5 hie hlead hdn hvn hok CT hrt hel
        generalize ns[j] = nj at *
        go_wp2_with (go_at_call 29; (with_reducible refine Calls.mono CE ?_); rintro e' w5 ⟨rfl, H5⟩)
        go_roundw
        case rel => exact ⟨j + 1, m, va, vc, es, bs, rss, HLT.out, by go_num, rfl, by omega, HEL.out, HSK.out _ H5.out⟩
        case measure => have := HLT.out; simp [intOf]; omega
      · have hpl : pL L ns[j] = true := by
          cases hp : pL L ns[j] with
          | true => rfl
          | false => exact absurd (hlead.2 hp) hrt
        have hne : ¬ ((rt i : Nat) : Int) = (i : Int) := by omega
        have hneb : (((rt i : Nat) : Int) == (i : Int)) = false := by simpa using hne
        have HPU : Hid (pL L ns[j] = true ∧ ns[j].length < 140737488355328 ∧ dn i = subL L [(2, ns[j], 0)] ∧ es.length = m) := ⟨hpl, hnj, hdn, hel⟩
        have HKP : Hid (∀ W w6, BoW w lo G b wk xs D dn rt rk L ns (.slice (some ⟨kg, 0, none⟩) ns.length kcap) j W (.slice va m vc) es bs rss → Gk lo G b W w6 → Gr w6 lo G b wk (fun _ => False) xs D dn rt rk → w6.ownsRow w.heap.size 46 4 (.slice va m vc) m (es.flatMap bCells) ∧ w.heap.size ≤ w6.heap.size) := fun W w6 hB hk hg => by
          have h6 := hB.move hk hg
          have hr6 := h6.row.own
          rw [hel] at hr6
          exact ⟨hr6, h6.gk.size⟩
        clear HP T hM hO h5 hie hlead hdn hvn hok hrt hpl hnj hel
        generalize hnj : ns[j] = nj at *
        have HNJ : Hid (ns[j] = nj) := hnj
        clear hnj
        go_wp2_with (first
          | (go_at_call 29; (with_reducible refine Calls.mono CE ?_); rintro e' w5 ⟨rfl, H5⟩)
          | (go_at_call 36; (with_reducible refine Calls.mono (CT _ H5) ?_); intro e' w6 hp; obtain ⟨k3, n3, ad3, l3, cp3, t3, rws3, rfl, hT3, hS3, hfl3, hk3, hgr3⟩ := hp; obtain ⟨own3, hU4⟩ := HKP.out _ _ H5.out hk3 hgr3)
          | (at_builtin; refine wpList_append_lies _ rfl _ _ 25 rfl w.heap.size 46 i0 _ 4 64 Try.underlying25 hi hz0 hz1 hz2 rfl (by decide) (.slice va m vc) m (es.flatMap bCells) rfl (own3.alloc _) ⟨w6.heap.size, 0, none⟩ 1 1 [.string ⟨nj.toArray⟩, .int .i64 k3, .string n3, .slice ad3 l3 cp3] rfl rfl (World.news_of_block (cs := #[.string ⟨nj.toArray⟩, .int .i64 k3, .string n3, .slice ad3 l3 cp3]) (t := 46) (fr := (0, 0)) (heap_alloc_new w6 _)) (by simp [Value.oneCell']) (by omega) (by unfold maxLen; omega) (by omega) (by simp; omega) (w6.heap.size + 1) (by simp) ?_; intro g cap3 w7 hown4 hgrow hat hlt4))
        have hnj := HNJ.out
        subst hnj
        obtain ⟨u1, u2, u3, u4⟩ := HPU.out
        have HL := H5.out.push u4 HLT.out u1 u2 (Sm.refl _) hk3 hgr3 hT3 hS3 (by rw [hfl3]; exact u3) hown4 hgrow hat
        go_roundw
        case rel => exact ⟨j + 1, m + 1, _, _, _, _, _, HLT.out, by go_num, rfl, by omega, by simp [u4], HL⟩
        case measure => have := HLT.out; simp [intOf]; omega
    · have h1 : ¬ (j : Int) < (ns.length : Int) := by omega
      have HE : Hid (BoW w lo G b wk xs D dn rt rk L ns (.slice kad ns.length kcap) ns.length wr (.slice va m vc) es bs rss) := by
        have e1 : j = ns.length := by omega
        have := HP.out.2
        rw [e1] at this
        exact this
      clear HP
      go_wp2
      go_ret
      obtain ⟨b1, b2, b3, b4, b5, b6, b7⟩ := HE.out
      obtain ⟨-, o2, o3, o4⟩ := HO.out
      exact ⟨_, es, bs, rss, ns, rfl, b4, o2, o3, o4, by rw [b5, List.take_length], b6, b2, hnl⟩
end Go.Proofs.Ytikpipenhamdbaa
