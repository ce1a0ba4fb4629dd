/- The program's list: the bounds that a map says, made anew, in the order of their names. -/
import Derived.Test.YthcejnpknjepfaaGreatMlx
import Derived.Test.YthcejnpknjepfaaGreatIu
import Derived.Test.YthcejnpknjepfaaGreatFt
import Derived.Test.YthcejnpknjepfaaGreatPw
import Derived.Deep.AppendLies
import Derived.Sort.KeysCollected
namespace Go.Proofs.YthcejnpknjepfaaGreat
open Go.RowKit

theorem info53' : (Tryz.prog.info? 47).map (fun i => (i.zero, i.size, i.bytes)) = some (some (.agg #[.string ⟨#[]⟩, .int .i64 0, .string ⟨#[]⟩, .slice none 0 0]), 4, 64) := by kernel_rfl
/-- What stands at a name. -/
theorem Mv.get {w : World} {b m : Nat} {s : List UInt8 → Option Value} (h : Mv w b m s) (x : List UInt8) (hx : x.length < 140737488355328) (v : Value) (hv : s x = some v) :
    (Instr.lookup 71 (.map (some b)) (.string ⟨x.toArray⟩) false).run Tryz.prog w = .ok v w := by
  obtain ⟨D, hown, _, hs⟩ := h
  obtain ⟨u, ps, h1, h2⟩ := hown.lookup (zd := .held zeroT) (zp := []) lawN Tryz.underlying71 (Tryz.zeroValue25 w) rfl (keyN x hx)
  have hu : DataW.held u = D.atKey (.string x) (.held zeroT) := congrArg Prod.fst (Option.some.inj h2)
  rw [(hs x).2 v _ hv] at hu
  rw [h1, DataW.held.inj hu]
/-- The names of a map, sorted. -/
theorem Mv.keys {w : World} {b m : Nat} {s : List UInt8 → Option Value} (h : Mv w b m s) {ks : List (List UInt8)} (hn : ks.Nodup) (hk : ∀ k, k ∈ ks ↔ (s k).isSome = true) (hm : m ≤ 500) :
    Calls Tryz.prog 62 #[.func (.func 87) #[] #[.pointer (some ⟨w.heap.size, 0, none⟩)]] (w.alloc (.cells #[.map (some b)] 71)) fun e w' => ∃ v, e = .returned v ∧ w'.ownsRow (w.heap.size + 1) 9 1 v ks.length ((ks.mergeSort leB).map encStr) ∧ Below w.heap.size w w' := by
  obtain ⟨D, hown, hsz, hs⟩ := h
  have C2 := (callsIn_wide (n := 5)).1 (Tryz.slices_Sorted_keys_60 b m D _ w hown (by rw [hsz]; unfold maxLen; omega) (by rw [hsz]; omega))
  refine Calls.mono C2 ?_
  rintro e w' ⟨v, ss, rfl, hp, ho, _, hbel⟩
  have hperm : ks.Perm (strKeys D) := by
    obtain ⟨es, hD, hpw, _⟩ := hown.entries lawN
    obtain ⟨es', hD', hko⟩ := hown.keysOf
    obtain rfl : es = es' := by rw [hD] at hD'; simpa using hD'
    subst hD
    exact perm_strKeys hpw (fun p hp => by obtain ⟨v, hv⟩ := hko p hp; obtain ⟨x, _, hx, _⟩ := Maps.keyOf_str Tryz.underlying9 hv; exact ⟨x, hx⟩) hn (fun x => by rw [hk x, (hs x).1])
  have hpp : ss.Perm ks := hp.trans hperm.symm
  rw [show (ss.mergeSort fun x y => decide (x ≤ y)) = ks.mergeSort leB from mergeSort_of_perm hpp, hpp.length_eq] at ho
  exact ⟨v, rfl, by simpa using ho, ((Below.refl _ w).alloc (Nat.le_refl _) _).trans (hbel.mono (by simp))⟩
/-- Between the rounds of list. -/
structure LiS (w2 : World) (σ : Sb) (ns : List (List UInt8)) (j : Nat) (wr : World) (v : Value) (es : List Bl4) (bs : List Bd) (rss : List (List (Value × Nat))) : Prop where
  bel : Below w2.heap.size w2 wr
  row : RowB wr w2.heap.size v es bs rss
  names : bs.map (·.1) = ns.take j
  says : ∀ x ∈ bs, σ x.1 = some (flat x.2.1 x.2.2)
theorem LiS.step {w2 : World} {σ : Sb} {ns : List (List UInt8)} {j : Nat} {wr : World} {v v' : Value} {es : List Bl4} {bs : List Bd} {rss : List (List (Value × Nat))} (h : LiS w2 σ ns j wr v es bs rss) {w3 w4 : World} (hb3 : Below wr.heap.size wr w3) {d : Nat} {u : Tn d} {k : Int} {n : ByteArray} {ad : Option Addr} {len cap : Nat} {rws : List (Value × Nat)} (T : TyO w3 wr.heap.size d (.agg #[.int .i64 k, .string n, .slice ad len cap]) u rws) (S : SepB wr.heap.size w3.heap.size rws)
    (hj : j < ns.length) (hnl : ns[j].length < 140737488355328) (hσ : σ ns[j] = some (flat d u)) {o : Obj} (hown : w4.ownsRow w2.heap.size 47 4 v' (es.length + 1) (es.flatMap bCells ++ bCells (ns[j], k, n, .slice ad len cap))) (hg : (w3.alloc o).grownBy w4 v.ownBlock) (hv' : v'.ownBlock = v.ownBlock ∨ ∃ g, v'.ownBlock = some g ∧ w3.heap.size ≤ g) :
    LiS w2 σ ns (j + 1) w4 v' (es ++ [(ns[j], k, n, .slice ad len cap)]) (bs ++ [(ns[j], ⟨d, u⟩)]) (rss ++ [rws]) := by
  have hs3 := hb3.size
  have hs2 := h.bel.size
  have hvb : ∀ g, v.ownBlock = some g → w2.heap.size ≤ g ∧ g < wr.heap.size := fun g hg => h.row.own.lt g hg
  have hbl : ∀ g, g < w3.heap.size → some g ≠ v.ownBlock → w4.heap[g]? = w3.heap[g]? := fun g hg3 hne => by
    rw [hg.block g (by simp; omega) hne]
    exact Below.heap_alloc _ _ _ hg3
  have hs4 : w3.heap.size ≤ w4.heap.size := by have := hg.size; simp at this; omega
  have row3 : RowB w3 w2.heap.size v es bs rss := h.row.on hs3 fun g _ hg => hb3.block g hg
  have hA : SepB w2.heap.size wr.heap.size rss.flatten := h.row.sep
  refine ⟨⟨hg.os.trans (hb3.os.trans h.bel.os), hg.tape.trans (hb3.tape.trans h.bel.tape), hg.output.trans (hb3.output.trans h.bel.output), by omega, fun g hgl => ?_⟩, row3.snoc hs2 T ⟨rfl, hnl⟩ S hs3 hA (fun g hg => (hvb g hg).2) hown hs4 hbl hv', ?_, fun x hx => ?_⟩
  · rw [hbl g (by omega) (fun e => by have := (hvb g e.symm).1; omega), hb3.block g (by omega)]
    exact h.bel.block g hgl
  · rw [List.map_append, h.names, List.take_succ_eq_append_getElem hj]
    rfl
  · rcases List.mem_append.1 hx with hx | hx
    · exact h.says x hx
    · rw [List.mem_singleton.1 hx]
      exact hσ
theorem add_zero_addr' (g i : Nat) : (⟨g, 0, none⟩ : Addr).add i = ⟨g, i, none⟩ := by
  unfold Addr.add
  split
  · rename_i h0; rw [h0]
  · simp
theorem row_form4 {w : World} {lo : Nat} {v : Value} {es : List Bl4} {bs : List Bd} {rss : List (List (Value × Nat))} (h : RowB w lo v es bs rss) : ∃ va vc, v = .slice va es.length vc := by
  rcases id h.own.2 with ⟨hv, h0⟩ | ⟨g, cap, cur, hv, _⟩
  · exact ⟨none, 0, by rw [hv, h0]⟩
  · exact ⟨_, cap, hv⟩
/-- What list answers. -/
def ListPost (W : World) (σ : Sb) (r : Ending) (w' : World) : Prop :=
  Below W.heap.size W w' ∧ ∃ (v : Value) (es : List Bl4) (bs : List Bd) (rss : List (List (Value × Nat))) (ks : List (List UInt8)), r = .returned v ∧ RowB w' W.heap.size v es bs rss ∧ ks.Nodup ∧ ks.length ≤ 500 ∧ (∀ k, k ∈ ks ↔ (σ k).isSome = true) ∧ bs.map (·.1) = ks.mergeSort leB ∧ ∀ x ∈ bs, σ x.1 = some (flat x.2.1 x.2.2)
set_option maxHeartbeats 16000000 in
set_option maxRecDepth 10000 in
theorem list_any (b B : Nat) (L : List (List UInt8)) (hL : L.length ≤ 500) (hLn : ∀ n ∈ L, n.length < 140737488355328) (σ : Sb) (hσ : ∀ n r, σ n = some r → r.length ≤ 100000) (W : World) (hB : B ≤ W.heap.size) (hS : Sg W b B L σ) :
    Calls Tryz.prog 38 #[.map (some b)] W (ListPost W σ) := by
  have hlt := hS.lt
  obtain ⟨m, s, ks, h1, h2, h3, h4, h5, h6⟩ := hS
  have hm : m ≤ 500 := by have := nodup_le h2 h5; omega
  have hks : ∀ k, k ∈ ks ↔ (s k).isSome = true := fun k => by
    rw [h4 k]
    rcases h6 k with ⟨e1, e2⟩ | ⟨v, d, u, e1, e2, _⟩
    · rw [e1, e2]; exact ⟨fun h => (by cases h), fun h => (by cases h)⟩
    · rw [e1, e2]; exact ⟨fun _ => rfl, fun _ => rfl⟩
  have C1 := (callsIn_wide (n := 5)).1 (Tryz.maps_Keys_60 (some b) W)
  have C2 := h1.keys h2 hks hm
  obtain ⟨ns, hns⟩ : ∃ ns, ns = ks.mergeSort leB := ⟨_, rfl⟩
  have hnl : ns.length = ks.length := by rw [hns]; exact List.length_mergeSort _
  have hmem : ∀ n ∈ ns, n ∈ ks := fun n hn => by rw [hns] at hn; exact List.mem_mergeSort.1 hn
  rw [← hns] at C2
  have HN : Hid (∀ j (h : j < ns.length), ns[j].length < 140737488355328 ∧ ∃ (v : Value) (d : Nat) (u : Tn d), s ns[j] = some v ∧ σ ns[j] = some (flat d u) ∧ TyAt W B d v u ∧ (flat d u).length ≤ 100000) := fun j hj => by
    have hk := hmem _ (List.getElem_mem hj)
    refine ⟨hLn _ (h5 _ hk), ?_⟩
    rcases h6 ns[j] with ⟨e1, e2⟩ | ⟨v, d, u, e1, e2, e3⟩
    · have := (hks _).1 hk
      rw [e1] at this
      cases this
    · exact ⟨v, d, u, e1, e2, e3, hσ _ _ e2⟩
  have HM : Hid (Mv W b m s) := h1
  have HK : Hid (ks.Nodup ∧ ks.length ≤ 500 ∧ (∀ k, k ∈ ks ↔ (σ k).isSome = true) ∧ ns = ks.mergeSort leB) := ⟨h2, by omega, h4, hns⟩
  have C3 : Calls Tryz.prog 62 #[.func (.func 87) #[] #[.pointer (some ⟨W.heap.size, 0, none⟩)]] (W.alloc (.cells #[.map (some b)] 71)) fun e w' => ∃ (ad : Option Addr) (cap : Nat), e = .returned (.slice ad ns.length cap) ∧ Hid (w'.ownsRow (W.heap.size + 1) 9 1 (.slice ad ns.length cap) ns.length (ns.map encStr) ∧ Below W.heap.size W w') := by
    refine Calls.mono C2 ?_
    rintro e w' ⟨v, rfl, ho, hb⟩
    rw [← hnl] at ho
    rcases id ho.2 with ⟨hv, h0⟩ | ⟨g, cap, cur, hv, _⟩
    · exact ⟨none, 0, by rw [hv, h0], by rw [hv, h0] at ho; rw [h0]; exact ho, hb⟩
    · exact ⟨_, cap, by rw [hv], by rw [hv] at ho; exact ho, hb⟩
  have hn5 : ns.length ≤ 500 := by omega
  clear C2 h1 h2 h3 h4 h5 h6 hks hns hnl hmem hm hL hLn hσ
  obtain ⟨i0, hi, hz0, hz1, hz2⟩ := info_parts info53'
  go_enter Tryz.func38, Tryz.ntmps38
  go_upto_region 3 with (first
    | (go_at_call 63; (with_reducible refine Calls.mono C1 ?_); rintro e' w0 ⟨rfl, rfl⟩)
    | (go_at_call 62; (with_reducible refine Calls.mono C3 ?_); rintro e' w2 ⟨kad, kcap, rfl, HO⟩))
  clear C1 C3
  have H0 : Hid (LiS w2 σ ns 0 w2 (.slice none 0 0) [] [] []) := ⟨Below.refl _ _, RowB.nil _ _, rfl, fun x hx => (by cases hx)⟩
  go_loopw [3, 10] (fun lv i wr => ∃ (j : Nat) (es : List Bl4) (bs : List Bd) (rss : List (List (Value × Nat))) (va : Option Addr) (vc : Nat), j ≤ ns.length ∧ i = .int .i64 j ∧ lv = .slice va j vc ∧ Hid (LiS w2 σ ns j wr (.slice va j vc) es bs rss)) (fun _ i _ => ns.length - (intOf i).toNat)
  case atStart => exact ⟨0, _, _, _, none, 0, by omega, by go_num, rfl, H0.out⟩
  case round =>
    obtain ⟨j, es, bs, rss, va, vc, hj, rfl, rfl, HP⟩ := hrel
    by_cases hlt2 : j < ns.length
    · have hlt' : (j : Int) < (ns.length : Int) := by omega
      obtain ⟨hnl, v, d, u, hs, hsσ, hTv, hfl⟩ := HN.out j hlt2
      have hBW := HO.out.2.trans (HP.out.bel.mono HO.out.2.size)
      have hlk := (HM.out.below hBW).get ns[j] hnl v hs
      have CA := anew_any d v u wr B (Nat.le_trans hB hBW.size) (hTv.on (hBW.mono hB)) hfl
      obtain ⟨k1, n1, ad1, l1, cp1, rfl⟩ := tree_form hTv
      obtain ⟨kg, kc2, hkv, hkl, hkc, k0⟩ : ∃ kg kc, (Value.slice kad ns.length kcap) = .slice (some ⟨kg, 0, none⟩) ns.length kc ∧ kg < wr.heap.size ∧ j < kc ∧ wr.cell? ⟨kg, j, none⟩ = some (.string ⟨ns[j].toArray⟩) := by
        rcases id HO.out.1.2 with ⟨hv, h0⟩ | ⟨g, cp, cur, hv, hg, hh, hcap, _⟩
        · omega
        · have hgl := lt_of_heap hh
          have := HO.out.1.cells (g := g) (by rw [hv]; rfl) j (encStr ns[j]) (by rw [List.getElem?_map, List.getElem?_eq_getElem hlt2]; rfl)
          rw [add_zero_addr'] at this
          exact ⟨g, cp, hv, Nat.lt_of_lt_of_le hgl HP.out.bel.size, by omega, (HP.out.bel.cell (p := ⟨g, j, none⟩) hgl).trans this⟩
      obtain ⟨rfl, rfl⟩ : kad = some ⟨kg, 0, none⟩ ∧ kcap = kc2 := by simpa using hkv
      clear hkv
      have hel : es.length = j := by
        have h1 := HP.out.row.len
        have h2 := congrArg List.length HP.out.names
        rw [List.length_map, List.length_take] at h2
        omega
      have HOW : Hid (wr.ownsRow w2.heap.size 47 4 (.slice va j vc) j (es.flatMap bCells)) := by have := HP.out.row.own; rw [hel] at this; exact this
      have HSZ : Hid (w2.heap.size ≤ wr.heap.size) := HP.out.bel.size
      have HST := HP
      have HNL : Hid (ns[j].length < 140737488355328) := hnl
      have HSS : Hid (σ ns[j] = some (flat d u)) := hsσ
      have hj5 : j ≤ 500 := by omega
      clear HP H0 HN HM HO hBW hTv hs hfl hsσ hnl
      generalize hnj : ns[j] = nj at *
      have HNJ : Hid (ns[j] = nj) := hnj
      clear hnj
      go_wp2_with (first
        | (go_at_call 64; (with_reducible refine Calls.mono CA ?_); intro e' w3 hp; obtain ⟨hb3, k3, n3, ad3, l3, cp3, rws3, rfl, hT3, hS3⟩ := hp; have own3 : w3.ownsRow w2.heap.size 47 4 (.slice va j vc) j (es.flatMap bCells) := own_keep HOW.out (fun g hg => hb3.block g (HOW.out.lt g hg).2); have hU3 : wr.heap.size ≤ w3.heap.size := hb3.size; have hU4 : w2.heap.size ≤ w3.heap.size := Nat.le_trans HSZ.out hU3)
        | (at_builtin; refine wpList_append_lies _ rfl _ _ 36 rfl w2.heap.size 47 i0 _ 4 64 Tryz.underlying36 hi hz0 hz1 hz2 rfl (by decide) (.slice va j vc) j (es.flatMap bCells) rfl (own3.alloc _) ⟨w3.heap.size, 0, none⟩ 1 1 [.string ⟨nj.toArray⟩, .int .i64 k3, .string n3, .slice ad3 l3 cp3] rfl rfl (World.news_of_block (cs := #[.string ⟨nj.toArray⟩, .int .i64 k3, .string n3, .slice ad3 l3 cp3]) (t := 47) (fr := (0, 0)) (heap_alloc_new w3 _)) (by simp [Value.oneCell']) (by omega) (by unfold maxLen; omega) (by omega) (by simp; omega) (w3.heap.size + 1) (by simp) ?_; intro g cap3 w4 hown4 hgrow hat hlt4))
      have hnj := HNJ.out
      have hlz : j + 1 ≤ ns.length := by omega
      subst hnj
      have HL : LiS w2 σ ns (j + 1) w4 (.slice (some ⟨g, 0, none⟩) (j + 1) cap3) (es ++ [(ns[j], k3, n3, .slice ad3 l3 cp3)]) (bs ++ [(ns[j], ⟨d, u⟩)]) (rss ++ [rws3]) := HST.out.step hb3 hT3 hS3 hlt2 HNL.out HSS.out (by rw [hel]; exact hown4) hgrow (by
        rcases hat with hat | hat
        · exact .inl hat.symm
        · exact .inr ⟨g, rfl, by omega⟩)
      go_roundw
      case rel => exact ⟨j + 1, _, _, _, _, _, hlz, by go_num, rfl, HL⟩
      case measure => simp [intOf]; omega
    · have h1 : ¬ (j : Int) < (ns.length : Int) := by omega
      have HE : Hid (LiS w2 σ ns ns.length wr (.slice va j vc) es bs rss ∧ Below W.heap.size W w2) := by
        have e1 : j = ns.length := by omega
        refine ⟨?_, HO.out.2⟩
        have := HP.out
        rw [e1] at this ⊢
        exact this
      clear HP H0 HN HM HO
      go_wp2
      go_ret
      obtain ⟨hL, hb⟩ := HE.out
      refine ⟨hb.trans (hL.bel.mono hb.size), _, es, bs, rss, ks, rfl, ?_, HK.out.1, HK.out.2.1, HK.out.2.2.1, ?_, hL.says⟩
      · exact ⟨hL.row.own.mono hb.size, hL.row.len, hL.row.rlen, hL.row.name, fun j a b c => TyO.mono hb.size _ _ _ _ (hL.row.each j a b c), ⟨fun p hp => by obtain ⟨g, q1, q2, q3⟩ := hL.row.sep.1 p hp; exact ⟨g, q1, Nat.le_trans hb.size q2, q3⟩, hL.row.sep.2⟩, hL.row.away⟩
      · rw [hL.names, List.take_length, ← HK.out.2.2.2]
end Go.Proofs.YthcejnpknjepfaaGreat
