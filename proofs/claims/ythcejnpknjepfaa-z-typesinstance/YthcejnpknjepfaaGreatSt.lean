/- The reference's Sorted: its contract. -/
import Derived.Test.YthcejnpknjepfaaGreatMlx
import Derived.Test.YthcejnpknjepfaaGreatFt
import Derived.Deep.AppendLies
import Derived.Sort.KeysCollected
import Derived.Sort.Walk0
namespace Go.Proofs.YthcejnpknjepfaaGreat
open Go.RowKit

abbrev nmB (p : Be) : List UInt8 := p.1.1
/-- An owned row of bounds, cell by cell. -/
abbrev Oc (w : World) (lo : Nat) (v : Value) (ps : List Be) : Prop := w.ownsRow lo 47 4 v ps.length (ps.flatMap obC)
theorem Oc.cells {w : World} {lo : Nat} {v : Value} {ps : List Be} (h : Oc w lo v ps) (h0 : 0 < ps.length) : ∃ g cap, v = .slice (some ⟨g, 0, none⟩) ps.length cap ∧ lo ≤ g ∧ g < w.heap.size ∧ ps.length ≤ cap ∧ ∀ j (hj : j < ps.length), w.cell? ⟨g, j * 4, none⟩ = some (.string ⟨(nmB ps[j]).toArray⟩) ∧ w.cell? ⟨g, j * 4 + 1, none⟩ = some (.int .i64 ps[j].2.1) ∧ w.cell? ⟨g, j * 4 + 2, none⟩ = some (.string ps[j].2.2.1) ∧ w.cell? ⟨g, j * 4 + 3, none⟩ = some ps[j].2.2.2 := by
  rcases id h.2 with ⟨_, h1⟩ | ⟨g, cap, cur, hv, hb, hh, hcap, _⟩
  · omega
  · refine ⟨g, cap, hv, hb, lt_of_heap hh, hcap, fun j hj => ?_⟩
    have hc : ∀ i, i < 4 → ∀ u, (obC ps[j])[i]? = some u → w.cell? ⟨g, j * 4 + i, none⟩ = some u := fun i hi u hu => by
      have := World.ownsRow.cells h (g := g) (by rw [hv]; rfl) (j * 4 + i) u (by rw [obC_get ps j i hj hi]; exact hu)
      rw [add_zero_addr] at this
      exact this
    exact ⟨hc 0 (by omega) _ rfl, hc 1 (by omega) _ rfl, hc 2 (by omega) _ rfl, hc 3 (by omega) _ rfl⟩
theorem Oc.find {w : World} {lo : Nat} {v : Value} {ps : List Be} (x : List UInt8) (h : Oc w lo v ps) (hl : ps.length ≤ 1000) : Calls Tryz.prog 58 #[v, strV x] w fun r w' => r = .returned (.int .i64 (findI (ps.map nmB) x)) ∧ w' = w := by
  by_cases h0 : 0 < ps.length
  · obtain ⟨g, cap, rfl, _, _, _, hc⟩ := Oc.cells h h0
    have := find_some (ps.map nmB) x g 0 cap w (by simp; omega) fun j hj => by
      rw [Nat.zero_add, List.getElem_map]
      exact (hc j (by simpa using hj)).1
    rw [List.length_map] at this
    exact this
  · have e : ps = [] := List.length_eq_zero_iff.1 (by omega)
    subst e
    obtain ⟨ad, cap, rfl⟩ : ∃ ad cap, v = .slice ad 0 cap := by
      rcases h.2 with ⟨h1, _⟩ | ⟨g, cap, cur, h1, _⟩
      · exact ⟨none, 0, h1⟩
      · exact ⟨_, cap, h1⟩
    exact find_none x ad cap w
theorem find_in {ns : List (List UInt8)} {x : List UInt8} (h : x ∈ ns) : 0 ≤ findI ns x := by
  have hi : idxN ns x < ns.length := by
    induction ns with
    | nil => cases h
    | cons a r ih =>
      rw [idxN]
      by_cases e : a = x
      · rw [if_pos e]; simp
      · rw [if_neg e]
        have := ih ((List.mem_cons.1 h).resolve_left fun q => e q.symm)
        simpa using this
  unfold findI
  rw [if_pos hi]
  omega
theorem find_out {ns : List (List UInt8)} {x : List UInt8} (h : x ∉ ns) : findI ns x = -1 := by
  have hi : idxN ns x = ns.length := idxOf_no fun i hi e => h (e ▸ List.getElem_mem hi)
  unfold findI
  rw [hi, if_neg (by omega)]
/-- What has been taken: in order, and not greater than what is left. -/
structure StO (ps qs : List Be) : Prop where
  sub : ∀ q ∈ qs, q ∈ ps
  nd : (qs.map nmB).Nodup
  up : (qs.map nmB).Pairwise fun a b => leB a b = true
  low : ∀ p ∈ ps, nmB p ∉ qs.map nmB → ∀ q ∈ qs, leB (nmB q) (nmB p) = true
theorem StO.nil (ps : List Be) : StO ps [] := ⟨fun q h => (by cases h), List.nodup_nil, List.Pairwise.nil, fun p _ _ q h => (by cases h)⟩
theorem StO.snoc {ps qs : List Be} (h : StO ps qs) {b : Be} (hb : b ∈ ps) (hn : nmB b ∉ qs.map nmB) (hl : ∀ p ∈ ps, nmB p ∉ qs.map nmB → leB (nmB b) (nmB p) = true) : StO ps (qs ++ [b]) := by
  refine ⟨fun q hq => ?_, ?_, ?_, fun p hp hpn q hq => ?_⟩
  · rcases List.mem_append.1 hq with hq | hq
    · exact h.sub q hq
    · rw [List.mem_singleton.1 hq]; exact hb
  · rw [List.map_append, List.nodup_append]
    refine ⟨h.nd, by simp, fun a ha c hc => ?_⟩
    have : c = nmB b := by simpa using hc
    rw [this]
    exact fun e => hn (e ▸ ha)
  · rw [List.map_append, List.pairwise_append]
    refine ⟨h.up, by simp, fun a ha c hc => ?_⟩
    have : c = nmB b := by simpa using hc
    rw [this]
    obtain ⟨q, hq, rfl⟩ := List.mem_map.1 ha
    exact h.low b hb hn q hq
  · have hpn' : nmB p ∉ qs.map nmB := fun q => hpn (by rw [List.map_append]; exact List.mem_append.2 (.inl q))
    rcases List.mem_append.1 hq with hq | hq
    · exact h.low p hp hpn' q hq
    · rw [List.mem_singleton.1 hq]; exact hl p hp hpn'
/-- What is best among the first i. -/
def StB (ps qs : List Be) (i : Nat) (best : Int) : Prop :=
  (best = -1 ∧ ∀ j (h : j < ps.length), j < i → nmB ps[j] ∈ qs.map nmB) ∨
  ∃ (b : Nat) (hb : b < ps.length), best = b ∧ b < i ∧ nmB ps[b] ∉ qs.map nmB ∧ ∀ j (h : j < ps.length), j < i → nmB ps[j] ∉ qs.map nmB → leB (nmB ps[b]) (nmB ps[j]) = true
theorem StB.start (ps qs : List Be) : StB ps qs 0 (-1) := .inl ⟨rfl, fun j _ h => by omega⟩
theorem StO.full {ps qs : List Be} (h : StO ps qs) (hn : (ps.map nmB).Nodup) (hl : qs.length = ps.length) : qs.Perm ps := by
  have inj : ∀ a ∈ ps, ∀ b ∈ ps, nmB a = nmB b → a = b := fun a ha b hb e => by
    obtain ⟨i, hi, rfl⟩ := List.getElem_of_mem ha
    obtain ⟨j, hj, rfl⟩ := List.getElem_of_mem hb
    have : i = j := by
      have hi' : i < (ps.map nmB).length := by simpa using hi
      have hj' : j < (ps.map nmB).length := by simpa using hj
      have e' : (ps.map nmB)[i] = (ps.map nmB)[j] := by rw [List.getElem_map, List.getElem_map]; exact e
      rcases Nat.lt_trichotomy i j with h | h | h
      · exact absurd e' (List.pairwise_iff_getElem.1 hn i j hi' hj' h)
      · exact h
      · exact absurd e'.symm (List.pairwise_iff_getElem.1 hn j i hj' hi' h)
    subst this
    rfl
  have nd : ∀ {l : List Be}, (l.map nmB).Nodup → l.Nodup := fun {l} h => List.Pairwise.of_map nmB (fun a b hne e => hne (by rw [e])) h
  refine (List.perm_ext_iff_of_nodup (nd h.nd) (nd hn)).2 fun x => ⟨h.sub x, fun hx => ?_⟩
  by_cases hm : nmB x ∈ qs.map nmB
  · obtain ⟨q, hq, e⟩ := List.mem_map.1 hm
    rw [← inj q (h.sub q hq) x hx e]
    exact hq
  · exfalso
    have h1 : (nmB x :: qs.map nmB).Nodup := List.nodup_cons.2 ⟨hm, h.nd⟩
    have h2 := nodup_le h1 (L := ps.map nmB) fun k hk => by
      rcases List.mem_cons.1 hk with rfl | hk
      · exact List.mem_map.2 ⟨x, hx, rfl⟩
      · obtain ⟨q, hq, rfl⟩ := List.mem_map.1 hk
        exact List.mem_map.2 ⟨q, h.sub q hq, rfl⟩
    simp at h2
    omega
theorem StB.some {ps qs : List Be} (h : StO ps qs) (hn : (ps.map nmB).Nodup) (hl : qs.length < ps.length) {best : Int} (hb : StB ps qs ps.length best) : ∃ (b : Nat) (hb : b < ps.length), best = b ∧ StO ps (qs ++ [ps[b]]) := by
  rcases hb with ⟨_, h1⟩ | ⟨b, hb, e, _, h2, h3⟩
  · exfalso
    have := nodup_le hn (L := qs.map nmB) fun k hk => by
      obtain ⟨p, hp, rfl⟩ := List.mem_map.1 hk
      obtain ⟨j, hj, rfl⟩ := List.getElem_of_mem hp
      exact h1 j hj hj
    simp at this
    omega
  · refine ⟨b, hb, e, h.snoc (List.getElem_mem hb) h2 fun p hp hpn => ?_⟩
    obtain ⟨j, hj, rfl⟩ := List.getElem_of_mem hp
    exact h3 j hj hj hpn
theorem le_tr {a b c : List UInt8} (h : leB a b = true) (k : leB b c = true) : leB a c = true := by
  simp only [leB, decide_eq_true_eq] at *
  exact List.le_trans h k
theorem le_rf (a : List UInt8) : leB a a = true := by
  simp only [leB, decide_eq_true_eq]
  exact List.le_refl a
theorem less_le {a b : List UInt8} (h : Op.bytesLess a b = true) : leB a b = true := by
  rw [Go.Proofs.bytesLess_eq, decide_eq_true_eq] at h
  simp only [leB, decide_eq_true_eq]
  exact List.le_of_lt h
theorem not_less_le {a b : List UInt8} (h : Op.bytesLess a b = false) : leB b a = true := by
  rw [Go.Proofs.bytesLess_eq, decide_eq_false_iff_not] at h
  simp only [leB, decide_eq_true_eq]
  exact List.not_lt.1 h
theorem StB.inn {ps qs : List Be} {i : Nat} {best : Int} (h : StB ps qs i best) (hi : i < ps.length) (hin : nmB ps[i] ∈ qs.map nmB) : StB ps qs (i + 1) best := by
  rcases h with ⟨e, h⟩ | ⟨b, hb, e, h1, h2, h3⟩
  · refine .inl ⟨e, fun j hj hji => ?_⟩
    by_cases q : j = i
    · subst q; exact hin
    · exact h j hj (by omega)
  · refine .inr ⟨b, hb, e, by omega, h2, fun j hj hji hn => ?_⟩
    by_cases q : j = i
    · subst q; exact absurd hin hn
    · exact h3 j hj (by omega) hn
theorem StB.take {ps qs : List Be} {i : Nat} {best : Int} (h : StB ps qs i best) (hi : i < ps.length) (hin : nmB ps[i] ∉ qs.map nmB) (hl : ∀ b (hb : b < ps.length), best = b → leB (nmB ps[i]) (nmB ps[b]) = true) : StB ps qs (i + 1) i := by
  refine .inr ⟨i, hi, rfl, by omega, hin, fun j hj hji hn => ?_⟩
  by_cases q : j = i
  · subst q; exact le_rf _
  · rcases h with ⟨_, h⟩ | ⟨b, hb, e, h1, h2, h3⟩
    · exact absurd (h j hj (by omega)) hn
    · exact le_tr (hl b hb e) (h3 j hj (by omega) hn)
theorem StB.keep {ps qs : List Be} {i b : Nat} (h : StB ps qs i (b : Int)) (hi : i < ps.length) (hb : b < ps.length) (hl : leB (nmB ps[b]) (nmB ps[i]) = true) : StB ps qs (i + 1) (b : Int) := by
  rcases h with ⟨e, _⟩ | ⟨b', hb', e, h1, h2, h3⟩
  · omega
  · have : b = b' := by omega
    subst this
    refine .inr ⟨b, hb, rfl, by omega, h2, fun j hj hji hn => ?_⟩
    by_cases q : j = i
    · subst q; exact hl
    · exact h3 j hj (by omega) hn
theorem StB.cases {ps qs : List Be} {i : Nat} {best : Int} (h : StB ps qs i best) : best = -1 ∨ ∃ b : Nat, best = b ∧ b < ps.length := by
  rcases h with ⟨e, _⟩ | ⟨b, hb, e, _⟩
  · exact .inl e
  · exact .inr ⟨b, e, hb⟩
set_option maxHeartbeats 16000000 in
set_option maxRecDepth 10000 in
theorem sorted_any (lo : Nat) (v : Value) (ps : List Be) (w : World) (h : Oc w lo v ps) (hl : ps.length ≤ 500) (hnd : (ps.map nmB).Nodup) (hsl : ∀ p ∈ ps, ∃ ad len cap, p.2.2.2 = .slice ad len cap) :
    Calls Tryz.prog 36 #[v] w fun r w' => Below w.heap.size w w' ∧ ∃ (v' : Value) (qs : List Be), r = .returned v' ∧ Oc w' w.heap.size v' qs ∧ qs.Perm ps ∧ (qs.map nmB).Pairwise fun a b => leB a b = true := by
  obtain ⟨ad, cap, hv⟩ : ∃ ad cap, v = .slice ad ps.length cap := by
    rcases id h.2 with ⟨h1, h2⟩ | ⟨g, cap, cur, h1, _⟩
    · exact ⟨none, 0, by rw [h1, h2]⟩
    · exact ⟨_, cap, h1⟩
  subst hv
  have HC : Hid (0 < ps.length → ∃ g, ad = some ⟨g, 0, none⟩ ∧ g < w.heap.size ∧ ps.length ≤ cap ∧ ∀ j (hj : j < ps.length), w.cell? ⟨g, j * 4, none⟩ = some (.string ⟨(nmB ps[j]).toArray⟩) ∧ w.cell? ⟨g, j * 4 + 1, none⟩ = some (.int .i64 ps[j].2.1) ∧ w.cell? ⟨g, j * 4 + 2, none⟩ = some (.string ps[j].2.2.1) ∧ w.cell? ⟨g, j * 4 + 3, none⟩ = some ps[j].2.2.2) := fun h0 => by
    obtain ⟨g, cap', hv, _, hg, hc, hcl⟩ := Oc.cells h h0
    have e1 : ad = some ⟨g, 0, none⟩ ∧ cap = cap' := by simpa using hv
    obtain ⟨rfl, rfl⟩ := e1
    exact ⟨g, rfl, hg, hc, hcl⟩
  have HN : Hid ((ps.map nmB).Nodup) := hnd
  have HSL : Hid (∀ p ∈ ps, ∃ ad len cap, p.2.2.2 = Value.slice ad len cap) := hsl
  clear h hnd hsl
  obtain ⟨i0, hi, hz0, hz1, hz2⟩ := info_parts Tryz.infoB47
  go_enter Tryz.func36, Tryz.ntmps36
  go_wp2
  go_loopw [3] (fun ov wr => ∃ (qs : List Be) (oa : Option Addr) (oc : Nat), qs.length ≤ ps.length ∧ ov = .slice oa qs.length oc ∧ Hid (Below w.heap.size w wr ∧ Oc wr w.heap.size (.slice oa qs.length oc) qs ∧ StO ps qs)) (fun ov _ => ps.length - (match ov with | .slice _ n _ => n | _ => 0))
  case atStart => exact ⟨[], none, 0, by simp, rfl, Below.refl _ _, World.ownsRow_nil _ _ _ _, StO.nil ps⟩
  case round =>
    obtain ⟨qs, oa, oc, hql, rfl, HP⟩ := hrel
    by_cases hlt : qs.length < ps.length
    · have hlt' : (qs.length : Int) < (ps.length : Int) := by omega
      obtain ⟨g, hadr, hg, hcap, hcl⟩ := HC.out (by omega)
      subst hadr
      have HCL : Hid (∀ j (hj : j < ps.length), w.cell? ⟨g, j * 4, none⟩ = some (.string ⟨(nmB ps[j]).toArray⟩) ∧ w.cell? ⟨g, j * 4 + 1, none⟩ = some (.int .i64 ps[j].2.1) ∧ w.cell? ⟨g, j * 4 + 2, none⟩ = some (.string ps[j].2.2.1) ∧ w.cell? ⟨g, j * 4 + 3, none⟩ = some ps[j].2.2.2) := hcl
      clear hcl HC
      go_upto_block 2 with fail
      go_wp2
      go_loopw [4, 5] (fun bv iv wq => ∃ (i q : Nat) (best : Int), i ≤ ps.length ∧ iv = .int .i64 i ∧ bv = .int .i64 best ∧ wq = wr.drewN q ∧ Hid (StB ps qs i best)) (fun _ iv _ => ps.length - (intOf iv).toNat)
      case atStart => exact ⟨0, 0, -1, by omega, by go_num, rfl, rfl, StB.start ps qs⟩
      case round =>
        obtain ⟨i, q, best, hile, rfl, rfl, rfl, HB⟩ := hrel
        by_cases hil : i < ps.length
        · have hil' : (i : Int) < (ps.length : Int) := by omega
          have cl : ∀ j (hj : j < ps.length), (wr.drewN q).cell? ⟨g, j * 4, none⟩ = some (.string ⟨(nmB ps[j]).toArray⟩) := fun j hj => by
            have := (HP.out.1.cell (p := ⟨g, j * 4, none⟩) hg).trans (HCL.out j hj).1
            exact this
          have c0 := cl i hil
          have hOq : Oc (wr.drewN q) w.heap.size (.slice oa qs.length oc) qs := own_move HP.out.2.1 fun k _ => rfl
          have CF := Oc.find (nmB ps[i]) hOq (by omega)
          have HCc : Hid (∀ j (hj : j < ps.length), (wr.drewN q).cell? ⟨g, j * 4, none⟩ = some (.string ⟨(nmB ps[j]).toArray⟩)) := cl
          clear cl hOq
          go_upto_region 8 with (go_at_call 58; (with_reducible refine Calls.mono CF ?_); rintro e' w5 ⟨rfl, rfl⟩)
          clear CF
          by_cases hin : nmB ps[i] ∈ qs.map nmB
          · have hk := find_in hin
            have hk' : ¬ findI (qs.map nmB) (nmB ps[i]) < 0 := by omega
            generalize findI (qs.map nmB) (nmB ps[i]) = kk at *
            have HB' : Hid (StB ps qs (i + 1) best) := HB.out.inn hil hin
            clear HB hin HCc
            go_quiet (fail)
            go_wp2
            go_roundw
            case rel => exact ⟨i + 1, q + nq, best, by omega, by go_num, rfl, by first | rfl | trivial, HB'.out⟩
            case measure => simp [intOf]; omega
          · rw [find_out hin]
            rcases HB.out.cases with hbest | ⟨b, hbest, hbl⟩
            · subst hbest
              have HB' : Hid (StB ps qs (i + 1) i) := HB.out.take hil hin (fun b _ e => by omega)
              clear HB hin HCc
              go_quiet (fail)
              go_wp2
              go_roundw
              case rel => exact ⟨i + 1, q + nq, i, by omega, by go_num, by go_num, by first | rfl | trivial, HB'.out⟩
              case measure => simp [intOf]; omega
            · subst hbest
              have hbn : ¬ ((b : Int) < 0) := by omega
              have hb0 : (0 : Int) ≤ (b : Int) := by omega
              have hb1 : (b : Int) < (ps.length : Int) := by omega
              have hi0 : (0 : Int) ≤ (i : Int) := by omega
              have cb := HCc.out b hbl
              clear HCc
              simp only [World.cell?_drewN] at cb c0
              go_quiet (fail)
              cases hless : Op.bytesLess (nmB ps[i]) (nmB ps[b]) with
              | true =>
                have HB' : Hid (StB ps qs (i + 1) i) := HB.out.take hil hin (fun b' _ e => by
                  have : b = b' := by omega
                  subst this
                  exact less_le hless)
                clear HB hin
                go_wp2
                go_roundw
                case rel => exact ⟨i + 1, q + nq, i, by omega, by go_num, by go_num, by first | rfl | trivial, HB'.out⟩
                case measure => simp [intOf]; omega
              | false =>
                have HB' : Hid (StB ps qs (i + 1) b) := HB.out.keep hil hbl (not_less_le hless)
                clear HB hin
                go_wp2
                go_roundw
                case rel => exact ⟨i + 1, q + nq, b, by omega, by go_num, rfl, by first | rfl | trivial, HB'.out⟩
                case measure => simp [intOf]; omega
        · have hil' : ¬ (i : Int) < (ps.length : Int) := by omega
          have e1 : i = ps.length := by omega
          have hBB := HB.out
          rw [e1] at hBB
          obtain ⟨b, hbl, hbest, hSt⟩ := hBB.some HP.out.2.2 HN.out hlt
          subst hbest
          have hbn : ¬ ((b : Int) < 0) := by omega
          have hb0 : (0 : Int) ≤ (b : Int) := by omega
          have hb1 : (b : Int) < (ps.length : Int) := by omega
          obtain ⟨m0, m1, m2, m3⟩ := HCL.out b hbl
          have cb : wr.cell? ⟨g, b * 4, none⟩ = some (.string ⟨(nmB ps[b]).toArray⟩) := (HP.out.1.cell (p := ⟨g, b * 4, none⟩) hg).trans m0
          have cb1 : wr.cell? ⟨g, b * 4 + 1, none⟩ = some (.int .i64 ps[b].2.1) := (HP.out.1.cell (p := ⟨g, b * 4 + 1, none⟩) hg).trans m1
          have cb2 : wr.cell? ⟨g, b * 4 + 2, none⟩ = some (.string ps[b].2.2.1) := (HP.out.1.cell (p := ⟨g, b * 4 + 2, none⟩) hg).trans m2
          have cb3 : wr.cell? ⟨g, b * 4 + 3, none⟩ = some ps[b].2.2.2 := (HP.out.1.cell (p := ⟨g, b * 4 + 3, none⟩) hg).trans m3
          have own0 : (wr.drewN q).ownsRow w.heap.size 47 4 (.slice oa qs.length oc) qs.length (qs.flatMap obC) := own_move HP.out.2.1 fun k _ => rfl
          have hsz : w.heap.size ≤ wr.heap.size := HP.out.1.size
          have HPB : Hid (Below w.heap.size w wr) := HP.out.1
          have HST : Hid (StO ps (qs ++ [ps[b]])) := hSt
          have hq5 : qs.length ≤ 500 := by omega
          have HOB : Hid (obC ps[b] = [.string ⟨(nmB ps[b]).toArray⟩, .int .i64 ps[b].2.1, .string ps[b].2.2.1, ps[b].2.2.2]) := rfl
          have hev := HSL.out ps[b] (List.getElem_mem hbl)
          generalize ps[b] = pb at *
          obtain ⟨⟨nm, sg⟩, ek, en, ev⟩ := pb
          obtain ⟨ead, elen, ecap, hev⟩ := hev
          have hev : ev = .slice ead elen ecap := hev
          subst hev
          clear HB hBB hSt HP HCL m0 m1 m2 m3
          go_wp2_with (at_builtin; refine wpList_append_lies _ rfl _ _ 36 rfl w.heap.size 47 i0 _ 4 64 Tryz.underlying36 hi hz0 hz1 hz2 rfl (by decide) (.slice oa qs.length oc) qs.length (qs.flatMap obC) rfl (own0.alloc _) ⟨(wr.drewN q).heap.size, 0, none⟩ 1 1 [.string ⟨nm.toArray⟩, .int .i64 ek, .string en, .slice ead elen ecap] rfl rfl (World.news_of_block (cs := #[.string ⟨nm.toArray⟩, .int .i64 ek, .string en, .slice ead elen ecap]) (t := 47) (fr := (0, 0)) (heap_alloc_new (wr.drewN q) _)) (by simp [Value.oneCell']) (by omega) (by unfold maxLen; omega) (by omega) (by simp; omega) (wr.heap.size + 1) (by simp) ?_; intro g9 cap9 w9 hown9 hgrow hat hlt9)
          have hbl9 : Below w.heap.size w w9 := by
            have h1 : Below w.heap.size w ((wr.drewN q).alloc (Obj.cells #[.string ⟨nm.toArray⟩, .int .i64 ek, .string en, .slice ead elen ecap] 47)) := (below_drewN HPB.out q).alloc (by simpa using hsz) _
            exact h1.grown hgrow (by simp; omega) (fun k e => (own0.lt k e).1)
          refine ⟨⟨qs ++ [((nm, sg), ek, en, .slice ead elen ecap)], some ⟨g9, 0, none⟩, cap9, by simp; omega, by simp, hbl9, ?_, HST.out⟩, by simp; omega⟩
          show w9.ownsRow w.heap.size 47 4 _ _ _
          rw [List.length_append, List.flatMap_append]
          exact hown9
    · have hlt' : ¬ (qs.length : Int) < (ps.length : Int) := by omega
      have HE : Hid (Below w.heap.size w wr ∧ Oc wr w.heap.size (.slice oa qs.length oc) qs ∧ qs.Perm ps ∧ (qs.map nmB).Pairwise fun a b => leB a b = true) := ⟨HP.out.1, HP.out.2.1, HP.out.2.2.full HN.out (by omega), HP.out.2.2.up⟩
      clear HP HC
      go_wp2
      go_ret
      exact ⟨HE.out.1, _, rfl, qs, HE.out.2.1, HE.out.2.2.1, by simpa using HE.out.2.2.2⟩
end Go.Proofs.YthcejnpknjepfaaGreat
