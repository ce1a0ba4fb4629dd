/- suits: the walk. -/
import Derived.Test.YtpdmkhnonbbhnaaMrx
import Derived.Deep.QuietTactic
import Derived.BigQuiet
namespace Go.Proofs.Ytpdmkhnonbbhnaa
open Go.RowKit Go.Maps

theorem knowC_src {i : Nat} : ∀ (ns : List Str) (xs : List Int) (p : Nat) (k k' : Kn), knowC i k p ns xs = some k' → ∀ e ∈ k', e ∈ k ∨ e.1 ∈ ns
  | [], _, p, k, k', h => fun e he => by
    unfold knowC at h
    obtain rfl := Option.some.inj h
    exact .inl he
  | n :: ns, [], p, k, k', h => by unfold knowC at h; cases h
  | n :: ns, x :: xs, p, k, k', h => fun e he => by
    unfold knowC at h
    split at h
    · cases h
    · rcases knowC_src ns xs (p + 1) _ k' h e he with h1 | h1
      · rcases List.mem_append.1 h1 with h1 | h1
        · exact .inl h1
        · rw [List.mem_singleton.1 h1]; exact .inr List.mem_cons_self
      · exact .inr (List.mem_cons_of_mem _ h1)
theorem knowF_src : ∀ (fs : List Fam) (i : Nat) (k k' : Kn), knowF i k fs = some k' → ∀ e ∈ k', e ∈ k ∨ ∃ f ∈ fs, e.1 ∈ f.1
  | [], i, k, k', h => fun e he => by
    unfold knowF at h
    obtain rfl := Option.some.inj h
    exact .inl he
  | f :: fs, i, k, k', h => fun e he => by
    unfold knowF at h
    split at h
    · cases h
    · obtain ⟨k1, hk1, hk2⟩ := Option.bind_eq_some_iff.1 h
      rcases knowF_src fs (i + 1) k1 k' hk2 e he with h1 | ⟨g, hg, h1⟩
      · rcases knowC_src f.1 f.2 0 k k1 hk1 e h1 with h2 | h2
        · exact .inl h2
        · exact .inr ⟨f, List.mem_cons_self, h2⟩
      · exact .inr ⟨g, List.mem_cons_of_mem _ hg, h1⟩
/-- Where, of families that are right. -/
theorem where_known {fs : List Fam} {k : Kn} (hkn : knowF 0 [] fs = some k) {w : World} {S : Nat → Prop} (n : Str) (fa : Option Addr) (fc : Nat) (hFm : Fams w S (.slice fa fs.length fc) fs) (hfl : fs.length ≤ 10000) (hfw : ∀ f ∈ fs, f.1.length < 140737488355328) :
    (look k n = none → Calls Try.prog 25 #[.slice fa fs.length fc, .string ⟨n.toArray⟩] w fun r w' => w' = w ∧ r = .returned (.tuple #[.int .i64 (-1), .int .i64 (-1)])) ∧
    ∀ e, look k n = some e → Calls Try.prog 25 #[.slice fa fs.length fc, .string ⟨n.toArray⟩] w fun r w' => w' = w ∧ r = .returned (.tuple #[.int .i64 (e.1 : Nat), .int .i64 (e.2.1 : Nat)]) := by
  have C := where_any (w := w) (S := S) fs n fa fc hFm hfl hfw
  constructor
  · intro hn
    refine Calls.mono C ?_
    rintro r w' ⟨hw, ⟨i, j, f, hf, hj, _⟩ | ⟨_, hr⟩⟩
    · obtain ⟨y, _, _, h⟩ := know_look hkn hf hj
      rw [hn] at h
      cases h
    · exact ⟨hw, hr⟩
  · intro e he
    refine Calls.mono C ?_
    rintro r w' ⟨hw, ⟨i, j, f, hf, hj, hr⟩ | ⟨hno, _⟩⟩
    · obtain ⟨y, _, _, h⟩ := know_look hkn hf hj
      rw [he] at h
      rw [Option.some.inj h]
      exact ⟨hw, hr⟩
    · rcases knowF_src fs 0 [] k hkn _ (look_mem he) with h | ⟨f, hf, h⟩
      · simp at h
      · exact absurd h (hno f hf)
theorem below_drewN {n : Nat} {w w' : World} (h : Below n w w') : ∀ m, Below n w (w'.drewN m)
  | 0 => h
  | m + 1 => (below_drewN h m).drew
theorem known_at {fs : List Fam} {k : Kn} (hkn : knowF 0 [] fs = some k) {n : Str} {e : Nat × Nat × Nat} (he : look k n = some e) : ∃ F, fs[e.1]? = some F ∧ F.1[e.2.1]? = some n ∧ F.2[e.2.1]? = some (e.2.2 : Int) := by
  rcases knowF_src fs 0 [] k hkn _ (look_mem he) with h | ⟨f, hf, h⟩
  · simp at h
  · obtain ⟨i, hi, rfl⟩ := List.getElem_of_mem hf
    obtain ⟨j, hj, hjn⟩ := List.getElem_of_mem h
    have hjn' : fs[i].1[j]? = some n := by rw [List.getElem?_eq_getElem hj, hjn]
    obtain ⟨y, h1, h2, h3⟩ := know_look hkn (List.getElem?_eq_getElem hi) hjn'
    rw [he] at h3
    have h3 := Option.some.inj h3
    subst h3
    exact ⟨fs[i], List.getElem?_eq_getElem hi, hjn', by rw [h1]; congr 1; simp only; omega⟩
/-- Where the field count of a known name lies. -/
theorem known_cell {fs : List Fam} {k : Kn} (hkn : knowF 0 [] fs = some k) {n : Str} {e : Nat × Nat × Nat} (he : look k n = some e) {w : World} {S : Nat → Prop} {fa : Option Addr} {fc : Nat} (hFm : Fams w S (.slice fa fs.length fc) fs) :
    ∃ g o g' o' l c, fa = some ⟨g, o, none⟩ ∧ e.1 < fs.length ∧ e.2.1 < l ∧ w.cell? ⟨g, o + e.1 * 2 + 1, none⟩ = some (.slice (some ⟨g', o', none⟩) l c) ∧ w.cell? ⟨g', o' + e.2.1, none⟩ = some (.int .i64 (e.2.2 : Int)) := by
  obtain ⟨F, h1, h2, h3⟩ := known_at hkn he
  obtain ⟨hl, e1⟩ := List.getElem?_eq_some_iff.1 h1
  obtain ⟨hl2, e2⟩ := List.getElem?_eq_some_iff.1 h3
  obtain ⟨_, _, he2, hrow2⟩ := RowP.open hFm
  injection he2 with he2 hx2 hcc2
  subst he2 hcc2
  obtain ⟨g, o, rfl, _, hr⟩ := hrow2 (fun q => by rw [q] at hl; simp at hl)
  obtain ⟨_, _, ad, cap, q1, q2⟩ := hr _ hl
  rw [e1] at q1 q2
  obtain ⟨_, _, he3, hrow3⟩ := RowP.open q2
  injection he3 with he3 hx3 hcc3
  subst he3 hcc3
  obtain ⟨g', o', rfl, _, hr'⟩ := hrow3 (fun q => by rw [q] at hl2; simp at hl2)
  obtain ⟨_, q3⟩ := hr' _ hl2
  rw [e2, Nat.mul_one] at q3
  exact ⟨g, o, g', o', _, _, rfl, hl, hl2, q1, q3⟩
set_option maxHeartbeats 16000000 in
set_option maxRecDepth 10000 in
theorem suits_step {fs : List Fam} {k : Kn} (hkn : knowF 0 [] fs = some k) (hfl : fs.length ≤ 10000) (hfw : ∀ f ∈ fs, f.1.length < 140737488355328 ∧ f.2.length < 140737488355328) (v : Pt) (ps : List Pt) (hps : ps.length ≤ 200) (hwell : ∀ p ∈ ps, Well k p)
    (IH : ∀ n (h : n < v.kids.length) (qs : List Pt), qs.length ≤ 200 → (∀ q ∈ qs, Well k q) → SuitsC fs k v.kids[n] qs) : SuitsC fs k v ps := by
  intro w S fa fc a x hS hFm hP hX
  obtain ⟨va, vc, rfl, hvn, hvl, hvk⟩ := hX
  obtain ⟨pa, pc, rfl, hrow⟩ := RowP.open hP
  have HS : Hid (∀ b, S b → b < w.heap.size) := hS
  have HF : Hid (Fams w S (.slice fa fs.length fc) fs) := hFm
  have HFW : Hid (∀ f ∈ fs, f.1.length < 140737488355328 ∧ f.2.length < 140737488355328) := hfw
  have HKN : Hid (knowF 0 [] fs = some k) := hkn
  have HWL : Hid (∀ p ∈ ps, Well k p) := hwell
  have HIH : Hid (∀ n (h : n < v.kids.length) (qs : List Pt), qs.length ≤ 200 → (∀ q ∈ qs, Well k q) → SuitsC fs k v.kids[n] qs) := IH
  have HR : Hid (ps ≠ [] → ∃ g o, pa = some ⟨g, o, none⟩ ∧ ps.length ≤ pc ∧ ∀ j (h : j < ps.length), PtP w S g (o + j * 4) ps[j]) := hrow
  have HVK : Hid (Pats w S (.slice va v.kids.length vc) v.kids ∧ v.kids.length < 140737488355328) := ⟨hvk, hvl⟩
  clear hS hFm hP hrow hvn hvl hvk hfw hkn hwell IH
  go_enter Try.func9, Try.ntmps9
  go_wp2
  obtain ⟨W0, hW0⟩ : ∃ W0, W0 = w.alloc (Obj.cells #[.int .i64 v.kind, .string ⟨v.name.toArray⟩, .int .i64 v.num, .slice va v.kids.length vc] 39) := ⟨_, rfl⟩
  have HW0 : Hid (Below w.heap.size w W0 ∧ W0.heap.size = w.heap.size + 1 ∧ W0.heap[w.heap.size]? = some (.cells #[.int .i64 v.kind, .string ⟨v.name.toArray⟩, .int .i64 v.num, .slice va v.kids.length vc] 39 (0, 0))) := by
    show _ ∧ _ ∧ _
    rw [hW0]
    exact ⟨(Below.refl _ _).alloc (Nat.le_refl _) _, by simp, new_block _ _⟩
  go_loopw [7] (fun iv wr => ∃ (i : Nat), i ≤ ps.length ∧ iv = .int .i64 i ∧ Hid (Below W0.heap.size W0 wr) ∧ Hid (∀ p ∈ ps.take i, Cnd k v p)) (fun iv _ => ps.length - (intOf iv).toNat)
  case atStart => exact ⟨0, by omega, by go_num, by rw [hW0]; exact Below.refl _ _, fun q hq => by simp at hq⟩
  case round =>
    clear hW0
    obtain ⟨i, hi, rfl, HB, HM⟩ := hrel
    have HBW : Hid (Below w.heap.size w wr) := HW0.out.1.trans (HB.out.mono HW0.out.1.size)
    by_cases hil : i < ps.length
    · obtain ⟨g, o, rfl, hc, hr⟩ := HR.out (fun e => by rw [e] at hil; simp at hil)
      have hk := Keeps.of HBW.out HS.out
      obtain ⟨s0, p0, p1, p2, l1, l2, ad1, cp1, p3, P1⟩ := ((hr i hil).on hk).open
      have hwp := HWL.out _ (List.getElem_mem hil)
      have HTK : Hid (Cnd k v ps[i] → ∀ p ∈ ps.take (i + 1), Cnd k v p) := fun h p hp => by
        rw [List.take_add_one, List.getElem?_eq_getElem hil] at hp
        rcases List.mem_append.1 hp with hp | hp
        · exact HM.out p hp
        · rw [show p = ps[i] by simpa using hp]; exact h
      have i1 : (0 : Int) ≤ (i : Int) := by omega
      have i2 : (i : Int) < (ps.length : Int) := by omega
      clear hr hk s0 l1 l2 P1
      generalize ps[i] = p at *
      have HI : Hid (i < ps.length) := hil
      clear hil
      go_upto_region 5 with fail
      obtain ⟨pb, hpb⟩ : ∃ pb, pb = wr.heap.size := ⟨_, rfl⟩
      obtain ⟨W1, hW1⟩ : ∃ W1, W1 = wr.alloc (Obj.cells #[.int .i64 p.kind, .string ⟨p.name.toArray⟩, .int .i64 p.num, .slice ad1 p.kids.length cp1] 39) := ⟨_, rfl⟩
      rw [← hW1, ← hpb]
      have HB1 : Hid (Below W0.heap.size W0 W1 ∧ Below w.heap.size w W1) := by
        have h1 : Below W0.heap.size W0 W1 := by rw [hW1]; exact HB.out.alloc HB.out.size _
        exact ⟨h1, HW0.out.1.trans (h1.mono HW0.out.1.size)⟩
      have hnb : W1.heap[pb]? = some (.cells #[.int .i64 p.kind, .string ⟨p.name.toArray⟩, .int .i64 p.num, .slice ad1 p.kids.length cp1] 39 (0, 0)) := by rw [hW1, hpb]; exact new_block _ _
      have n0 : W1.cell? ⟨pb, 0, none⟩ = some (.int .i64 p.kind) := heap_cell hnb rfl
      have n1 : W1.cell? ⟨pb, 1, none⟩ = some (.string ⟨p.name.toArray⟩) := heap_cell hnb rfl
      have hvb := (HB1.out.1.block w.heap.size (by have := HW0.out.2.1; omega)).trans HW0.out.2.2
      have x0 : W1.cell? ⟨w.heap.size, 0, none⟩ = some (.int .i64 v.kind) := heap_cell hvb rfl
      have x1 : W1.cell? ⟨w.heap.size, 1, none⟩ = some (.string ⟨v.name.toArray⟩) := heap_cell hvb rfl
      have x2 : W1.cell? ⟨w.heap.size, 2, none⟩ = some (.int .i64 v.num) := heap_cell hvb rfl
      have x3 : W1.cell? ⟨w.heap.size, 3, none⟩ = some (.slice va v.kids.length vc) := heap_cell hvb rfl
      clear hW1 hpb hnb hvb p0 p1 p2 p3 HB HBW
      go_cut [44] from 27 to 44 (fun z wc => z = .bool (decide (p.kind = 3 ∧ ¬ (v.kind = 3 ∧ -4611686018427387904 ≤ v.num ∧ v.num ≤ 4611686018427387903))) ∧ wc = W1)
      case first =>
        by_cases hk3 : p.kind = 3
        · rw [hk3] at n0
          by_cases hv3 : v.kind = 3
          · rw [hv3] at x0
            by_cases hlo : v.num < -4611686018427387904
            · have e3 : Hid (Value.bool true = .bool (decide (p.kind = 3 ∧ ¬ (v.kind = 3 ∧ -4611686018427387904 ≤ v.num ∧ v.num ≤ 4611686018427387903)))) := by show _ = _; rw [decide_eq_true]; exact ⟨hk3, by omega⟩
              have hlo' : decide (v.num < -4611686018427387904) = true := decide_eq_true hlo
              clear hk3 hv3 hlo
              go_wp2
              go_meet
              case rel => exact ⟨e3.out, rfl⟩
            · have hlo' : decide (v.num < -4611686018427387904) = false := decide_eq_false hlo
              by_cases hhi : 4611686018427387903 < v.num
              · have e3 : Hid (Value.bool true = .bool (decide (p.kind = 3 ∧ ¬ (v.kind = 3 ∧ -4611686018427387904 ≤ v.num ∧ v.num ≤ 4611686018427387903)))) := by show _ = _; rw [decide_eq_true]; exact ⟨hk3, by omega⟩
                have hhi' : decide (4611686018427387903 < v.num) = true := decide_eq_true hhi
                clear hk3 hv3 hlo hhi
                go_wp2
                go_meet
                case rel => exact ⟨e3.out, rfl⟩
              · have e3 : Hid (Value.bool false = .bool (decide (p.kind = 3 ∧ ¬ (v.kind = 3 ∧ -4611686018427387904 ≤ v.num ∧ v.num ≤ 4611686018427387903)))) := by show _ = _; rw [decide_eq_false]; omega
                have hhi' : decide (4611686018427387903 < v.num) = false := decide_eq_false hhi
                clear hk3 hv3 hlo hhi
                go_wp2
                go_meet
                case rel => exact ⟨e3.out, rfl⟩
          · have hv3' : (v.kind != 3) = true := by simpa using hv3
            have e3 : Hid (Value.bool true = .bool (decide (p.kind = 3 ∧ ¬ (v.kind = 3 ∧ -4611686018427387904 ≤ v.num ∧ v.num ≤ 4611686018427387903)))) := by show _ = _; rw [decide_eq_true]; exact ⟨hk3, by omega⟩
            clear hk3 hv3
            go_wp2
            go_meet
            case rel => exact ⟨e3.out, rfl⟩
        · have hk3' : (p.kind == 3) = false := by simpa using hk3
          have e3 : Hid (Value.bool false = .bool (decide (p.kind = 3 ∧ ¬ (v.kind = 3 ∧ -4611686018427387904 ≤ v.num ∧ v.num ≤ 4611686018427387903)))) := by show _ = _; rw [decide_eq_false]; omega
          clear hk3
          go_wp2
          go_meet
          case rel => exact ⟨e3.out, rfl⟩
      obtain ⟨rfl, hwc⟩ := hcut
      obtain rfl := hwc.symm
      by_cases hbad : p.kind = 3 ∧ ¬ (v.kind = 3 ∧ -4611686018427387904 ≤ v.num ∧ v.num ≤ 4611686018427387903)
      · rw [decide_eq_true hbad]
        clear hbad
        go_wp2
        refine bodyPost_ret (v := .bool false) (by simp [results, Try.results9, go_sem]) rfl ?_
        exact ⟨HB1.out.2, false, rfl, fun h => by cases h⟩
      · rw [decide_eq_false hbad]
        have HK3 : Hid (p.kind = 3 → v.kind = 3 ∧ -4611686018427387904 ≤ v.num ∧ v.num ≤ 4611686018427387903) := fun h => Classical.byContradiction fun q => hbad ⟨h, q⟩
        clear hbad
        by_cases hp4 : p.kind = 4
        · obtain ⟨⟨e, he, hel⟩, _⟩ := (Well_iff k p).1 hwp hp4
          have hF1 := (HF.out.on (Keeps.of HB1.out.2 HS.out))
          have CW1 := (where_known HKN.out (w := W1) (S := S) p.name fa fc hF1 hfl (fun f hf => (HFW.out f hf).1)).2 e he
          obtain ⟨CW2, CW3⟩ := where_known HKN.out (w := W1) (S := S) v.name fa fc hF1 hfl (fun f hf => (HFW.out f hf).1)
          have HE : Hid (p.kind = 4 ∧ look k p.name = some e) := ⟨hp4, he⟩
          rw [hp4] at n0
          clear hp4 hel hwp
          cases hlv : look k v.name with
          | none =>
            have C2 := CW2 hlv
            clear CW2 CW3 hlv
            go_upto_region 10 with (first | (go_at_call 25; (with_reducible refine Calls.mono CW1 ?_); rintro e' w' ⟨rfl, rfl⟩) | (go_at_call 25; (with_reducible refine Calls.mono C2 ?_); rintro e' w' ⟨rfl, rfl⟩))
            by_cases hv4 : v.kind = 4
            · rw [hv4] at x0
              have hne : ((e.1 : Int) != -1) = true := by rw [bne_iff_ne]; omega
              clear hv4
              go_quiet (fail)
              go_wp2
              refine bodyPost_ret (v := .bool false) (by simp [results, Try.results9, go_sem]) rfl ?_
              exact ⟨below_drewN HB1.out.2 _, false, rfl, fun h => by cases h⟩
            · have hv4' : (v.kind != 4) = true := by simpa using hv4
              clear hv4
              go_quiet (fail)
              go_wp2
              refine bodyPost_ret (v := .bool false) (by simp [results, Try.results9, go_sem]) rfl ?_
              exact ⟨below_drewN HB1.out.2 _, false, rfl, fun h => by cases h⟩
          | some f =>
            have C2 := CW3 f hlv
            obtain ⟨gf, of, g', o', fl, fcap, rfl, hefl, hefl2, c1, c2⟩ := known_cell HKN.out hlv hF1
            clear CW2 CW3 hF1
            go_upto_region 10 with (first | (go_at_call 25; (with_reducible refine Calls.mono CW1 ?_); rintro e' w' ⟨rfl, rfl⟩) | (go_at_call 25; (with_reducible refine Calls.mono C2 ?_); rintro e' w' ⟨rfl, rfl⟩))
            by_cases hv4 : v.kind = 4
            · rw [hv4] at x0
              by_cases hef : e.1 = f.1
              · have HLV : Hid (v.kind = 4 ∧ e.1 = f.1 ∧ look k v.name = some f) := ⟨hv4, hef, hlv⟩
                rw [hef]
                have j1 : (0 : Int) ≤ (f.1 : Int) := by omega
                have j2 : (f.1 : Int) < (fs.length : Int) := by omega
                have j3 : (0 : Int) ≤ (f.2.1 : Int) := by omega
                have j4 : (f.2.1 : Int) < (fl : Int) := by omega
                have j5 : decide ((f.1 : Int) < 0) = false := by rw [decide_eq_false]; omega
                have j6 : ((f.1 : Int) != (f.1 : Int)) = false := by simp
                clear hv4 hef hlv
                by_cases hlen : v.kids.length = f.2.2
                · have HC : Hid (Cnd k v p) := ⟨HK3.out, fun h => ⟨HLV.out.1, e, f, HE.out.2, HLV.out.2.2, HLV.out.2.1, hlen⟩⟩
                  have hlen' : ((v.kids.length : Int) != (f.2.2 : Int)) = false := by simp; omega
                  clear hlen
                  go_quiet (fail)
                  go_wp2
                  go_roundw
                  case rel => exact ⟨i + 1, HI.out, by go_num, below_drewN HB1.out.1 _, HTK.out HC.out⟩
                  case measure => simp [intOf]; have := HI.out; omega
                · have hlen' : ((v.kids.length : Int) != (f.2.2 : Int)) = true := by simp; omega
                  clear hlen
                  go_quiet (fail)
                  go_wp2
                  refine bodyPost_ret (v := .bool false) (by simp [results, Try.results9, go_sem]) rfl ?_
                  exact ⟨below_drewN HB1.out.2 _, false, rfl, fun h => by cases h⟩
              · have hne : ((e.1 : Int) != (f.1 : Int)) = true := by simp; omega
                clear hv4 hef hlv
                go_quiet (fail)
                go_wp2
                refine bodyPost_ret (v := .bool false) (by simp [results, Try.results9, go_sem]) rfl ?_
                exact ⟨below_drewN HB1.out.2 _, false, rfl, fun h => by cases h⟩
            · have hv4' : (v.kind != 4) = true := by simpa using hv4
              clear hv4 hlv
              go_quiet (fail)
              go_wp2
              refine bodyPost_ret (v := .bool false) (by simp [results, Try.results9, go_sem]) rfl ?_
              exact ⟨below_drewN HB1.out.2 _, false, rfl, fun h => by cases h⟩
        · have HC : Hid (Cnd k v p) := ⟨HK3.out, fun h => absurd h hp4⟩
          have hp4' : (p.kind == 4) = false := by simpa using hp4
          clear hp4
          go_wp2
          go_roundw
          case rel => exact ⟨i + 1, HI.out, by go_num, HB1.out.1, HTK.out HC.out⟩
          case measure => simp [intOf]; have := HI.out; omega
    · have hie : i = ps.length := by omega
      subst hie
      have i2 : ¬ ((ps.length : Nat) : Int) < (ps.length : Int) := by omega
      have HMA : Hid (∀ p ∈ ps, Cnd k v p) := by
        have h := HM.out
        rw [List.take_length] at h
        exact h
      clear HM hil hi HBW
      have hvl := HVK.out.2
      go_wp2
      go_loopw [13] (fun nv wr => ∃ (n : Nat), n ≤ v.kids.length ∧ nv = .int .i64 n ∧ Hid (Below W0.heap.size W0 wr) ∧ Hid (∀ m (_ : m < n) (h2 : m < v.kids.length), Suit k v.kids[m] (below m v.name ps))) (fun nv _ => v.kids.length - (intOf nv).toNat)
      case atStart => exact ⟨0, by omega, by go_num, HB.out, fun m hm => absurd hm (Nat.not_lt_zero _)⟩
      case round =>
        clear HB i2
        obtain ⟨n, hn, rfl, HB, HSU⟩ := hrel
        have hvb := (HB.out.block w.heap.size (by have := HW0.out.2.1; omega)).trans HW0.out.2.2
        have x3 : wr.cell? ⟨w.heap.size, 3, none⟩ = some (.slice va v.kids.length vc) := heap_cell hvb rfl
        clear hvb
        by_cases hnl : n < v.kids.length
        · have n1 : (0 : Int) ≤ (n : Int) := by omega
          have n2 : (n : Int) < (v.kids.length : Int) := by omega
          have HNL : Hid (n < v.kids.length) := hnl
          clear hnl hn
          go_wp2
          go_loopw [14, 15] (fun bv iv wr => ∃ (i : Nat) (l : List Cq4) (ba : Option Addr) (bc : Nat), i ≤ ps.length ∧ iv = .int .i64 i ∧ bv = .slice ba l.length bc ∧ l.length ≤ i ∧ Hid (Below W0.heap.size W0 wr) ∧ Hid (Sn w S W0.heap.size l (.slice ba l.length bc) wr) ∧ Hid (l.map (·.1) = below n v.name (ps.take i))) (fun _ iv _ => ps.length - (intOf iv).toNat)
          case atStart => exact ⟨0, [], none, 0, by omega, by go_num, rfl, by simp, HB.out, Sn.start _ _, rfl⟩
          case round =>
            clear HB x3
            obtain ⟨i, l, ba, bc, hi, rfl, rfl, hli, HB, HSN, HLB⟩ := hrel
            by_cases hil : i < ps.length
            · obtain ⟨g, o, rfl, hc, hr⟩ := HR.out (fun e => by rw [e] at hil; simp at hil)
              have HBW : Hid (Below w.heap.size w wr) := HW0.out.1.trans (HB.out.mono HW0.out.1.size)
              have hk := Keeps.of HBW.out HS.out
              obtain ⟨s0, p0, p1, p2, l1, l2, ad1, cp1, p3, P1⟩ := ((hr i hil).on hk).open
              have HWC : Hid (Well k ps[i] ∧ Cnd k v ps[i]) := ⟨HWL.out _ (List.getElem_mem hil), HMA.out _ (List.getElem_mem hil)⟩
              have HTK : Hid (below n v.name (ps.take (i + 1)) = below n v.name (ps.take i) ++ below n v.name [ps[i]]) := below_take hil
              have hvb := (HB.out.block w.heap.size (by have := HW0.out.2.1; omega)).trans HW0.out.2.2
              have x1 : wr.cell? ⟨w.heap.size, 1, none⟩ = some (.string ⟨v.name.toArray⟩) := heap_cell hvb rfl
              have i1 : (0 : Int) ≤ (i : Int) := by omega
              have i2 : (i : Int) < (ps.length : Int) := by omega
              clear hr hk s0 l1 l2 hvb p2
              generalize ps[i] = p at *
              have HI : Hid (i < ps.length) := hil
              clear hil hi
              go_upto_region 19 with fail
              by_cases hp4 : p.kind = 4
              · rw [hp4] at p0
                cases hN : (p.name == v.name) with
                | true =>
                  have hnm : p.name = v.name := eq_of_beq hN
                  obtain ⟨hv4, e, f, he, hf, hef, hvf⟩ := HWC.out.2.2 hp4
                  obtain ⟨⟨e', he', hpe⟩, _⟩ := (Well_iff k p).1 HWC.out.1 hp4
                  rw [hnm] at he'
                  have hfe := Option.some.inj (hf.symm.trans he')
                  have hnp : n < p.kids.length := by have := HNL.out; rw [hpe, ← hfe, ← hvf]; exact this
                  have HAD : Hid (below n v.name (ps.take (i + 1)) = below n v.name (ps.take i) ++ [p.kids[n]]) := by
                    show _ = _
                    rw [HTK.out]
                    congr 1
                    unfold below
                    rw [List.filterMap_cons, if_pos ⟨hp4, hnm⟩, List.getElem?_eq_getElem hnp]
                    rfl
                  obtain ⟨_, _, he2, hrow2⟩ := RowP.open P1
                  injection he2 with he2 hx2 hcc2
                  subst he2 hcc2
                  obtain ⟨g2, o2, rfl, hc2, hr2⟩ := hrow2 (fun e => by rw [e] at hnp; simp at hnp)
                  obtain ⟨s0, q0, q1, q2, l1, l2, ad2, cp2, q3, P2⟩ := (hr2 n hnp).open
                  have n3 : (n : Int) < (p.kids.length : Int) := by omega
                  clear hx2 P1 hr2 hrow2 s0 he hf hvf he' hpe hfe hp4 hv4 hef HTK HWC
                  generalize p.kids[n] = q at *
                  clear hnp
                  have HQ : Hid (q.name.length < 140737488355328 ∧ q.kids.length < 140737488355328 ∧ Pats w S (.slice ad2 q.kids.length cp2) q.kids) := ⟨l1, l2, P2.on fun b hb => (Keeps.of HBW.out HS.out b hb).symm⟩
                  clear l1 l2 P2
                  rw [hnm] at p1 hN
                  clear hnm
                  go_quiet (fail)
                  generalize hW2 : wr.drewN _ = W2
                  have h2 : Below wr.heap.size wr W2 := by rw [← hW2]; exact below_drewN (Below.refl _ _) _
                  have HB2 : Hid (Below wr.heap.size wr W2 ∧ Below W0.heap.size W0 W2) := ⟨h2, HB.out.trans (h2.mono HB.out.size)⟩
                  have hall : ∀ a, W2.cell? a = wr.cell? a := fun a => by rw [← hW2]; rfl
                  rw [← hall] at p3 q0 q1 q2 q3
                  have HSN2 : Hid (Sn w S W0.heap.size l (.slice ba l.length bc) W2) := HSN.out.on h2
                  clear hall h2 hW2 p0 p1 x1
                  have hown := HSN2.out.own
                  have hws := HB2.out.2.size
                  have HSA : Hid (Sn w S W0.heap.size l (.slice ba l.length bc) (W2.alloc (Obj.cells #[.int .i64 q.kind, .string ⟨q.name.toArray⟩, .int .i64 q.num, .slice ad2 q.kids.length cp2] 39))) := HSN2.out.on ((Below.refl _ _).alloc (Nat.le_refl _) _)
                  obtain ⟨i0, hi0, hz0, hz1, hz2⟩ := info_parts Try.info39
                  go_upto_region 18 with (at_builtin; refine wpList_append_lies _ rfl _ _ 24 rfl W0.heap.size 39 i0 _ 4 56 Try.underlying24 hi0 hz0 hz1 hz2 rfl (by decide) _ _ _ rfl (hown.alloc _) ⟨W2.heap.size, 0, none⟩ 1 1 [.int .i64 q.kind, .string ⟨q.name.toArray⟩, .int .i64 q.num, .slice ad2 q.kids.length cp2] rfl rfl (World.news_of_block (new_block' W2 _)) (by intro u hu; simp at hu; rcases hu with rfl | rfl | rfl | rfl <;> rfl) (by omega) (by unfold maxLen; omega) (by omega) (by simp; omega) (W2.heap.size + 1) (by simp) ?_; intro g' cap' W7 hown7 hgr7 hat7 hlt7; have HR7 : Hid (W7.ownsRow _ _ _ _ _ _ ∧ World.grownBy _ W7 _ ∧ _) := ⟨hown7, hgr7, hat7⟩; clear hown7 hgr7 hat7 hlt7 hown)
                  have HS7 : Hid (Sn w S W0.heap.size (l ++ [(q, ad2, cp2)]) (.slice (some ⟨g', 0, none⟩) (l.length + 1) cap') W7) := HSA.out.snoc (q := (q, ad2, cp2)) HQ.out HR7.out.1
                  have HB7 : Hid (Below W0.heap.size W0 W7) := (HB2.out.2.alloc hws _).grown HR7.out.2.1 (by simp; omega) (fun y e => (HSA.out.own.lt y e).1)
                  clear HR7 HSA HSN2 HB2 hws hi0 hz0 hz1 hz2
                  go_wp2
                  go_roundw
                  case rel => exact ⟨i + 1, l ++ [(q, ad2, cp2)], _, _, HI.out, by go_num, by rw [List.length_append]; rfl, by rw [List.length_append]; simp; omega, HB7.out, by rw [List.length_append]; exact HS7.out, by show _ = _; rw [HAD.out, List.map_append, HLB.out]; rfl⟩
                  case measure => simp [intOf]; have := HI.out; omega
                | false =>
                  have HAD : Hid (below n v.name (ps.take (i + 1)) = below n v.name (ps.take i)) := by
                    show _ = _
                    rw [HTK.out]
                    have : below n v.name [p] = [] := by
                      unfold below
                      rw [List.filterMap_cons, if_neg (fun h => by rw [h.2] at hN; simp at hN)]
                      rfl
                    rw [this, List.append_nil]
                  clear HTK HWC hp4 P1
                  go_quiet (fail)
                  go_wp2
                  go_roundw
                  case rel => exact ⟨i + 1, l, _, _, HI.out, by go_num, rfl, by omega, below_drewN HB.out _, HSN.out.on (below_drewN (Below.refl _ _) _), by show _ = _; rw [HAD.out, HLB.out]⟩
                  case measure => simp [intOf]; have := HI.out; omega
              · have hp4' : (p.kind == 4) = false := by simpa using hp4
                have HAD : Hid (below n v.name (ps.take (i + 1)) = below n v.name (ps.take i)) := by
                  show _ = _
                  rw [HTK.out]
                  have : below n v.name [p] = [] := by
                    unfold below
                    rw [List.filterMap_cons, if_neg (fun h => hp4 h.1)]
                    rfl
                  rw [this, List.append_nil]
                clear HTK HWC hp4 P1
                go_quiet (fail)
                go_wp2
                go_roundw
                case rel => exact ⟨i + 1, l, _, _, HI.out, by go_num, rfl, by omega, below_drewN HB.out _, HSN.out.on (below_drewN (Below.refl _ _) _), by show _ = _; rw [HAD.out, HLB.out]⟩
                case measure => simp [intOf]; have := HI.out; omega
            · have hie : i = ps.length := by omega
              subst hie
              have i2 : ¬ ((ps.length : Nat) : Int) < (ps.length : Int) := by omega
              have HLB2 : Hid (l.map (·.1) = below n v.name ps) := by
                have h := HLB.out
                rw [List.take_length] at h
                exact h
              clear HLB hil hi
              have HBW : Hid (Below w.heap.size w wr) := HW0.out.1.trans (HB.out.mono HW0.out.1.size)
              have hvb := (HB.out.block w.heap.size (by have := HW0.out.2.1; omega)).trans HW0.out.2.2
              have x3 : wr.cell? ⟨w.heap.size, 3, none⟩ = some (.slice va v.kids.length vc) := heap_cell hvb rfl
              clear hvb
              have HSN1 : Hid (Suit k (v.kids[n]'HNL.out) (below n v.name ps) → ∀ m (_ : m < n + 1) (h2 : m < v.kids.length), Suit k v.kids[m] (below m v.name ps)) := fun hs m hm h2 => by
                by_cases e : m = n
                · subst e; exact hs
                · exact HSU.out m (by omega) h2
              by_cases hl0 : l.length = 0
              · have HS0 : Hid (Suit k (v.kids[n]'HNL.out) (below n v.name ps)) := by
                  show Suit _ _ _
                  rw [← HLB2.out, List.eq_nil_of_length_eq_zero hl0]
                  exact suit_nil _ _ _
                rw [hl0]
                clear HSN HLB2 hli hl0
                go_wp2
                go_roundw
                case rel => exact ⟨n + 1, HNL.out, by go_num, HB.out, HSN1.out HS0.out⟩
                case measure => simp [intOf]; have := HNL.out; omega
              · have hk := Keeps.of HBW.out HS.out
                obtain ⟨_, _, he2, hrow2⟩ := RowP.open HVK.out.1
                injection he2 with he2 hx2 hcc2
                subst he2 hcc2
                have hnl := HNL.out
                obtain ⟨g2, o2, rfl, hc2, hr2⟩ := hrow2 (fun e => by rw [e] at hnl; simp at hnl)
                obtain ⟨s0, q0, q1, q2, l1, l2, ad2, cp2, q3, P2⟩ := ((hr2 n hnl).on hk).open
                have hup : ∀ b, S b → b < wr.heap.size := fun b hb => by have := HS.out b hb; have := HBW.out.size; omega
                have CS := HIH.out n hnl (l.map (·.1)) (by rw [HLB2.out]; exact Nat.le_trans (List.length_filterMap_le _ _) hps) (fun y hy => by
                  rw [HLB2.out] at hy
                  obtain ⟨z, hz, hz4, _, hzk⟩ := mem_below.1 hy
                  exact ((Well_iff k z).1 (HWL.out z hz) hz4).2 y (List.mem_of_getElem? hzk)) wr (fun y => y < wr.heap.size) fa fc (.slice ba l.length bc) _ (fun b hb => hb) ((HF.out.on hk).up hup) (HSN.out.pats HBW.out HS.out) ⟨ad2, cp2, rfl, l1, l2, P2.up hup⟩
                rw [HLB2.out] at CS
                have hl1 : (0 : Int) < (l.length : Int) := by omega
                have hl2 : 0 < l.length := by omega
                clear hk hx2 hrow2 hr2 s0 l1 l2 P2 hup HSN HLB2 hl0 hc2
                have HSN2 : Hid (Suit k (v.kids[n]'HNL.out) (below n v.name ps) → ∀ m (_ : m < n + 1) (h2 : m < v.kids.length), Suit k v.kids[m] (below m v.name ps)) := HSN1.out
                clear HSN1
                go_upto_region 24 with (first | (go_at_call 9; (with_reducible refine Calls.mono CS ?_); rintro e' w3 ⟨hb3, b3, rfl, hs3⟩; have HB3 : Hid (Below wr.heap.size wr w3 ∧ (b3 = true → Suit k (v.kids[n]'HNL.out) (below n v.name ps))) := ⟨hb3, hs3⟩; clear hb3 hs3))
                cases b3 with
                | false =>
                  go_wp2
                  refine bodyPost_ret (v := .bool false) (by simp [results, Try.results9, go_sem]) rfl ?_
                  exact ⟨HBW.out.trans (HB3.out.1.mono HBW.out.size), false, rfl, fun h => by cases h⟩
                | true =>
                  have HB4 : Hid (Below W0.heap.size W0 w3 ∧ Suit k (v.kids[n]'HNL.out) (below n v.name ps)) := ⟨HB.out.trans (HB3.out.1.mono HB.out.size), HB3.out.2 rfl⟩
                  clear HB3
                  go_wp2
                  go_roundw
                  case rel => exact ⟨n + 1, HNL.out, by go_num, HB4.out.1, HSN2.out HB4.out.2⟩
                  case measure => simp [intOf]; have := HNL.out; omega
        · have hne : n = v.kids.length := by omega
          subst hne
          have n2 : ¬ ((v.kids.length : Nat) : Int) < (v.kids.length : Int) := by omega
          have HST : Hid (Suit k v ps) := (Suit_iff k v ps).2 ⟨fun p hp => (HMA.out p hp).1, fun p hp => (HMA.out p hp).2, fun m hm => HSU.out m hm hm⟩
          have HBW : Hid (Below w.heap.size w wr) := HW0.out.1.trans (HB.out.mono HW0.out.1.size)
          clear hnl hn HSU
          go_wp2
          refine bodyPost_ret (v := .bool true) (by simp [results, Try.results9, go_sem]) rfl ?_
          exact ⟨HBW.out, true, rfl, fun _ => HST.out⟩
theorem suits_any {fs : List Fam} {k : Kn} (hkn : knowF 0 [] fs = some k) (hfl : fs.length ≤ 10000) (hfw : ∀ f ∈ fs, f.1.length < 140737488355328 ∧ f.2.length < 140737488355328) : ∀ (D : Nat) (v : Pt), v.1 < D → ∀ (ps : List Pt), ps.length ≤ 200 → (∀ p ∈ ps, Well k p) → SuitsC fs k v ps
  | 0, _, h => absurd h (Nat.not_lt_zero _)
  | D + 1, v, h => fun ps hps hw => suits_step hkn hfl hfw v ps hps hw fun n hn qs hq hwq => suits_any hkn hfl hfw D v.kids[n] (by have := Pt.kids_lt (List.getElem_mem hn); omega) qs hq hwq
end Go.Proofs.Ytpdmkhnonbbhnaa
