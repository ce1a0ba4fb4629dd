/- toFail: the walk. -/
import Derived.Test.YtpdmkhnonbbhnaaMnx
import Derived.Deep.RegionHeld3
namespace Go.Proofs.Ytpdmkhnonbbhnaa
open Go.RowKit Go.Maps

/-- What toFail asks of a tree: cases of names have the number 0; what is left has a case beside it, and a constructor that has none. -/
def Tok (k : Kn) (fs : List Fam) : (f : Nat) → Tr f → Prop
  | 0, _ => True
  | f + 1, t => (∀ c ∈ t.2.1, c.1.1 ≠ [] → c.1.2 = 0) ∧ (t.2.2 ≠ [] → ∃ h : 0 < t.2.1.length, t.2.1[0].1.1 ≠ [] → ∃ hin : (looks k t.2.1[0].1.1).1 < fs.length, gapP k t.2.1[0].1.1 (t.2.1.map (·.1)) 0 < fs[(looks k t.2.1[0].1.1).1].1.length) ∧ (∀ c ∈ t.2.1, Tok k fs f c.2) ∧ ∀ e ∈ t.2.2, Tok k fs f e
theorem Tok.zero (k : Kn) (fs : List Fam) : ∀ f, Tok k fs f (trZero f)
  | 0 => trivial
  | _ + 1 => ⟨fun c h => by simp [trZero] at h, fun h => by simp [trZero] at h, fun c h => by simp [trZero] at h, fun c h => by simp [trZero] at h⟩
/-- A case in memory, with its tree. -/
def CaseT (w : World) (S : Nat → Prop) (f : Nat) (g o : Nat) (c : Cs × Tr f) : Prop := S g ∧ w.cell? ⟨g, o, none⟩ = some (.string ⟨c.1.1.toArray⟩) ∧ w.cell? ⟨g, o + 1, none⟩ = some (.int .i64 c.1.2) ∧ c.1.1.length < 140737488355328 ∧ ∃ v0 v1 v2 v3 v4, w.cell? ⟨g, o + 2, none⟩ = some v0 ∧ w.cell? ⟨g, o + 3, none⟩ = some v1 ∧ w.cell? ⟨g, o + 4, none⟩ = some v2 ∧ w.cell? ⟨g, o + 5, none⟩ = some v3 ∧ w.cell? ⟨g, o + 6, none⟩ = some v4 ∧ TrV w S f (.agg #[v0, v1, v2, v3, v4]) c.2
theorem CaseT.on {w w' : World} {S : Nat → Prop} {f g o : Nat} {c : Cs × Tr f} (h : CaseT w S f g o c) (hb : Keeps S w w') : CaseT w' S f g o c := by
  obtain ⟨k0, k1, k2, k3, v0, v1, v2, v3, v4, c0, c1, c2, c3, c4, ht⟩ := h
  exact ⟨k0, (hb.cell (p := ⟨g, o, none⟩) k0).trans k1, (hb.cell (p := ⟨g, o + 1, none⟩) k0).trans k2, k3, v0, v1, v2, v3, v4, (hb.cell (p := ⟨g, o + 2, none⟩) k0).trans c0, (hb.cell (p := ⟨g, o + 3, none⟩) k0).trans c1, (hb.cell (p := ⟨g, o + 4, none⟩) k0).trans c2, (hb.cell (p := ⟨g, o + 5, none⟩) k0).trans c3, (hb.cell (p := ⟨g, o + 6, none⟩) k0).trans c4, TrV.below hb (fun _ h => h) f _ _ ht⟩
theorem CaseT.row {w : World} {S : Nat → Prop} {f g o : Nat} {c : Cs × Tr f} (h : CaseT w S f g o c) : CaseR w S g o c.1 := by
  obtain ⟨k0, k1, k2, k3, v0, v1, v2, v3, v4, c0, c1, c2, c3, c4, ht⟩ := h
  obtain ⟨a, b, pa, pl, pc, ca, cl, cc, ea, el, ec, rfl, rfl, rfl, rfl, rfl⟩ := ht.vals
  exact ⟨k0, k1, k2, k3, a, b, pa, pl, pc, ca, cl, cc, ea, el, ec, c0, c1, c2, c3, c4⟩
theorem other_any {w : World} {S : Nat → Prop} {b f : Nat} {k : Kn} {fs : List Fam} (fa : Option Addr) (fc g o cc : Nat) (l1 : List (Cs × Tr f)) (hS : ∀ b, S b → b < w.heap.size) (hM : MapK w b k) (hK : KnOk k fs) (hF : Fams w S (.slice fa fs.length fc) fs) (hcc : l1.length ≤ cc) (hrow : ∀ j (h : j < l1.length), CaseT w S f g (o + j * 7) l1[j]) (hcl : l1.length ≤ 200)
    (hgap : ∃ h : 0 < l1.length, l1[0].1.1 ≠ [] → ∃ hin : (looks k l1[0].1.1).1 < fs.length, gapP k l1[0].1.1 (l1.map (·.1)) 0 < fs[(looks k l1[0].1.1).1].1.length) :
    Calls Try.prog 56 #[.agg #[.slice fa fs.length fc, .map (some b)], .slice (some ⟨g, o, none⟩) l1.length cc] w fun r w' => Below w.heap.size w w' ∧ ∃ v, r = .returned v ∧ BareV w' w.heap.size (otherThan k fs (l1.map (·.1))) v := by
  obtain ⟨h0, hg⟩ := hgap
  have hr : ∀ j (h : j < (l1.map (·.1)).length), CaseR w S g (o + j * 7) (l1.map (·.1))[j] := fun j h => by
    rw [List.getElem_map]
    exact (hrow j (by simpa using h)).row
  have e0 : (l1.map (·.1))[0]'(by simpa using h0) = l1[0].1 := List.getElem_map _
  by_cases hc : l1[0].1.1 = []
  · have := other_num (w := w) (S := S) (b := b) (k := k) fa fs fc g o cc (l1.map (·.1)) hS hM (by simpa using h0) (by simpa using hcc) (by simpa using hcl) hr (by rw [e0]; exact hc) (by rw [looks_nil hK]; decide)
    rw [List.length_map] at this
    exact this
  · obtain ⟨hin, hgp⟩ := hg hc
    have := other_con (w := w) (S := S) (b := b) (k := k) fa fs fc g o cc (l1.map (·.1)) hS hM (by simpa using h0) (by simpa using hcc) (by simpa using hcl) hr (by rw [e0]; exact hc) hK hF (by rw [e0]; exact hin) (by simp only [e0]; exact hgp)
    rw [List.length_map] at this
    exact this
theorem toFail_len {k : Kn} {fs : List Fam} : ∀ (f : Nat) (t : Tr f) (y : List Stp), toFail k fs f t = some y → y.length ≤ f
  | 0, _, _, h => by cases h
  | f + 1, t, y, h => by
    rw [toFail_eq] at h
    unfold failP at h
    by_cases h1 : t.1.1 = 1
    · rw [if_pos h1] at h
      obtain rfl := Option.some.inj h
      simp
    · rw [if_neg h1] at h
      split at h
      · rename_i z hz
        obtain rfl := Option.some.inj h
        obtain ⟨c, _, hc⟩ := List.exists_of_findSome?_eq_some hz
        cases hr : toFail k fs f c.2 with
        | none => rw [hr] at hc; cases hc
        | some u =>
          rw [hr] at hc
          obtain rfl := Option.some.inj hc
          have := toFail_len f c.2 u hr
          simp
          omega
      · obtain ⟨c, _, hc⟩ := List.exists_of_findSome?_eq_some h
        cases hr : toFail k fs f c with
        | none => rw [hr] at hc; cases hc
        | some u =>
          rw [hr] at hc
          obtain rfl := Option.some.inj hc
          have := toFail_len f c u hr
          simp
          omega
theorem fam_name {w : World} {S : Nat → Prop} {v : Value} {fs : List Fam} (h : Fams w S v fs) : ∀ f ∈ fs, ∀ n ∈ f.1, n.length < 140737488355328 := by
  intro f hf n hn
  rcases h with ⟨h0, _⟩ | ⟨g, o, cap, _, _, _, h⟩
  · rw [h0] at hf; simp at hf
  · obtain ⟨i, hi, rfl⟩ := List.getElem_of_mem hf
    obtain ⟨_, ⟨ad, c, _, hs⟩, _⟩ := h i hi
    rcases hs with ⟨h0, _⟩ | ⟨g2, o2, c2, _, _, _, h2⟩
    · rw [h0] at hn; simp at hn
    · obtain ⟨j, hj, rfl⟩ := List.getElem_of_mem hn
      exact (h2 j hj).2.2
theorem patOf_name {k : Kn} {c : Cs} (h : c.1.length < 140737488355328) : (patOf k c).1.2.1.length < 140737488355328 := by
  unfold patOf
  split
  · simp
  · exact h
theorem other_name {w : World} {S : Nat → Prop} {v : Value} {k : Kn} {fs : List Fam} (h : Fams w S v fs) (cs : List Cs) : (otherThan k fs cs).1.2.1.length < 140737488355328 := by
  cases cs with
  | nil => simp [otherThan]
  | cons c r =>
    unfold otherThan
    simp only
    split
    · exact patOf_name (by simp)
    · refine patOf_name ?_
      show List.length (match fs[(looks k c.1).1]? with | some f => f.1.getD (gapP k c.1 (c :: r) 0) [] | none => []) < _
      cases hf : fs[(looks k c.1).1]? with
      | none => simp
      | some f =>
        have hm : f ∈ fs := List.mem_of_getElem? hf
        show (f.1.getD (gapP k c.1 (c :: r) 0) []).length < _
        rw [List.getD_eq_getElem?_getD]
        cases hg : f.1[gapP k c.1 (c :: r) 0]? with
        | none => simp
        | some n => exact fam_name h f hm n (List.mem_of_getElem? hg)
def FailC (k : Kn) (fs : List Fam) (f : Nat) (t : Tr f) : Prop := ∀ (w : World) (S : Nat → Prop) (x : Value) (fa : Option Addr) (fc b : Nat), (∀ b, S b → b < w.heap.size) → MapK w b k → Fams w S (.slice fa fs.length fc) fs → TrV w S f x t →
  Calls Try.prog 39 #[.agg #[.slice fa fs.length fc, .map (some b)], x] w (FailPost S (toFail k fs f t) w)
theorem Try.info123 : (Try.prog.info? 123).map (fun i => (i.zero, i.size, i.bytes)) = some (some (.agg #[.slice none 0 0, .int .i64 0, .string ⟨#[]⟩, .int .i64 0, .slice none 0 0]), 5, 80) := by kernel_rfl
set_option maxHeartbeats 8000000 in
set_option maxRecDepth 10000 in
theorem fail_step {k : Kn} {fs : List Fam} {f : Nat} (t : Tr (f + 1)) (hK : KnOk k fs) (hle : f ≤ 5001) (hSm : t.2.1.length ≤ 200 ∧ t.2.2.length ≤ 1) (hTk : Tok k fs (f + 1) t) (hC : ∀ c, (c ∈ t.2.1.map (·.2) ∨ c ∈ t.2.2) → FailC k fs f c) : FailC k fs (f + 1) t := by
  intro w S x fa fc b hS hM hF hx
  obtain ⟨pa, pc, ca, cc, ea, ec, rfl, hN, hCs, hEs⟩ := hx
  obtain ⟨_, _, he1, hrow1⟩ := RowP.open hCs
  injection he1 with he1 hx1 hcc1
  subst he1 hcc1
  obtain ⟨_, _, he2, hrow2⟩ := RowP.open hEs
  injection he2 with he2 hx2 hcc2
  subst he2 hcc2
  clear hx1 hx2
  rw [toFail_eq]
  have HC1 : Hid (∀ i (h : i < t.2.1.length), FailC k fs f t.2.1[i].2) := fun i h => hC _ (.inl (List.mem_map.2 ⟨_, List.getElem_mem h, rfl⟩))
  have HC2 : Hid (∀ i (h : i < t.2.2.length), FailC k fs f t.2.2[i]) := fun i h => hC _ (.inr (List.getElem_mem h))
  obtain ⟨hs1, hs2⟩ := hSm
  obtain ⟨htk1, htk2, _, _⟩ := hTk
  generalize t.1.1 = t0 at *
  generalize t.1.2.1 = t1 at *
  generalize t.1.2.2 = path at *
  clear hCs hEs hC
  generalize t.2.1 = l1 at *
  generalize t.2.2 = l2 at *
  have HR1 : Hid (l1 ≠ [] → ∃ g o, ca = some ⟨g, o, none⟩ ∧ l1.length ≤ cc ∧ ∀ j (h : j < l1.length), CaseT w S f g (o + j * 7) l1[j]) := hrow1
  have HR2 : Hid (l2 ≠ [] → ∃ g o, ea = some ⟨g, o, none⟩ ∧ l2.length ≤ ec ∧ ∀ j (h : j < l2.length), S g ∧ ∃ v0 v1 v2 v3 v4, w.cell? ⟨g, o + j * 5, none⟩ = some v0 ∧ w.cell? ⟨g, o + j * 5 + 1, none⟩ = some v1 ∧ w.cell? ⟨g, o + j * 5 + 2, none⟩ = some v2 ∧ w.cell? ⟨g, o + j * 5 + 3, none⟩ = some v3 ∧ w.cell? ⟨g, o + j * 5 + 4, none⟩ = some v4 ∧ TrV w S f (.agg #[v0, v1, v2, v3, v4]) l2[j]) := hrow2
  have HS : Hid (∀ b, S b → b < w.heap.size) := hS
  have HMF : Hid (MapK w b k ∧ Fams w S (.slice fa fs.length fc) fs ∧ KnOk k fs) := ⟨hM, hF, hK⟩
  have HNP : Hid (Nats w S (.slice pa path.length pc) path) := hN
  have HTK : Hid ((∀ c ∈ l1, c.1.1 ≠ [] → c.1.2 = 0) ∧ (l2 ≠ [] → ∃ h : 0 < l1.length, l1[0].1.1 ≠ [] → ∃ hin : (looks k l1[0].1.1).1 < fs.length, gapP k l1[0].1.1 (l1.map (·.1)) 0 < fs[(looks k l1[0].1.1).1].1.length)) := ⟨htk1, htk2⟩
  have hW : ∃ W, W = (w.alloc (Obj.cells #[.slice fa fs.length fc, .map (some b)] 58)).alloc (Obj.cells #[.int .i64 t0, .int .i64 t1, .slice pa path.length pc, .slice ca l1.length cc, .slice ea l2.length ec] 32) ∧ Below w.heap.size w W ∧ W.heap.size = w.heap.size + 2 ∧ W.heap[w.heap.size]? = some (.cells #[.slice fa fs.length fc, .map (some b)] 58 (0, 0)) ∧ W.heap[w.heap.size + 1]? = some (.cells #[.int .i64 t0, .int .i64 t1, .slice pa path.length pc, .slice ca l1.length cc, .slice ea l2.length ec] 32 (0, 0)) := by
    refine ⟨_, rfl, ((Below.refl _ _).alloc (Nat.le_refl _) _).alloc (by simp) _, by simp, ?_, ?_⟩
    · rw [Below.heap_alloc _ _ _ (by simp)]
      exact new_block w _
    · have := new_block (w.alloc (Obj.cells #[.slice fa fs.length fc, .map (some b)] 58)) (Obj.cells #[.int .i64 t0, .int .i64 t1, .slice pa path.length pc, .slice ca l1.length cc, .slice ea l2.length ec] 32)
      simpa using this
  obtain ⟨W, hW, hbW, hsW, hkW, htW⟩ := hW
  have HW : Hid (Below w.heap.size w W ∧ W.heap.size = w.heap.size + 2 ∧ W.heap[w.heap.size]? = some (.cells #[.slice fa fs.length fc, .map (some b)] 58 (0, 0)) ∧ W.heap[w.heap.size + 1]? = some (.cells #[.int .i64 t0, .int .i64 t1, .slice pa path.length pc, .slice ca l1.length cc, .slice ea l2.length ec] 32 (0, 0))) := ⟨hbW, hsW, hkW, htW⟩
  have d0 := heap_cell' (i := 0) htW rfl
  have d3 := heap_cell' (i := 3) htW rfl
  obtain ⟨i0, hi0, hz0, hz1, hz2⟩ := info_parts Try.info123
  clear hrow1 hrow2 hS hM hF hK hN htk1 htk2 hbW hsW hkW htW
  generalize hpl : path.length = pl at *
  have HPL : Hid (path.length = pl) := hpl
  clear hpl
  by_cases h1 : t0 = 1
  · subst h1
    go_enter Try.func39, Try.ntmps39
    go_upto_region 1 with fail
    rw [← hW]
    clear hW
    go_wp2
    refine bodyPost_ret (v := .tuple #[.slice none 0 0, .bool true]) (by simp [results, Try.results39, go_sem]) rfl ?_
    exact ⟨HW.out.1, .inr ⟨[], _, [], by unfold failP; rw [if_pos rfl], rfl, rfl, WayAt.nil _ _ _⟩⟩
  · have HT0 : Hid (t0 ≠ 1) := h1
    have ht0 : (t0 == 1) = false := beq_eq_false_iff_ne.2 h1
    clear h1
    go_enter Try.func39, Try.ntmps39
    go_upto_region 1 with fail
    rw [← hW]
    clear hW
    go_wp2
    clear d0 d3 ht0
    go_loopw [20] (fun iv wr => ∃ i : Nat, i ≤ l1.length ∧ iv = .int .i64 i ∧ Hid (Below W.heap.size W wr ∧ ∀ j (hj : j < l1.length), j < i → toFail k fs f l1[j].2 = none)) (fun iv _ => l1.length - (intOf iv).toNat)
    case atStart => exact ⟨0, by omega, by go_num, Below.refl _ _, fun j _ h => by omega⟩
    case round =>
      obtain ⟨i, hi, rfl, HT⟩ := hrel
      have HBw : Hid (Below w.heap.size w wr) := HW.out.1.trans (HT.out.1.mono (by have := HW.out.2.1; omega))
      by_cases hil : i < l1.length
      · obtain ⟨g, o, rfl, hc, hr⟩ := HR1.out (fun e => by rw [e] at hil; simp at hil)
        have HCR : Hid (CaseT w S f g (o + i * 7) l1[i]) := hr i hil
        obtain ⟨s0, q0, q1, hnl, v0, v1, v2, v3, v4, q2, q3, q4, q5, q6, ht⟩ := hr i hil
        obtain ⟨a, b', pa', pl', pc', ca', cl', cc', ea', el', ec', rfl, rfl, rfl, rfl, rfl⟩ := ht.vals
        have hk := Keeps.of HBw.out HS.out
        have q0 := (hk.cell (p := ⟨g, o + i * 7, none⟩) s0).trans q0
        have q1 := (hk.cell (p := ⟨g, o + i * 7 + 1, none⟩) s0).trans q1
        have q2 := (hk.cell (p := ⟨g, o + i * 7 + 2, none⟩) s0).trans q2
        have q3 := (hk.cell (p := ⟨g, o + i * 7 + 3, none⟩) s0).trans q3
        have q4 := (hk.cell (p := ⟨g, o + i * 7 + 4, none⟩) s0).trans q4
        have q5 := (hk.cell (p := ⟨g, o + i * 7 + 5, none⟩) s0).trans q5
        have q6 := (hk.cell (p := ⟨g, o + i * 7 + 6, none⟩) s0).trans q6
        have hW1 : ∃ W1, W1 = wr.alloc (Obj.cells #[.string ⟨l1[i].1.1.toArray⟩, .int .i64 l1[i].1.2, .int .i64 a, .int .i64 b', .slice pa' pl' pc', .slice ca' cl' cc', .slice ea' el' ec'] 53) ∧ Below wr.heap.size wr W1 ∧ W1.heap.size = wr.heap.size + 1 ∧ W1.heap[wr.heap.size]? = some (.cells #[.string ⟨l1[i].1.1.toArray⟩, .int .i64 l1[i].1.2, .int .i64 a, .int .i64 b', .slice pa' pl' pc', .slice ca' cl' cc', .slice ea' el' ec'] 53 (0, 0)) := ⟨_, rfl, (Below.refl _ _).alloc (Nat.le_refl _) _, by simp, new_block' wr _⟩
        obtain ⟨W1, hW1, hb1, hsz1, hcb⟩ := hW1
        have x2 := heap_cell' (i := 2) hcb rfl
        have x3 := heap_cell' (i := 3) hcb rfl
        have x4 := heap_cell' (i := 4) hcb rfl
        have x5 := heap_cell' (i := 5) hcb rfl
        have x6 := heap_cell' (i := 6) hcb rfl
        have hbw1 : Below w.heap.size w W1 := HBw.out.trans (hb1.mono HBw.out.size)
        have hBW1 : Below W.heap.size W W1 := HT.out.1.trans (hb1.mono HT.out.1.size)
        have hk1 : Keeps S w W1 := Keeps.of hbw1 HS.out
        have CN := HC1.out i hil W1 S _ fa fc b (fun y hy => by have := HS.out y hy; have := hbw1.size; omega) (HMF.out.1.on (hbw1.block b (Mv.lt HMF.out.1))) (HMF.out.2.1.on hk1) (TrV.below hk1 (fun _ h => h) f _ _ ht)
        have hkb := (hBW1.block w.heap.size (by have := HW.out.2.1; omega)).trans HW.out.2.2.1
        have htb := (hBW1.block (w.heap.size + 1) (by have := HW.out.2.1; omega)).trans HW.out.2.2.2
        have k0 := heap_cell' (i := 0) hkb rfl
        have k1 := heap_cell' (i := 1) hkb rfl
        have HB1 : Hid (Below w.heap.size w W1 ∧ Below W.heap.size W W1 ∧ W1.heap.size = wr.heap.size + 1 ∧ w.heap.size + 2 ≤ wr.heap.size ∧ W1.heap[w.heap.size]? = some (.cells #[.slice fa fs.length fc, .map (some b)] 58 (0, 0)) ∧ W1.heap[w.heap.size + 1]? = some (.cells #[.int .i64 t0, .int .i64 t1, .slice pa pl pc, .slice (some ⟨g, o, none⟩) l1.length cc, .slice ea l2.length ec] 32 (0, 0)) ∧ W1.heap[wr.heap.size]? = some (.cells #[.string ⟨l1[i].1.1.toArray⟩, .int .i64 l1[i].1.2, .int .i64 a, .int .i64 b', .slice pa' pl' pc', .slice ca' cl' cc', .slice ea' el' ec'] 53 (0, 0))) := ⟨hbw1, hBW1, hsz1, by have := HT.out.1.size; have := HW.out.2.1; omega, hkb, htb, hcb⟩
        have i1 : (0 : Int) ≤ (i : Int) := by omega
        have i2 : (i : Int) < (l1.length : Int) := by omega
        cases hres : toFail k fs f l1[i].2 with
        | none =>
          rw [hres] at CN
          have CN2 : Calls Try.prog 39 #[.agg #[.slice fa fs.length fc, .map (some b)], .agg #[.int .i64 a, .int .i64 b', .slice pa' pl' pc', .slice ca' cl' cc', .slice ea' el' ec']] W1 fun r w' => r = .returned (.tuple #[.slice none 0 0, .bool false]) ∧ Below W1.heap.size W1 w' := Calls.mono CN fun r w' h => by
            obtain ⟨hb, ⟨_, h2⟩ | ⟨y, v, l, h2, _⟩⟩ := h
            · exact ⟨h2, hb⟩
            · cases h2
          have HN : Hid (∀ j (hj : j < l1.length), j < i + 1 → toFail k fs f l1[j].2 = none) := fun j hj hji => by
            by_cases e : j = i
            · subst e; exact hres
            · exact HT.out.2 j hj (by omega)
          clear CN hk hk1 hr ht hb1 hsz1 hcb hbw1 hBW1 hkb htb hres
          generalize l1[i].1.1 = c0 at *
          generalize l1[i].1.2 = c1 at *
          go_upto_region 6 with fail
          rw [← hW1]
          clear hW1 q0 q1 q2 q3 q4 q5 q6
          go_wp2_with (first | (go_at_call 39; (with_reducible refine Calls.mono CN2 ?_); rintro e' w2 ⟨rfl, hb2⟩))
          exact ⟨⟨i + 1, hil, by go_num, HB1.out.2.1.trans (hb2.mono HB1.out.2.1.size), HN.out⟩, by simp [intOf]; omega⟩
        | some y =>
          rw [hres] at CN
          have hyl := toFail_len f _ y hres
          have CN2 : Calls Try.prog 39 #[.agg #[.slice fa fs.length fc, .map (some b)], .agg #[.int .i64 a, .int .i64 b', .slice pa' pl' pc', .slice ca' cl' cc', .slice ea' el' ec']] W1 fun r w' => ∃ v l, r = .returned (.tuple #[v, .bool true]) ∧ Below W1.heap.size W1 w' ∧ l.map (·.1) = y ∧ WayAt w' S W1.heap.size v l := Calls.mono CN fun r w' h => by
            obtain ⟨hb, ⟨h2, _⟩ | ⟨y', v, l, h2, h3, h4, h5⟩⟩ := h
            · cases h2
            · obtain rfl := Option.some.inj h2
              exact ⟨v, l, h3, hb, h4, h5⟩
          have HRS : Hid (failP k fs f t0 path l1 l2 = some (y ++ [(path, patOf k l1[i].1)])) := failP_case HT0.out i hil HT.out.2 hres
          have HPA : Hid (∀ w2, Below W1.heap.size W1 w2 → (w2.cell? ⟨w.heap.size, 0, none⟩ = some (.slice fa fs.length fc) ∧ w2.cell? ⟨w.heap.size, 1, none⟩ = some (.map (some b)) ∧ w2.cell? ⟨w.heap.size + 1, 2, none⟩ = some (.slice pa pl pc) ∧ w2.cell? ⟨wr.heap.size, 0, none⟩ = some (.string ⟨l1[i].1.1.toArray⟩) ∧ w2.cell? ⟨wr.heap.size, 1, none⟩ = some (.int .i64 l1[i].1.2)) ∧
              Calls Try.prog 55 #[.agg #[.slice fa fs.length fc, .map (some b)], .string ⟨l1[i].1.1.toArray⟩, .int .i64 l1[i].1.2] w2 fun r w3 => ∃ ad cap, r = .returned (.agg #[.int .i64 (patOf k l1[i].1).1.1, .string ⟨(patOf k l1[i].1).1.2.1.toArray⟩, .int .i64 (patOf k l1[i].1).1.2.2, .slice ad (patOf k l1[i].1).2 cap]) ∧ Below w2.heap.size w2 w3 ∧ ((ad = none ∧ (patOf k l1[i].1).2 = 0 ∧ cap = 0) ∨ ∃ B, ad = some ⟨B, 0, none⟩ ∧ cap = (patOf k l1[i].1).2 ∧ w2.heap.size ≤ B ∧ B < w3.heap.size ∧ Wild w3 B (patOf k l1[i].1).2)) := fun w2 hb2 => by
            have hB := HB1.out
            have e1 := (hb2.block w.heap.size (by omega)).trans hB.2.2.2.2.1
            have e2 := (hb2.block (w.heap.size + 1) (by omega)).trans hB.2.2.2.2.2.1
            have e3 := (hb2.block wr.heap.size (by omega)).trans hB.2.2.2.2.2.2
            refine ⟨⟨heap_cell' e1 rfl, heap_cell' e1 rfl, heap_cell' e2 rfl, heap_cell' e3 rfl, heap_cell' e3 rfl⟩, ?_⟩
            have hbw := hB.1.trans (hb2.mono hB.1.size)
            refine Calls.mono (patOf_any (w := w2) fa fs.length fc l1[i].1 (HMF.out.1.on (hbw.block b (Mv.lt HMF.out.1))) hnl (looks_fields HMF.out.2.2 _) (fun h => HTK.out.1 _ (List.getElem_mem hil) h)) ?_
            rintro r w3 ⟨hb3, v, rfl, ad, cap, rfl, h⟩
            exact ⟨ad, cap, rfl, hb3, h⟩
          have HNM : Hid ((patOf k l1[i].1).1.2.1.length < 140737488355328) := by
            show _ < _
            unfold patOf
            split
            · simp
            · exact hnl
          clear CN hk hk1 hr ht hb1 hsz1 hcb hbw1 hBW1 hkb htb hres hnl
          generalize patOf k l1[i].1 = q at *
          generalize l1[i].1.1 = c0 at *
          generalize l1[i].1.2 = c1 at *
          go_upto_region 6 with fail
          rw [← hW1]
          clear hW1 q0 q1 q2 q3 q4 q5 q6
          go_upto_region 8 with (first | (go_at_call 39; (with_reducible refine Calls.mono CN2 ?_); rintro e' w2 ⟨v2, l, rfl, hb2, hl, hwa⟩))
          obtain ⟨⟨k0, k1, d2, c0', c1'⟩, _⟩ := HPA.out w2 hb2
          have CP := (HPA.out w2.drew hb2.drew).2
          have HWA : Hid (WayAt w2 S W1.heap.size v2 l ∧ Below W1.heap.size W1 w2 ∧ l.map (·.1) = y) := ⟨hwa, hb2, hl⟩
          have hll : l.length ≤ 5001 := by
            have := congrArg List.length hl
            rw [List.length_map] at this
            omega
          have HO3 : Hid (∀ w3, Below w2.drew.heap.size w2.drew w3 → w3.ownsRow W1.heap.size 123 5 v2 l.length (l.flatMap rsC) ∧ W1.heap.size ≤ w3.heap.size ∧ w3.cell? ⟨w.heap.size + 1, 2, none⟩ = some (.slice pa pl pc)) := fun w3 hb3 => by
            have hb : Below w2.heap.size w2 w3 := ⟨hb3.os, hb3.tape, hb3.output, hb3.size, hb3.block⟩
            have h1 := HWA.out
            refine ⟨(h1.1.on (fun y hy => by have := HS.out y hy; have := HB1.out.1.size; have := h1.2.1.size; omega) hb).own, Nat.le_trans h1.2.1.size hb.size, ?_⟩
            exact (HPA.out w3 (h1.2.1.trans (hb.mono h1.2.1.size))).1.2.2.1
          clear hl hwa x2 x3 x4 x5 x6 CN2 HC1 HC2 HR2 HR1 HTK HT HCR q0 q1 q2 q3 q4 q5 q6 s0 hc hi i1 i2 hs1 hs2 hyl hle HT0
          have HPC : Hid (∀ w', Below W1.heap.size W1 w' → (w'.cell? ⟨w.heap.size, 0, none⟩ = some (.slice fa fs.length fc) ∧ w'.cell? ⟨w.heap.size, 1, none⟩ = some (.map (some b))) ∧ w'.cell? ⟨w.heap.size + 1, 2, none⟩ = some (.slice pa pl pc) ∧ w'.cell? ⟨wr.heap.size, 0, none⟩ = some (.string ⟨c0.toArray⟩) ∧ w'.cell? ⟨wr.heap.size, 1, none⟩ = some (.int .i64 c1)) := fun w' hb => by
            have := (HPA.out w' hb).1
            exact ⟨⟨this.1, this.2.1⟩, this.2.2⟩
          have HBD : Hid (∀ w3, Below w2.drew.heap.size w2.drew w3 → Below W1.heap.size W1 w3) := fun w3 hb3 => by
            have h1 := HWA.out.2.1
            exact h1.trans (Below.mono (⟨hb3.os, hb3.tape, hb3.output, hb3.size, hb3.block⟩ : Below w2.heap.size w2 w3) h1.size)
          have hS2 := HPC.out w2.drew HWA.out.2.1.drew
          clear k0 k1 d2 c0' c1' hb2
          go_region_held3 (fun w' => (w'.cell? ⟨w.heap.size, 0, none⟩ = some (.slice fa fs.length fc) ∧ w'.cell? ⟨w.heap.size, 1, none⟩ = some (.map (some b))) ∧ w'.cell? ⟨w.heap.size + 1, 2, none⟩ = some (.slice pa pl pc) ∧ w'.cell? ⟨wr.heap.size, 0, none⟩ = some (.string ⟨c0.toArray⟩) ∧ w'.cell? ⟨wr.heap.size, 1, none⟩ = some (.int .i64 c1))
            (first | (with_reducible exact hS2) | (with_reducible exact hS3) | (with_reducible exact hS3A _) | (with_reducible exact hS7))
            (first
            | (go_at_call 55; (with_reducible refine Calls.mono CP ?_); rintro e' w3 ⟨ad3, cp3, rfl, hb3, hB3⟩; obtain ⟨own3, hs3, _⟩ := HO3.out w3 hb3; have hS3 := HPC.out w3 (HBD.out w3 hb3); have hS3A := fun o => HPC.out (w3.alloc o) ((HBD.out w3 hb3).alloc (HBD.out w3 hb3).size o))
            | (refine step_append_lies _ (by rfl) _ _ _ (by rfl) W1.heap.size 123 i0 _ 5 80 Try.underlying98 hi0 hz0 hz1 hz2 rfl (by omega) v2 l.length (l.flatMap rsC) (by rfl) (own3.alloc _) ⟨w3.heap.size, 0, none⟩ 1 1 [.slice pa pl pc, .int .i64 q.1.1, .string ⟨q.1.2.1.toArray⟩, .int .i64 q.1.2.2, .slice ad3 q.2 cp3] (by rfl) (by rfl) (World.news_of_block (cs := #[.slice pa pl pc, .int .i64 q.1.1, .string ⟨q.1.2.1.toArray⟩, .int .i64 q.1.2.2, .slice ad3 q.2 cp3]) (t := 123) (fr := (0, 0)) (new_block w3 _)) (by simp [Value.oneCell']) (by omega) (by unfold maxLen; omega) (by omega) (by simp; omega) (w3.heap.size + 1) (by simp) ?_; intro g7 cap7 w7 hown7 hgr7 hat7 hlt7; have hb7 := ((HBD.out w3 hb3).alloc (HBD.out w3 hb3).size _).grown hgr7 (by simp; omega) (fun y e => (own3.lt y e).1); have hS7 := HPC.out w7 hb7))
          go_wp2
          refine bodyPost_ret (v := .tuple #[.slice (some ⟨g7, 0, none⟩) (l.length + 1) cap7, .bool true]) (by simp [results, Try.results39, go_sem]) rfl ?_
          have hB1 := HB1.out
          have hpl := HPL.out
          have hwa := HWA.out
          have hb23 : Below w2.heap.size w2 w3 := ⟨hb3.os, hb3.tape, hb3.output, hb3.size, hb3.block⟩
          have hbw2 := hB1.1.trans (hwa.2.1.mono hB1.1.size)
          have hwa7 := hwa.1.snoc (x := ((path, q), (pa, pc), (ad3, cp3))) (fun y hy => by have := HS.out y hy; have := hB1.1.size; omega) hwa.2.1.size (hb23.alloc hb23.size _) (by have := HNP.out.on (Keeps.of hbw2 HS.out); rw [← hpl] at this; exact this) HNM.out (hB3.imp_right fun ⟨B, h1, h2, h3, h4, h5⟩ => ⟨B, h1, h2, h3, by simp; omega, h5.on (Below.heap_alloc _ _ _ h4)⟩) (by simpa [rsC, hpl] using hown7) hgr7 (v' := .slice (some ⟨g7, 0, none⟩) (l.length + 1) cap7) (hat7.imp (fun e => by show some g7 = _; exact e.symm) (fun e => by show some g7 = _; rw [e]; simp))
          exact ⟨hB1.1.trans (hb7.mono hB1.1.size), .inr ⟨_, _, _, HRS.out, rfl, by rw [List.map_append, hwa.2.2]; rfl, hwa7.mono hB1.1.size⟩⟩
      · obtain rfl : i = l1.length := by omega
        have HN1 : Hid (∀ j (hj : j < l1.length), toFail k fs f l1[j].2 = none) := fun j hj => HT.out.2 j hj hj
        have htb := (HT.out.1.block (w.heap.size + 1) (by have := HW.out.2.1; omega)).trans HW.out.2.2.2
        have d4 := heap_cell' (i := 4) htb rfl
        have HBW0 : Hid (Below W.heap.size W wr) := HT.out.1
        clear htb HT HC1
        go_wp2
        clear d4
        go_loopw [48] (fun iv wr2 => ∃ i : Nat, i ≤ l2.length ∧ iv = .int .i64 i ∧ Hid (Below W.heap.size W wr2 ∧ ∀ j (hj : j < l2.length), j < i → toFail k fs f l2[j] = none)) (fun iv _ => l2.length - (intOf iv).toNat)
        case atStart => exact ⟨0, by omega, by go_num, HBW0.out, fun j _ h => by omega⟩
        case round =>
          clear HBw HBW0
          obtain ⟨i, hi, rfl, HT⟩ := hrel
          have HBw : Hid (Below w.heap.size w wr) := HW.out.1.trans (HT.out.1.mono (by have := HW.out.2.1; omega))
          by_cases hil : i < l2.length
          · obtain ⟨g, o, rfl, hc, hr⟩ := HR2.out (fun e => by rw [e] at hil; simp at hil)
            obtain ⟨s0, v0, v1, v2, v3, v4, q2, q3, q4, q5, q6, ht⟩ := hr i hil
            obtain ⟨a, b', pa', pl', pc', ca', cl', cc', ea', el', ec', rfl, rfl, rfl, rfl, rfl⟩ := ht.vals
            have hk := Keeps.of HBw.out HS.out
            have q2 := (hk.cell (p := ⟨g, o + i * 5, none⟩) s0).trans q2
            have q3 := (hk.cell (p := ⟨g, o + i * 5 + 1, none⟩) s0).trans q3
            have q4 := (hk.cell (p := ⟨g, o + i * 5 + 2, none⟩) s0).trans q4
            have q5 := (hk.cell (p := ⟨g, o + i * 5 + 3, none⟩) s0).trans q5
            have q6 := (hk.cell (p := ⟨g, o + i * 5 + 4, none⟩) s0).trans q6
            have hW1 : ∃ W1, W1 = wr.alloc (Obj.cells #[.int .i64 a, .int .i64 b', .slice pa' pl' pc', .slice ca' cl' cc', .slice ea' el' ec'] 32) ∧ Below wr.heap.size wr W1 ∧ W1.heap.size = wr.heap.size + 1 ∧ W1.heap[wr.heap.size]? = some (.cells #[.int .i64 a, .int .i64 b', .slice pa' pl' pc', .slice ca' cl' cc', .slice ea' el' ec'] 32 (0, 0)) := ⟨_, rfl, (Below.refl _ _).alloc (Nat.le_refl _) _, by simp, new_block' wr _⟩
            obtain ⟨W1, hW1, hb1, hsz1, hcb⟩ := hW1
            have x2 := heap_cell' (i := 0) hcb rfl
            have x3 := heap_cell' (i := 1) hcb rfl
            have x4 := heap_cell' (i := 2) hcb rfl
            have x5 := heap_cell' (i := 3) hcb rfl
            have x6 := heap_cell' (i := 4) hcb rfl
            have hbw1 : Below w.heap.size w W1 := HBw.out.trans (hb1.mono HBw.out.size)
            have hBW1 : Below W.heap.size W W1 := HT.out.1.trans (hb1.mono HT.out.1.size)
            have hk1 : Keeps S w W1 := Keeps.of hbw1 HS.out
            have CN := HC2.out i hil W1 S _ fa fc b (fun y hy => by have := HS.out y hy; have := hbw1.size; omega) (HMF.out.1.on (hbw1.block b (Mv.lt HMF.out.1))) (HMF.out.2.1.on hk1) (TrV.below hk1 (fun _ h => h) f _ _ ht)
            have hkb := (hBW1.block w.heap.size (by have := HW.out.2.1; omega)).trans HW.out.2.2.1
            have htb := (hBW1.block (w.heap.size + 1) (by have := HW.out.2.1; omega)).trans HW.out.2.2.2
            have k0 := heap_cell' (i := 0) hkb rfl
            have k1 := heap_cell' (i := 1) hkb rfl
            have HB1 : Hid (Below w.heap.size w W1 ∧ Below W.heap.size W W1 ∧ W1.heap.size = wr.heap.size + 1 ∧ w.heap.size + 2 ≤ wr.heap.size ∧ W1.heap[w.heap.size]? = some (.cells #[.slice fa fs.length fc, .map (some b)] 58 (0, 0)) ∧ W1.heap[w.heap.size + 1]? = some (.cells #[.int .i64 t0, .int .i64 t1, .slice pa pl pc, .slice ca l1.length cc, .slice (some ⟨g, o, none⟩) l2.length ec] 32 (0, 0))) := ⟨hbw1, hBW1, hsz1, by have := HT.out.1.size; have := HW.out.2.1; omega, hkb, htb⟩
            have i1 : (0 : Int) ≤ (i : Int) := by omega
            have i2 : (i : Int) < (l2.length : Int) := by omega
            cases hres : toFail k fs f l2[i] with
            | none =>
              rw [hres] at CN
              have CN2 : Calls Try.prog 39 #[.agg #[.slice fa fs.length fc, .map (some b)], .agg #[.int .i64 a, .int .i64 b', .slice pa' pl' pc', .slice ca' cl' cc', .slice ea' el' ec']] W1 fun r w' => r = .returned (.tuple #[.slice none 0 0, .bool false]) ∧ Below W1.heap.size W1 w' := Calls.mono CN fun r w' h => by
                obtain ⟨hb, ⟨_, h2⟩ | ⟨y, v, l, h2, _⟩⟩ := h
                · exact ⟨h2, hb⟩
                · cases h2
              have HN : Hid (∀ j (hj : j < l2.length), j < i + 1 → toFail k fs f l2[j] = none) := fun j hj hji => by
                by_cases e : j = i
                · subst e; exact hres
                · exact HT.out.2 j hj (by omega)
              clear CN hk hk1 hr ht hb1 hsz1 hcb hbw1 hBW1 hkb htb hres
              go_upto_region 13 with fail
              rw [← hW1]
              clear hW1 q2 q3 q4 q5 q6
              go_wp2_with (first | (go_at_call 39; (with_reducible refine Calls.mono CN2 ?_); rintro e' w2 ⟨rfl, hb2⟩))
              exact ⟨⟨i + 1, hil, by go_num, HB1.out.2.1.trans (hb2.mono HB1.out.2.1.size), HN.out⟩, by simp [intOf]; omega⟩
            | some y =>
              rw [hres] at CN
              have hyl := toFail_len f _ y hres
              have CN2 : Calls Try.prog 39 #[.agg #[.slice fa fs.length fc, .map (some b)], .agg #[.int .i64 a, .int .i64 b', .slice pa' pl' pc', .slice ca' cl' cc', .slice ea' el' ec']] W1 fun r w' => ∃ v l, r = .returned (.tuple #[v, .bool true]) ∧ Below W1.heap.size W1 w' ∧ l.map (·.1) = y ∧ WayAt w' S W1.heap.size v l := Calls.mono CN fun r w' h => by
                obtain ⟨hb, ⟨h2, _⟩ | ⟨y', v, l, h2, h3, h4, h5⟩⟩ := h
                · cases h2
                · obtain rfl := Option.some.inj h2
                  exact ⟨v, l, h3, hb, h4, h5⟩
              have HRS : Hid (failP k fs f t0 path l1 l2 = some (y ++ [(path, otherThan k fs (l1.map (·.1)))])) := failP_else HT0.out HN1.out i hil HT.out.2 hres
              have hgap := HTK.out.2 (fun e => by rw [e] at hil; simp at hil)
              have hl1 : l1 ≠ [] := fun e => by obtain ⟨h, _⟩ := hgap; rw [e] at h; simp at h
              obtain ⟨g1, o1, rfl, hc1, hr1⟩ := HR1.out hl1
              have HPA : Hid (∀ w2, Below W1.heap.size W1 w2 → (w2.cell? ⟨w.heap.size, 0, none⟩ = some (.slice fa fs.length fc) ∧ w2.cell? ⟨w.heap.size, 1, none⟩ = some (.map (some b)) ∧ w2.cell? ⟨w.heap.size + 1, 2, none⟩ = some (.slice pa pl pc) ∧ w2.cell? ⟨w.heap.size + 1, 3, none⟩ = some (.slice (some ⟨g1, o1, none⟩) l1.length cc)) ∧
                  Calls Try.prog 56 #[.agg #[.slice fa fs.length fc, .map (some b)], .slice (some ⟨g1, o1, none⟩) l1.length cc] w2 fun r w3 => ∃ ad cap, r = .returned (.agg #[.int .i64 (otherThan k fs (l1.map (·.1))).1.1, .string ⟨(otherThan k fs (l1.map (·.1))).1.2.1.toArray⟩, .int .i64 (otherThan k fs (l1.map (·.1))).1.2.2, .slice ad (otherThan k fs (l1.map (·.1))).2 cap]) ∧ Below w2.heap.size w2 w3 ∧ ((ad = none ∧ (otherThan k fs (l1.map (·.1))).2 = 0 ∧ cap = 0) ∨ ∃ B, ad = some ⟨B, 0, none⟩ ∧ cap = (otherThan k fs (l1.map (·.1))).2 ∧ w2.heap.size ≤ B ∧ B < w3.heap.size ∧ Wild w3 B (otherThan k fs (l1.map (·.1))).2)) := fun w2 hb2 => by
                have hB := HB1.out
                have e1 := (hb2.block w.heap.size (by omega)).trans hB.2.2.2.2.1
                have e2 := (hb2.block (w.heap.size + 1) (by omega)).trans hB.2.2.2.2.2
                refine ⟨⟨heap_cell' e1 rfl, heap_cell' e1 rfl, heap_cell' e2 rfl, heap_cell' e2 rfl⟩, ?_⟩
                have hbw := hB.1.trans (hb2.mono hB.1.size)
                have hkk := Keeps.of hbw HS.out
                refine Calls.mono (other_any (w := w2) (S := S) fa fc g1 o1 cc l1 (fun y hy => by have := HS.out y hy; have := hbw.size; omega) (HMF.out.1.on (hbw.block b (Mv.lt HMF.out.1))) HMF.out.2.2 (HMF.out.2.1.on hkk) hc1 (fun j hj => (hr1 j hj).on hkk) hs1 hgap) ?_
                rintro r w3 ⟨hb3, v, rfl, ad, cap, rfl, h⟩
                exact ⟨ad, cap, rfl, hb3, h⟩
              have HNM : Hid ((otherThan k fs (l1.map (·.1))).1.2.1.length < 140737488355328) := other_name HMF.out.2.1 _
              clear CN hk hk1 hr ht hb1 hsz1 hcb hbw1 hBW1 hkb htb hres hgap hl1 hr1
              generalize otherThan k fs (l1.map (·.1)) = q at *
              go_upto_region 13 with fail
              rw [← hW1]
              clear hW1 q2 q3 q4 q5 q6
              go_upto_region 15 with (first | (go_at_call 39; (with_reducible refine Calls.mono CN2 ?_); rintro e' w2 ⟨v2, l, rfl, hb2, hl, hwa⟩))
              have CP := (HPA.out w2.drew hb2.drew).2
              have HWA : Hid (WayAt w2 S W1.heap.size v2 l ∧ Below W1.heap.size W1 w2 ∧ l.map (·.1) = y) := ⟨hwa, hb2, hl⟩
              have hll : l.length ≤ 5001 := by
                have := congrArg List.length hl
                rw [List.length_map] at this
                omega
              have HO3 : Hid (∀ w3, Below w2.drew.heap.size w2.drew w3 → w3.ownsRow W1.heap.size 123 5 v2 l.length (l.flatMap rsC) ∧ W1.heap.size ≤ w3.heap.size) := fun w3 hb3 => by
                have hb : Below w2.heap.size w2 w3 := ⟨hb3.os, hb3.tape, hb3.output, hb3.size, hb3.block⟩
                have h1 := HWA.out
                exact ⟨(h1.1.on (fun y hy => by have := HS.out y hy; have := HB1.out.1.size; have := h1.2.1.size; omega) hb).own, Nat.le_trans h1.2.1.size hb.size⟩
              clear hl hwa x2 x3 x4 x5 x6 CN2 HC2 HR2 HR1 HTK HT q2 q3 q4 q5 q6 s0 hc hi i1 i2 hs1 hs2 hyl hle HT0
              have HPC : Hid (∀ w', Below W1.heap.size W1 w' → (w'.cell? ⟨w.heap.size, 0, none⟩ = some (.slice fa fs.length fc) ∧ w'.cell? ⟨w.heap.size, 1, none⟩ = some (.map (some b))) ∧ w'.cell? ⟨w.heap.size + 1, 2, none⟩ = some (.slice pa pl pc) ∧ w'.cell? ⟨w.heap.size + 1, 3, none⟩ = some (.slice (some ⟨g1, o1, none⟩) l1.length cc)) := fun w' hb => by
                have := (HPA.out w' hb).1
                exact ⟨⟨this.1, this.2.1⟩, this.2.2⟩
              have HBD : Hid (∀ w3, Below w2.drew.heap.size w2.drew w3 → Below W1.heap.size W1 w3) := fun w3 hb3 => by
                have h1 := HWA.out.2.1
                exact h1.trans (Below.mono (⟨hb3.os, hb3.tape, hb3.output, hb3.size, hb3.block⟩ : Below w2.heap.size w2 w3) h1.size)
              have hS2 := HPC.out w2.drew HWA.out.2.1.drew
              clear k0 k1 hb2
              go_region_held3 (fun w' => (w'.cell? ⟨w.heap.size, 0, none⟩ = some (.slice fa fs.length fc) ∧ w'.cell? ⟨w.heap.size, 1, none⟩ = some (.map (some b))) ∧ w'.cell? ⟨w.heap.size + 1, 2, none⟩ = some (.slice pa pl pc) ∧ w'.cell? ⟨w.heap.size + 1, 3, none⟩ = some (.slice (some ⟨g1, o1, none⟩) l1.length cc))
                (first | (with_reducible exact hS2) | (with_reducible exact hS3) | (with_reducible exact hS3A _) | (with_reducible exact hS7))
                (first
                | (go_at_call 56; (with_reducible refine Calls.mono CP ?_); rintro e' w3 ⟨ad3, cp3, rfl, hb3, hB3⟩; obtain ⟨own3, hs3⟩ := HO3.out w3 hb3; have hS3 := HPC.out w3 (HBD.out w3 hb3); have hS3A := fun o => HPC.out (w3.alloc o) ((HBD.out w3 hb3).alloc (HBD.out w3 hb3).size o))
                | (refine step_append_lies _ (by rfl) _ _ _ (by rfl) W1.heap.size 123 i0 _ 5 80 Try.underlying98 hi0 hz0 hz1 hz2 rfl (by omega) v2 l.length (l.flatMap rsC) (by rfl) (own3.alloc _) ⟨w3.heap.size, 0, none⟩ 1 1 [.slice pa pl pc, .int .i64 q.1.1, .string ⟨q.1.2.1.toArray⟩, .int .i64 q.1.2.2, .slice ad3 q.2 cp3] (by rfl) (by rfl) (World.news_of_block (cs := #[.slice pa pl pc, .int .i64 q.1.1, .string ⟨q.1.2.1.toArray⟩, .int .i64 q.1.2.2, .slice ad3 q.2 cp3]) (t := 123) (fr := (0, 0)) (new_block w3 _)) (by simp [Value.oneCell']) (by omega) (by unfold maxLen; omega) (by omega) (by simp; omega) (w3.heap.size + 1) (by simp) ?_; intro g7 cap7 w7 hown7 hgr7 hat7 hlt7; have hb7 := ((HBD.out w3 hb3).alloc (HBD.out w3 hb3).size _).grown hgr7 (by simp; omega) (fun y e => (own3.lt y e).1); have hS7 := HPC.out w7 hb7))
              go_wp2
              refine bodyPost_ret (v := .tuple #[.slice (some ⟨g7, 0, none⟩) (l.length + 1) cap7, .bool true]) (by simp [results, Try.results39, go_sem]) rfl ?_
              have hB1 := HB1.out
              have hpl := HPL.out
              have hwa := HWA.out
              have hb23 : Below w2.heap.size w2 w3 := ⟨hb3.os, hb3.tape, hb3.output, hb3.size, hb3.block⟩
              have hbw2 := hB1.1.trans (hwa.2.1.mono hB1.1.size)
              have hwa7 := hwa.1.snoc (x := ((path, q), (pa, pc), (ad3, cp3))) (fun y hy => by have := HS.out y hy; have := hB1.1.size; omega) hwa.2.1.size (hb23.alloc hb23.size _) (by have := HNP.out.on (Keeps.of hbw2 HS.out); rw [← hpl] at this; exact this) HNM.out (hB3.imp_right fun ⟨B, h1, h2, h3, h4, h5⟩ => ⟨B, h1, h2, h3, by simp; omega, h5.on (Below.heap_alloc _ _ _ h4)⟩) (by simpa [rsC, hpl] using hown7) hgr7 (v' := .slice (some ⟨g7, 0, none⟩) (l.length + 1) cap7) (hat7.imp (fun e => by show some g7 = _; exact e.symm) (fun e => by show some g7 = _; rw [e]; simp))
              exact ⟨hB1.1.trans (hb7.mono hB1.1.size), .inr ⟨_, _, _, HRS.out, rfl, by rw [List.map_append, hwa.2.2]; rfl, hwa7.mono hB1.1.size⟩⟩
          · obtain rfl : i = l2.length := by omega
            have HE : Hid (failP k fs f t0 path l1 l2 = none) := failP_none HT0.out HN1.out fun j hj => HT.out.2 j hj hj
            go_wp2
            refine bodyPost_ret (v := .tuple #[.slice none 0 0, .bool false]) (by simp [results, Try.results39, go_sem]) rfl ?_
            exact ⟨HBw.out, .inl ⟨HE.out, rfl⟩⟩
theorem fail_any {k : Kn} {fs : List Fam} (hK : KnOk k fs) : ∀ (f : Nat), f ≤ 5001 → ∀ (t : Tr f), Sm f t → Tok k fs f t → FailC k fs f t
  | 0, _, t, _, _ => by
    intro w S x fa fc b hS hM hF hx
    have h1 : TrV w S 1 x (trZero 1) := by
      have : x = _ := hx
      rw [this]
      exact trZero_at w S 1
    have := fail_step (f := 0) (trZero 1) hK (by omega) ⟨by simp [trZero], by simp [trZero]⟩ (Tok.zero k fs 1) (fun c h => by simp [trZero] at h) w S x fa fc b hS hM hF h1
    exact this
  | f + 1, hf, t, hs, ht => fail_step t hK (by omega) ⟨hs.1, hs.2.1⟩ ht fun c hc => by
    rcases hc with hc | hc
    · obtain ⟨d, hd, rfl⟩ := List.mem_map.1 hc
      exact fail_any hK f (by omega) _ (hs.2.2.1 d hd) (ht.2.2.1 d hd)
    · exact fail_any hK f (by omega) _ (hs.2.2.2 c hc) (ht.2.2.2 c hc)
end Go.Proofs.Ytpdmkhnonbbhnaa
