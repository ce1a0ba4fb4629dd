/- goTogether: the patterns of a column, whatever stands within them. -/
import Derived.Test.YtpdmkhnonbbhnaaMb
import Derived.Test.YtpdmkhnonbbhnaaMcx
namespace Go.Proofs.Ytpdmkhnonbbhnaa
open Go.RowKit Go.Maps

def cnd (k : Kn) (f s : Pt) : Bool := s.kind == f.kind && mayBe k s && (f.kind != 4 || (looks k s.name).1 == (looks k f.name).1)
theorem together_eq (k : Kn) (spots : List Sp) (h : 0 < spots.length) : together k spots = spots.all fun s => cnd k spots[0].2 s.2 := by
  cases spots with
  | nil => simp at h
  | cons a r => rfl
theorem together_false (k : Kn) (spots : List Sp) (h : 0 < spots.length) (i : Nat) (hi : i < spots.length) (hc : cnd k spots[0].2 spots[i].2 = false) : together k spots = false := by
  rw [together_eq k spots h, List.all_eq_false]
  exact ⟨spots[i], List.getElem_mem hi, by simp [hc]⟩
theorem together_true (k : Kn) (spots : List Sp) (h : 0 < spots.length) (hc : ∀ i (hi : i < spots.length), cnd k spots[0].2 spots[i].2 = true) : together k spots = true := by
  rw [together_eq k spots h, List.all_eq_true]
  intro s hs
  obtain ⟨i, hi, rfl⟩ := List.getElem_of_mem hs
  exact hc i hi
set_option maxRecDepth 100000 in
theorem fld (a b c : Int) (W : World) : (Instr.field 79 (.agg #[.int .i64 a, .int .i64 b, .int .i64 c]) 0).run Try.prog W = .ok (.int .i64 a) W := by
  rfl
theorem _root_.Go.RowKit.Below.more {B : Nat} {a w : World} (h : Below B a w) (q : Nat) : Below B a (w.drewN q) := ⟨h.os, h.tape, h.output, h.size, h.block⟩
set_option maxHeartbeats 4000000 in
set_option maxRecDepth 10000 in
theorem together_any {w : World} {S : Nat → Prop} {b : Nat} {k : Kn} (fa : Option Addr) (fl fc : Nat) (sv : Value) (spots : List Sp) (hS : ∀ b, S b → b < w.heap.size) (hM : MapK w b k) (hp : Spots w S sv spots) (h0 : 0 < spots.length) (hbig : spots.length ≤ 200) :
    Calls Try.prog 44 #[.agg #[.slice fa fl fc, .map (some b)], sv] w fun r w' => r = .returned (.bool (together k spots)) ∧ Below w.heap.size w w' := by
  have HT : Hid (∀ i (hi : i < spots.length), cnd k spots[0].2 spots[i].2 = false → together k spots = false) := fun i hi => together_false k spots h0 i hi
  have HT2 : Hid ((∀ i (hi : i < spots.length), cnd k spots[0].2 spots[i].2 = true) → together k spots = true) := together_true k spots h0
  generalize together k spots = R at HT HT2
  rcases hp with ⟨e, _⟩ | ⟨g, o, cap, rfl, _, hc, hp⟩
  · rw [e] at h0; simp at h0
  have HS : Hid (∀ b, S b → b < w.heap.size) := hS
  have HM : Hid (MapK w b k) := hM
  have HP : Hid (∀ j (h : j < spots.length), SpP w S g (o + j * 2) spots[j]) := hp
  obtain ⟨s0, f1, fg, fo, f2, f3⟩ := hp 0 h0
  have HF : Hid (PtP w S fg fo spots[0].2) := f3
  rw [show o + 0 * 2 = o by omega] at f1 f2
  have hW : ∃ W, W = w.alloc (Obj.cells #[.slice fa fl fc, .map (some b)] 58) ∧ Below w.heap.size w W ∧ W.heap.size = w.heap.size + 1 ∧ W.cell? ⟨w.heap.size, 0, none⟩ = some (.slice fa fl fc) ∧ W.cell? ⟨w.heap.size, 1, none⟩ = some (.map (some b)) := ⟨_, rfl, (Below.refl _ _).alloc (Nat.le_refl _) _, by simp, heap_cell' (new_block' w _) rfl, heap_cell' (new_block' w _) rfl⟩
  obtain ⟨W, hW, hbW, hsW, d0, d1⟩ := hW
  have HbW : Hid (Below w.heap.size w W ∧ W.heap.size = w.heap.size + 1 ∧ W.cell? ⟨w.heap.size, 0, none⟩ = some (.slice fa fl fc) ∧ W.cell? ⟨w.heap.size, 1, none⟩ = some (.map (some b))) := ⟨hbW, hsW, d0, d1⟩
  have hg := hS _ s0
  have f2 := (hbW.cell (p := ⟨g, o + 1, none⟩) hg).trans f2
  have f1 := (hbW.cell (p := ⟨g, o, none⟩) hg).trans f1
  have hz : (0 : Int) < (spots.length : Int) := by omega
  clear hS hM hp f3 hbW hsW d0 d1 s0
  go_enter Try.func44, Try.ntmps44
  go_upto_region 1 with fail
  rw [← hW]
  clear hW
  go_wp2
  go_loopw [14] (fun iv wr => ∃ i : Nat, i ≤ spots.length ∧ iv = .int .i64 i ∧ Hid (Below (w.heap.size + 1) W wr) ∧ Hid (∀ j (hj : j < spots.length), j < i → cnd k spots[0].2 spots[j].2 = true)) (fun iv _ => spots.length - (intOf iv).toNat)
  case atStart => exact ⟨0, by omega, by go_num, Below.refl _ _, fun j _ h => by omega⟩
  case round =>
    obtain ⟨i, hi, rfl, HB, HC⟩ := hrel
    clear f1 f2
    have HBw : Hid (Below w.heap.size w wr) := HbW.out.1.trans (HB.out.mono (by omega))
    by_cases hil : i < spots.length
    · obtain ⟨s0, q1, pg, po, q2, q3⟩ := HP.out i hil
      have hk := Keeps.of HBw.out HS.out
      have q1 := (hk.cell (p := ⟨g, o + i * 2, none⟩) s0).trans q1
      have q2 := (hk.cell (p := ⟨g, o + i * 2 + 1, none⟩) s0).trans q2
      have hPt : PtP wr S pg po spots[i].2 := q3.on hk
      have hFt : PtP wr S fg fo spots[0].2 := HF.out.on hk
      obtain ⟨hp0, t0, t1, _, lt1, _⟩ := hPt.open
      obtain ⟨hf0, v0, v1, _, lv1, _⟩ := hFt.open
      have hsz : w.heap.size < wr.heap.size := by have := HB.out.size; have := HbW.out.2.1; omega
      have hpg : pg < wr.heap.size := by have := HS.out _ hp0; omega
      have hfg : fg < wr.heap.size := by have := HS.out _ hf0; omega
      have d0 := (HB.out.cell (p := ⟨w.heap.size, 0, none⟩) (by simp)).trans HbW.out.2.2.1
      have d1 := (HB.out.cell (p := ⟨w.heap.size, 1, none⟩) (by simp)).trans HbW.out.2.2.2
      have hMr : MapK wr b k := HM.out.on (HBw.out.block b (Mv.lt HM.out))
      have i1 : (0 : Int) ≤ (i : Int) := by omega
      have i2 : (i : Int) < (spots.length : Int) := by omega
      go_upto_region 5 with fail
      have hW1 : ∃ W1, W1 = wr.alloc (Obj.cells #[.int .i64 spots[i].1, .pointer (some ⟨pg, po, none⟩)] 106) ∧ Below wr.heap.size wr W1 ∧ W1.heap.size = wr.heap.size + 1 ∧ W1.cell? ⟨wr.heap.size, 1, none⟩ = some (.pointer (some ⟨pg, po, none⟩)) := ⟨_, rfl, (Below.refl _ _).alloc (Nat.le_refl _) _, by simp, heap_cell' (new_block' wr _) rfl⟩
      obtain ⟨W1, hW1, hb1, hs1, x1⟩ := hW1
      rw [← hW1]
      clear hW1
      have t0 := (hb1.cell (p := ⟨pg, po, none⟩) hpg).trans t0
      have t1 := (hb1.cell (p := ⟨pg, po + 1, none⟩) hpg).trans t1
      have v0 := (hb1.cell (p := ⟨fg, fo, none⟩) hfg).trans v0
      have v1 := (hb1.cell (p := ⟨fg, fo + 1, none⟩) hfg).trans v1
      have d0 := (hb1.cell (p := ⟨w.heap.size, 0, none⟩) hsz).trans d0
      have d1 := (hb1.cell (p := ⟨w.heap.size, 1, none⟩) hsz).trans d1
      have hM1 : MapK W1 b k := hMr.on (hb1.block b (Mv.lt hMr))
      have HS1 : Hid (∀ b, S b → b < W1.heap.size) := fun b hb => by have := HS.out b hb; omega
      have hP1 : PtP W1 S pg po spots[i].2 := hPt.on (Keeps.of hb1 fun b hb => by have := HS.out b hb; omega)
      have CM : ∀ W', Below W1.heap.size W1 W' → Calls Try.prog 59 #[.agg #[.slice fa fl fc, .map (some b)], .pointer (some ⟨pg, po, none⟩)] W' fun r w' => r = .returned (.bool (mayBe k spots[i].2)) ∧ Below W'.heap.size W' w' := fun W' hb' =>
        maybe_any fa fl fc (fun b hb => by have := HS1.out b hb; have := hb'.size; omega) (hM1.on (hb'.block b (Mv.lt hM1))) (hP1.on (Keeps.of hb' HS1.out))
      have HB1 : Hid (Below (w.heap.size + 1) W W1) := HB.out.trans (hb1.mono (by omega))
      have HcF : Hid (cnd k spots[0].2 spots[i].2 = false → R = false) := HT.out i hil
      have HcT : Hid (cnd k spots[0].2 spots[i].2 = true → ∀ j (hj : j < spots.length), j < i + 1 → cnd k spots[0].2 spots[j].2 = true) := fun h j hj hji => by
        by_cases e : j = i
        · subst e; exact h
        · exact HC.out j hj (by omega)
      have hcnd : cnd k spots[0].2 spots[i].2 = (spots[i].2.kind == spots[0].2.kind && mayBe k spots[i].2 && (spots[0].2.kind != 4 || (looks k spots[i].2.name).1 == (looks k spots[0].2.name).1)) := rfl
      have hX : wr.heap.size < W1.heap.size := by omega
      have hl1 : ∀ W', Below W1.heap.size W1 W' → (Instr.lookup 56 (.map (some b)) (.string ⟨spots[i].2.name.toArray⟩) false).run Try.prog W' = .ok (kV (looks k spots[i].2.name)) W' ∧ (Instr.lookup 56 (.map (some b)) (.string ⟨spots[0].2.name.toArray⟩) false).run Try.prog W' = .ok (kV (looks k spots[0].2.name)) W' := fun W' hb' => by
        have h := hM1.on (hb'.block b (Mv.lt hM1))
        exact ⟨h.look1 _ lt1, h.look1 _ lv1⟩
      clear hPt hFt hMr hM1 hP1 hk q1 q2 q3 lt1 lv1 HP HT HM HF hs1
      rw [hcnd] at HcF HcT
      clear hcnd
      generalize spots[i].2.kind = k1 at *
      generalize spots[0].2.kind = k2 at *
      generalize (⟨spots[i].2.name.toArray⟩ : ByteArray) = n1 at *
      generalize (⟨spots[0].2.name.toArray⟩ : ByteArray) = n2 at *
      generalize looks k spots[i].2.name = l1 at *
      generalize looks k spots[0].2.name = l2 at *
      generalize mayBe k spots[i].2 = mb at *
      by_cases hk12 : k1 = k2
      · subst hk12
        have hne : (k1 != k1) = false := by simp
        go_region_held3 (fun w' => (w'.cell? ⟨w.heap.size, 0, none⟩ = some (.slice fa fl fc) ∧ w'.cell? ⟨w.heap.size, 1, none⟩ = some (.map (some b)) ∧ w'.cell? ⟨wr.heap.size, 1, none⟩ = some (.pointer (some ⟨pg, po, none⟩))) ∧ (w'.cell? ⟨pg, po, none⟩ = some (.int .i64 k1)) ∧ w'.cell? ⟨fg, fo, none⟩ = some (.int .i64 k1)) (first | exact ⟨⟨d0, d1, x1⟩, t0, v0⟩ | assumption | (have hk : ∀ p : Addr, p.block < W1.heap.size → w1.cell? p = W1.cell? p := fun p hp => hb2.cell hp; exact ⟨⟨(hk _ (by simp; omega)).trans d0, (hk _ (by simp; omega)).trans d1, (hk _ hX).trans x1⟩, (hk _ (by simp; omega)).trans t0, (hk _ (by simp; omega)).trans v0⟩) | go_keep)
          (first | (go_at_call 59; (with_reducible refine Calls.mono (CM _ ?_) ?_); exact (Below.refl _ _).drew; rintro e' w1 ⟨rfl, hb2⟩))
        all_goals
          have hb3 : Below W1.heap.size W1 w1 := ⟨hb2.os, hb2.tape, hb2.output, hb2.size, hb2.block⟩
          have hk : ∀ p : Addr, p.block < W1.heap.size → w1.cell? p = W1.cell? p := fun p hp => hb3.cell hp
          have t0 := (hk ⟨pg, po, none⟩ (by simp; omega)).trans t0
          have t1 := (hk ⟨pg, po + 1, none⟩ (by simp; omega)).trans t1
          have v0 := (hk ⟨fg, fo, none⟩ (by simp; omega)).trans v0
          have v1 := (hk ⟨fg, fo + 1, none⟩ (by simp; omega)).trans v1
          have d1 := (hk ⟨w.heap.size, 1, none⟩ (by simp; omega)).trans d1
          have x1 := (hk ⟨wr.heap.size, 1, none⟩ hX).trans x1
          have HB2 : Hid (Below (w.heap.size + 1) W w1) := HB1.out.trans (hb3.mono (by omega))
          have hl2 := fun q => (hl1 (w1.drewN q) ⟨hb3.os, hb3.tape, hb3.output, hb3.size, hb3.block⟩).1
          have hl3 := fun q => (hl1 (w1.drewN q) ⟨hb3.os, hb3.tape, hb3.output, hb3.size, hb3.block⟩).2
          unfold kV at hl2 hl3
          have fld1 := fun q => fld l1.1 l1.2.1 l1.2.2 (w1.drewN q)
          have fld2 := fun q => fld l2.1 l2.2.1 l2.2.2 (w1.drewN q)
          clear CM hl1 hb2 hb3 hk d0
          cases mb with
          | false =>
            have HF : Hid (R = false) := HcF.out (by simp)
            clear HcF HcT hl2 hl3
            go_wp2
            go_ret
            exact ⟨by rw [HF.out]; rfl, HbW.out.1.trans (HB2.out.mono (by omega))⟩
          | true =>
            by_cases h4 : k1 = 4
            · subst h4
              by_cases hl : l1.1 = l2.1
              · have hl' : ((l1.1 : Int) != (l2.1 : Int)) = false := by simp [hl]
                have HT : Hid (∀ j (hj : j < spots.length), j < i + 1 → cnd k spots[0].2 spots[j].2 = true) := HcT.out (by simp [hl])
                clear HcF HcT hl
                go_wp2
                go_quiet (fail)
                all_goals
                  go_wp2
                  go_roundw
                  case rel => exact ⟨i + 1, hil, by go_num, ⟨HB2.out.os, HB2.out.tape, HB2.out.output, HB2.out.size, HB2.out.block⟩, HT.out⟩
                  case measure => simp [intOf]; omega
              · have hl' : ((l1.1 : Int) != (l2.1 : Int)) = true := by simp; omega
                have HF : Hid (R = false) := HcF.out (by simp [hl])
                clear HcF HcT hl
                go_wp2
                go_quiet (fail)
                all_goals
                  go_wp2
                  go_ret
                  exact ⟨by rw [HF.out]; rfl, (HbW.out.1.trans (HB2.out.mono (by omega))).more _⟩
            · have h4' : (k1 == 4) = false := by simpa using h4
              have HT : Hid (∀ j (hj : j < spots.length), j < i + 1 → cnd k spots[0].2 spots[j].2 = true) := HcT.out (by simp [h4])
              clear HcF HcT hl2 hl3
              go_wp2
              go_quiet (fail)
              all_goals
                go_wp2
                go_roundw
                case rel => exact ⟨i + 1, hil, by go_num, ⟨HB2.out.os, HB2.out.tape, HB2.out.output, HB2.out.size, HB2.out.block⟩, HT.out⟩
                case measure => simp [intOf]; omega
      · have hne : (k1 != k2) = true := by simpa using hk12
        have HF : Hid (R = false) := HcF.out (by simp [hk12])
        clear CM hl1 HcF HcT
        go_region
        all_goals
          go_wp2
          go_ret
          exact ⟨by rw [HF.out]; rfl, HbW.out.1.trans (HB1.out.drew.mono (by omega))⟩
    · have HE : Hid (R = true) := HT2.out fun j hj => HC.out j hj (by omega)
      go_wp2
      go_ret
      exact ⟨by rw [HE.out]; rfl, HBw.out⟩
end Go.Proofs.Ytpdmkhnonbbhnaa
