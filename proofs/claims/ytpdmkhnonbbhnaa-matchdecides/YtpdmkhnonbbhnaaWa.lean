/- The law's own small functions: light. -/
import Derived.Test.YtpdmkhnonbbhnaaMbx
import Derived.Test.YtpdmkhnonbbhnaaMix
import Derived.Deep.RegionHeld3
import Derived.Deep.CutRange
namespace Go.Proofs.Ytpdmkhnonbbhnaa
open Go.RowKit Go.Maps

def famz (f : Fam) : Nat := f.1.length + f.2.length
theorem sum_take {α : Type} (g : α → Nat) (l : List α) (i : Nat) (h : i < l.length) : ((l.take (i + 1)).map g).sum = ((l.take i).map g).sum + g l[i] := by
  rw [List.take_add_one, List.getElem?_eq_getElem h, List.map_append, List.sum_append]
  simp
def LightPost (fs : List Fam) (rows : List (List Pt)) (w : World) (r : Ending) (w' : World) : Prop := Below w.heap.size w w' ∧ ∃ a, r = .returned (.bool a) ∧ (a = true → rows.length + fs.length + (rows.map szs).sum + (fs.map famz).sum ≤ 10000)
set_option maxHeartbeats 8000000 in
set_option maxRecDepth 10000 in
theorem light_any {w : World} {S : Nat → Prop} (fs : List Fam) (rows : List (List Pt)) (fa rad : Option Addr) (fc rcap : Nat) (hS : ∀ b, S b → b < w.heap.size) (hF : Fams w S (.slice fa fs.length fc) fs) (hR : RowsAt w S (.slice rad rows.length rcap) rows) (hfl : fs.length < 140737488355328) (hrl : rows.length < 140737488355328) (hrw : ∀ r ∈ rows, r.length < 140737488355328) (hfw : ∀ f ∈ fs, f.1.length < 140737488355328 ∧ f.2.length < 140737488355328) :
    Calls Try.prog 6 #[.slice fa fs.length fc, .slice rad rows.length rcap] w (LightPost fs rows w) := by
  obtain ⟨_, _, he1, hrow1⟩ := RowP.open hR
  injection he1 with he1 hx1 hcc1
  subst he1 hcc1
  obtain ⟨_, _, he2, hrow2⟩ := RowP.open hF
  injection he2 with he2 hx2 hcc2
  subst he2 hcc2
  clear hx1 hx2 hF hR
  have HS : Hid (∀ b, S b → b < w.heap.size) := hS
  have HR1 : Hid (rows ≠ [] → ∃ g o, rad = some ⟨g, o, none⟩ ∧ rows.length ≤ rcap ∧ ∀ j (h : j < rows.length), S g ∧ ∃ ad cap, w.cell? ⟨g, o + j * 1, none⟩ = some (.slice ad rows[j].length cap) ∧ Pats w S (.slice ad rows[j].length cap) rows[j]) := hrow1
  have HR2 : Hid (fs ≠ [] → ∃ g o, fa = some ⟨g, o, none⟩ ∧ fs.length ≤ fc ∧ ∀ j (h : j < fs.length), S g ∧ (∃ ad cap, w.cell? ⟨g, o + j * 2, none⟩ = some (.slice ad fs[j].1.length cap) ∧ Strs w S (.slice ad fs[j].1.length cap) fs[j].1) ∧ ∃ ad cap, w.cell? ⟨g, o + j * 2 + 1, none⟩ = some (.slice ad fs[j].2.length cap) ∧ Ints w S (.slice ad fs[j].2.length cap) fs[j].2) := hrow2
  have HW : Hid ((∀ r ∈ rows, r.length < 140737488355328) ∧ ∀ f ∈ fs, f.1.length < 140737488355328 ∧ f.2.length < 140737488355328) := ⟨hrw, hfw⟩
  clear hrow1 hrow2 hS hrw hfw
  go_enter Try.func6, Try.ntmps6
  go_wp2
  go_loopw [5, 6] (fun lv iv wr => ∃ (i : Nat) (left : Int), i ≤ rows.length ∧ iv = .int .i64 i ∧ lv = .int .i64 left ∧ left ≤ 10000 ∧ -300000000000000 ≤ left ∧ Hid (Below w.heap.size w wr) ∧ Hid (0 ≤ left → (rows.length : Int) + fs.length + ((rows.take i).map szs).sum ≤ 10000 - left)) (fun _ iv _ => rows.length - (intOf iv).toNat)
  case atStart => exact ⟨0, 10000 - rows.length - fs.length, by omega, by go_num, by go_num, by omega, by omega, Below.refl _ _, fun _ => by simp; omega⟩
  case round =>
    obtain ⟨i, left, hi, rfl, rfl, hle, hge, HB, HI⟩ := hrel
    go_upto_region 3 with fail
    go_cut [21] from 14 to 21 (fun v wc => v = .bool (decide (i < rows.length ∧ 0 ≤ left)) ∧ wc = wr)
    case first =>
      by_cases h1 : i < rows.length
      · have i2 : (i : Int) < (rows.length : Int) := by omega
        by_cases h2 : 0 ≤ left
        · have e3 : Hid (Value.bool true = .bool (decide (i < rows.length ∧ 0 ≤ left))) := by show _ = _; simp [h1, h2]
          have h2' : decide ((0 : Int) ≤ left) = true := decide_eq_true h2
          clear h1
          go_wp2
          go_meet
          case rel => exact ⟨e3.out, rfl⟩
        · have e3 : Hid (Value.bool false = .bool (decide (i < rows.length ∧ 0 ≤ left))) := by show _ = _; simp [h2]
          have h2' : decide ((0 : Int) ≤ left) = false := decide_eq_false h2
          clear h1
          go_wp2
          go_meet
          case rel => exact ⟨e3.out, rfl⟩
      · have i2 : ¬ (i : Int) < (rows.length : Int) := by omega
        have e3 : Hid (Value.bool false = .bool (decide (i < rows.length ∧ 0 ≤ left))) := by show _ = _; simp [h1]
        clear h1
        go_wp2
        go_meet
        case rel => exact ⟨e3.out, rfl⟩
    obtain ⟨rfl, hwc⟩ := hcut
    obtain rfl := hwc.symm
    by_cases hcont : i < rows.length ∧ 0 ≤ left
    · rw [decide_eq_true hcont]
      obtain ⟨hil, h0⟩ := hcont
      obtain ⟨g, o, rfl, hc, hr⟩ := HR1.out (fun e => by rw [e] at hil; simp at hil)
      obtain ⟨s0, ad, cap, q, hp⟩ := hr i hil
      have hk := Keeps.of HB.out HS.out
      have q := (hk.cell (p := ⟨g, o + i * 1, none⟩) s0).trans q
      rw [Nat.mul_one] at q
      have CH := heavy_any ((rows[i].map (·.1)).sum + 1) _ rows[i] left wr S (fun p hp => by have := le_sum_of_mem _ _ (List.mem_map.2 ⟨p, hp, rfl⟩ : p.1 ∈ rows[i].map (·.1)); omega) (fun y hy => by have := HS.out y hy; have := HB.out.size; omega) (HW.out.1 _ (List.getElem_mem hil)) (by omega) hle (hp.on hk)
      have HST : Hid (((rows.take (i + 1)).map szs).sum = ((rows.take i).map szs).sum + szs rows[i]) := sum_take szs rows i hil
      have i1 : (0 : Int) ≤ (i : Int) := by omega
      have i2 : (i : Int) < (rows.length : Int) := by omega
      have HH : Hid (0 ≤ left ∧ i < rows.length) := ⟨h0, hil⟩
      clear hk hr hp
      generalize rows[i].length = nl at *
      generalize szs rows[i] = sz at *
      go_wp2_with (first | (go_at_call 7; (with_reducible refine Calls.mono CH ?_); rintro e' w2 ⟨⟨x, rfl, hx1, hx2, hx3⟩, hb2⟩))
      refine ⟨⟨i + 1, x, HH.out.2, by go_num, rfl, by omega, by omega, HB.out.trans (hb2.mono HB.out.size), fun hx0 => ?_⟩, by simp [intOf]; have := HH.out.2; omega⟩
      have h1 := HI.out HH.out.1
      have h2 := hx3 hx0
      rw [HST.out]
      omega
    · rw [decide_eq_false hcont]
      have HX : Hid (0 ≤ left → (rows.length : Int) + fs.length + (rows.map szs).sum ≤ 10000 - left) := fun h => by
        have hi2 : i = rows.length := by omega
        have := HI.out h
        rw [hi2, List.take_length] at this
        exact this
      clear hcont HI HR1
      go_wp2
      go_loopw [5, 7] (fun lv iv wr2 => ∃ (j : Nat) (left : Int), j ≤ fs.length ∧ iv = .int .i64 j ∧ lv = .int .i64 left ∧ left ≤ 10000 ∧ -600000000000000 ≤ left ∧ Hid (Below w.heap.size w wr2) ∧ Hid (0 ≤ left → (rows.length : Int) + fs.length + (rows.map szs).sum + ((fs.take j).map famz).sum ≤ 10000 - left)) (fun _ iv _ => fs.length - (intOf iv).toNat)
      case atStart => exact ⟨0, left, by omega, by go_num, rfl, hle, by omega, HB.out, fun h => by have := HX.out h; simp; omega⟩
      case round =>
        clear HB HX hle hge hi
        obtain ⟨j, lf, hj, rfl, rfl, hle, hge, HB, HI⟩ := hrel
        go_upto_region 7 with fail
        go_cut [37] from 30 to 37 (fun v wc => v = .bool (decide (j < fs.length ∧ 0 ≤ lf)) ∧ wc = wr)
        case first =>
          by_cases h1 : j < fs.length
          · have i2 : (j : Int) < (fs.length : Int) := by omega
            by_cases h2 : 0 ≤ lf
            · have e3 : Hid (Value.bool true = .bool (decide (j < fs.length ∧ 0 ≤ lf))) := by show _ = _; simp [h1, h2]
              have h2' : decide ((0 : Int) ≤ lf) = true := decide_eq_true h2
              clear h1
              go_wp2
              go_meet
              case rel => exact ⟨e3.out, rfl⟩
            · have e3 : Hid (Value.bool false = .bool (decide (j < fs.length ∧ 0 ≤ lf))) := by show _ = _; simp [h2]
              have h2' : decide ((0 : Int) ≤ lf) = false := decide_eq_false h2
              clear h1
              go_wp2
              go_meet
              case rel => exact ⟨e3.out, rfl⟩
          · have i2 : ¬ (j : Int) < (fs.length : Int) := by omega
            have e3 : Hid (Value.bool false = .bool (decide (j < fs.length ∧ 0 ≤ lf))) := by show _ = _; simp [h1]
            clear h1
            go_wp2
            go_meet
            case rel => exact ⟨e3.out, rfl⟩
        obtain ⟨rfl, hwc⟩ := hcut
        obtain rfl := hwc.symm
        by_cases hcont : j < fs.length ∧ 0 ≤ lf
        · rw [decide_eq_true hcont]
          obtain ⟨hjl, h0⟩ := hcont
          obtain ⟨g, o, rfl, hc, hr⟩ := HR2.out (fun e => by rw [e] at hjl; simp at hjl)
          obtain ⟨s0, ⟨ad, cap, q, _⟩, ad2, cap2, q2, _⟩ := hr j hjl
          have hk := Keeps.of HB.out HS.out
          have q := (hk.cell (p := ⟨g, o + j * 2, none⟩) s0).trans q
          have q2 := (hk.cell (p := ⟨g, o + j * 2 + 1, none⟩) s0).trans q2
          obtain ⟨hn1, hn2⟩ := HW.out.2 _ (List.getElem_mem hjl)
          have HST : Hid (((fs.take (j + 1)).map famz).sum = ((fs.take j).map famz).sum + (fs[j].1.length + fs[j].2.length)) := sum_take famz fs j hjl
          have i1 : (0 : Int) ≤ (j : Int) := by omega
          have i2 : (j : Int) < (fs.length : Int) := by omega
          have HH : Hid (0 ≤ lf ∧ j < fs.length) := ⟨h0, hjl⟩
          clear hk hr
          generalize fs[j].1.length = n1 at *
          generalize fs[j].2.length = n2 at *
          go_upto_region 9 with fail
          go_region_held3 (fun w' => w'.cell? ⟨g, o + j * 2, none⟩ = some (.slice ad n1 cap) ∧ w'.cell? ⟨g, o + j * 2 + 1, none⟩ = some (.slice ad2 n2 cap2)) (first | (with_reducible exact ⟨q, q2⟩) | assumption | go_keep) (first | fail)
          have hw1 : IntKind.i64.wrap (lf - (n1 : Int)) = lf - n1 := by rw [IntKind.wrap_i64]; omega
          have hw2 : IntKind.i64.wrap (lf - (n1 : Int) - n2) = lf - n1 - n2 := by rw [IntKind.wrap_i64]; omega
          rw [hw1, hw2]
          go_wp2
          refine ⟨⟨j + 1, lf - n1 - n2, HH.out.2, by go_num, rfl, by omega, by omega, HB.out.drew, fun hx0 => ?_⟩, by simp [intOf]; have := HH.out.2; omega⟩
          have h1 := HI.out HH.out.1
          rw [HST.out]
          omega
        · rw [decide_eq_false hcont]
          have HX : Hid (0 ≤ lf → rows.length + fs.length + (rows.map szs).sum + (fs.map famz).sum ≤ 10000) := fun h => by
            have hj2 : j = fs.length := by omega
            have := HI.out h
            rw [hj2, List.take_length] at this
            omega
          clear hcont HI
          go_wp2
          go_ret
          exact ⟨HB.out, _, rfl, fun h => HX.out (of_decide_eq_true h)⟩
end Go.Proofs.Ytpdmkhnonbbhnaa
