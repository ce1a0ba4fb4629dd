/- hasShapes: are the constructors right? hasShapes: are the constructors right? hasGlobals: are the globals' names and arities right? fits: is a number what it is to be? The document's heads: names and arities. -/
import Derived.Test.YtlpnegnpejpdkaaGreatDoorKe
import Derived.Test.YtlpnegnpejpdkaaGreatDoorMbx
import Derived.Laws.StructEq
namespace Go.Proofs.YtlpnegnpejpdkaaGreatDoor
open Go.RowKit

theorem bytes_eq (a b : Byt) : ((⟨a.toArray⟩ : ByteArray).toList == (⟨b.toArray⟩ : ByteArray).toList) = decide (a = b) := by
  rw [ByteArray.toList_eq, ByteArray.toList_eq]
  by_cases h : a = b
  · subst h
    simp
  · rw [decide_eq_false h]
    simpa using h
theorem Tryz.fields48 : (Tryz.prog.fieldsOf 48).toList.map (fun f => (f.name == "_", f.type, f.offset)) = [(false, 9, 0), (false, 3, 1)] := by kernel_rfl
theorem neq_shp (a b : Shp) (w : World) : (binOp .neq 48 (.agg #[.string ⟨a.1.toArray⟩, .int .i64 a.2]) (.agg #[.string ⟨b.1.toArray⟩, .int .i64 b.2])).run Tryz.prog w = .ok (.bool (decide (a ≠ b))) w := by
  rw [run_neq_struct]
  have ht : Tryz.prog.underlying 48 = some (.struct (Tryz.prog.fieldsOf 48)) := by kernel_rfl
  rw [run_equalIn_struct w 9999 48 _ _ ht (by kernel_rfl)]
  have hf : ∃ f1 f2 : Field, (Tryz.prog.fieldsOf 48).toList = [f1, f2] ∧ f1.name ≠ "_" ∧ f1.type = 9 ∧ f1.offset = 0 ∧ f2.name ≠ "_" ∧ f2.type = 3 ∧ f2.offset = 1 := by
    have h := Tryz.fields48
    generalize (Tryz.prog.fieldsOf 48).toList = l at h
    match l, h with
    | [], h => simp at h
    | [_], h => simp at h
    | _ :: _ :: _ :: _, h => simp at h
    | [f1, f2], h =>
      simp only [List.map_cons, List.map_nil, List.cons.injEq, Prod.mk.injEq, and_true, beq_eq_false_iff_ne] at h
      exact ⟨f1, f2, rfl, h.1.1, h.1.2.1, h.1.2.2, h.2.1, h.2.2.1, h.2.2.2⟩
  obtain ⟨f1, f2, e, n1, t1, o1, n2, t2, o2⟩ := hf
  rw [e]
  simp only [Op.eqFields, if_pos n1, if_pos n2, t1, t2, o1, o2]
  have q9 := Tryz.underlying9
  have q3 := Tryz.underlying3
  have e1 := bytes_eq a.1 b.1
  by_cases h1 : a.1 = b.1
  · rw [decide_eq_true h1] at e1
    by_cases h2 : a.2 = b.2
    · have e2 : (a.2 == b.2) = true := by simpa using h2
      have h3 : decide (a ≠ b) = false := decide_eq_false (by simp [Prod.ext_iff, h1, h2])
      rw [h3]
      go_simp
    · have e2 : (a.2 == b.2) = false := by simpa using h2
      have h3 : decide (a ≠ b) = true := decide_eq_true (by simp [Prod.ext_iff, h2])
      rw [h3]
      go_simp
  · rw [decide_eq_false h1] at e1
    have h3 : decide (a ≠ b) = true := decide_eq_true (by simp [Prod.ext_iff, h1])
    rw [h3]
    go_simp
end Go.Proofs.YtlpnegnpejpdkaaGreatDoor

namespace Go.Proofs.YtlpnegnpejpdkaaGreatDoor
open Go.RowKit

/-- The package's list of the first constructors, as it is laid. -/
def FirstAt (w : World) : Prop := ∃ v, w.cell? ⟨0, 0, none⟩ = some v ∧ RowE EShp w (fun y => y < w.heap.size) (fun y => y < w.heap.size) v sevenP
theorem row_below {α : Type} {E : Elt α} {w w' : World} {v : Value} {l : List α} (h : RowE E w (fun y => y < w.heap.size) (fun y => y < w.heap.size) v l) (hb : Below w.heap.size w w') : RowE E w' (fun y => y < w'.heap.size) (fun y => y < w'.heap.size) v l :=
  h.on (Keeps.of hb fun _ h => h) (Keeps.of hb fun _ h => h) (fun _ h => Nat.lt_of_lt_of_le h hb.size) fun _ h => Nat.lt_of_lt_of_le h hb.size
theorem FirstAt.below {w w' : World} (h : FirstAt w) (hb : Below w.heap.size w w') : FirstAt w' := by
  obtain ⟨v, h1, h2⟩ := h
  exact ⟨v, (hb.cell (p := ⟨0, 0, none⟩) (World.block_lt_of_cell? w _ h1)).trans h1, row_below h2 hb⟩
def namesOf (l : List (Byt × Int)) (i : Nat) : List Byt := (l.take i).map fun s => s.1
theorem names_succ {l : List (Byt × Int)} {i : Nat} (h : i < l.length) : namesOf l (i + 1) = namesOf l i ++ [l[i].1] := by
  unfold namesOf
  rw [List.take_succ_eq_append_getElem h, List.map_append]
  rfl
theorem things_step {most : Int} {l : List (Byt × Int)} {i : Nat} (h : i < l.length) : thingsP most (namesOf l i) (l.drop i) = (nameP l[i].1 && !(namesOf l i).contains l[i].1 && decide (0 ≤ l[i].2) && decide (l[i].2 ≤ most) && thingsP most (namesOf l (i + 1)) (l.drop (i + 1))) := by
  rw [List.drop_eq_getElem_cons h, names_succ h]
  rfl
set_option maxHeartbeats 8000000 in
set_option maxRecDepth 10000 in
theorem hasShapes_any {w : World} {v : Value} {l : List Shp} (h : RowE EShp w (fun y => y < w.heap.size) (fun y => y < w.heap.size) v l) (hl : l.length ≤ 2000) (hF : FirstAt w) : Calls Tryz.prog 28 #[v] w fun r w' => r = .returned (.bool (shapesP l)) ∧ Hid (Below w.heap.size w w') := by
  obtain ⟨ad, cap, rfl, _⟩ := shp_at h
  have HA : Hid (∀ w2, Below w.heap.size w w2 → ∀ i (hi : i < l.length), ∃ g o, ad = some ⟨g, o, none⟩ ∧ l.length ≤ cap ∧ w2.cell? ⟨g, o + i * 2, none⟩ = some (.string ⟨l[i].1.toArray⟩) ∧ w2.cell? ⟨g, o + i * 2 + 1, none⟩ = some (.int .i64 l[i].2) ∧ l[i].1.length < 140737488355328) := fun w2 hb i hi => by
    obtain ⟨ad', cap', e, hh⟩ := shp_at (row_below h hb)
    obtain ⟨rfl, -, rfl⟩ := Value.slice.inj e
    obtain ⟨g, o, q1, _, q2, q3, q4, q5⟩ := hh i hi
    exact ⟨g, o, q1, q2, q3, q4, q5⟩
  obtain ⟨fv, f1, f2⟩ := hF
  obtain ⟨fd, fcap, hfe, _⟩ := shp_at f2
  have hfe : fv = .slice fd 7 fcap := hfe
  subst hfe
  have HFW : Hid (∀ w2, Below w.heap.size w w2 → w2.cell? ⟨0, 0, none⟩ = some (.slice fd 7 fcap) ∧ ∀ i (hi : i < 7), ∃ g o, fd = some ⟨g, o, none⟩ ∧ 7 ≤ fcap ∧ w2.cell? ⟨g, o + i * 2, none⟩ = some (.string ⟨(sevenP[i]'hi).1.toArray⟩) ∧ w2.cell? ⟨g, o + i * 2 + 1, none⟩ = some (.int .i64 (sevenP[i]'hi).2)) := fun w2 hb => by
    obtain ⟨fd', fcap', e, hh⟩ := shp_at (row_below f2 hb)
    have e : Value.slice fd 7 fcap = .slice fd' 7 fcap' := e
    obtain ⟨rfl, -, rfl⟩ := Value.slice.inj e
    refine ⟨(hb.cell (p := ⟨0, 0, none⟩) (World.block_lt_of_cell? w _ f1)).trans f1, fun i hi => ?_⟩
    obtain ⟨g, o, q1, _, q2, q3, q4, _⟩ := hh i hi
    exact ⟨g, o, q1, q2, q3, q4⟩
  obtain ⟨R, hR⟩ : ∃ R, R = shapesP l := ⟨_, rfl⟩
  have HR : Hid (R = (thingsP 8 [] l && decide (7 ≤ l.length) && (l.take 7 == sevenP))) := hR
  rw [← hR]
  clear hR h f1 f2
  obtain ⟨B, hB⟩ : ∃ B, B = w.heap.size := ⟨_, rfl⟩
  obtain ⟨W, hW⟩ : ∃ W, W = w.alloc (.map #[] 0) := ⟨_, rfl⟩
  have HBW : Hid (Below w.heap.size w W) := by rw [hW]; exact (Below.refl _ _).alloc (Nat.le_refl _) _
  have HNW : Hid (Ns W B []) := by rw [hW, hB]; exact ⟨0, Nat.le_refl _, Mv.made w⟩
  have HBE : Hid (B = w.heap.size) := hB
  have HT0 : Hid (thingsP 8 (namesOf l 0) (l.drop 0) = thingsP 8 [] l) := rfl
  obtain ⟨R1, hR1⟩ : ∃ R1, R1 = thingsP 8 [] l := ⟨_, rfl⟩
  rw [← hR1] at HR HT0
  clear hB hR1
  have qm : (Instr.makeMap 108 none).run Tryz.prog w = .ok (.map (some w.heap.size)) (w.alloc (.map #[] 0)) := rfl
  go_enter Tryz.func28, Tryz.ntmps28
  go_upto_region 2 with fail
  rw [← hW, ← HBE.out]
  clear hW qm
  go_upto_region 3 with fail
  go_loopw [11] (fun iv wr => ∃ i : Nat, i ≤ l.length ∧ iv = .int .i64 i ∧ Hid (Below w.heap.size w wr) ∧ Hid (Ns wr B (namesOf l i)) ∧ Hid (thingsP 8 (namesOf l i) (l.drop i) = R1)) (fun iv _ => l.length - (intOf iv).toNat)
  case atStart => exact ⟨0, by omega, by go_num, HBW.out, HNW.out, HT0.out⟩
  case round =>
    clear HBW HNW HT0
    obtain ⟨i, hi, rfl, HB, HN, HT⟩ := hrel
    by_cases hil : i < l.length
    · obtain ⟨g, o, rfl, hlc, c0, c1, hs⟩ := HA.out wr HB.out i hil
      have i1 : (0 : Int) ≤ (i : Int) := by omega
      have i2 : (i : Int) < (l.length : Int) := by omega
      have HST : Hid ((nameP l[i].1 && !(namesOf l i).contains l[i].1 && decide (0 ≤ l[i].2) && decide (l[i].2 ≤ 8) && thingsP 8 (namesOf l (i + 1)) (l.drop (i + 1))) = R1) := by rw [← things_step hil]; exact HT.out
      have hsuc := names_succ hil
      obtain ⟨W2, hW2⟩ : ∃ W2, W2 = wr.alloc (.cells #[.string ⟨l[i].1.toArray⟩, .int .i64 l[i].2] 48) := ⟨_, rfl⟩
      have HB2 : Hid (Below w.heap.size w W2) := by rw [hW2]; exact HB.out.alloc HB.out.size _
      have hBl := HN.out.lt
      have HN2 : Ns W2 B (namesOf l i) := HN.out.on (by rw [hW2]; exact Below.heap_alloc _ _ _ hBl)
      have CA := add_any HN2 l[i].1 hs (by unfold namesOf; rw [List.length_map, List.length_take]; omega) (Nat.le_of_eq HBE.out.symm)
      obtain ⟨Y, hY⟩ : ∃ Y, Y = wr.heap.size := ⟨_, rfl⟩
      have hs2 : W2.heap.size = wr.heap.size + 1 := by rw [hW2]; exact World.size_alloc _ _
      have hYW : W2.heap[Y]? = some (.cells #[.string ⟨l[i].1.toArray⟩, .int .i64 l[i].2] 48 (0, 0)) := by rw [hW2, hY]; exact new_blk _ _
      have y0 : W2.cell? ⟨Y, 0, none⟩ = some (.string ⟨l[i].1.toArray⟩) := heap_cl hYW rfl
      have HYW : Hid (∀ w3 : World, (∀ y, y < W2.heap.size → y ≠ B → w3.heap[y]? = W2.heap[y]?) → w3.cell? ⟨Y, 1, none⟩ = some (.int .i64 l[i].2)) := fun w3 hk => heap_cl ((hk Y (by omega) (by omega)).trans hYW) rfl
      have HYE : Hid (Y = wr.heap.size) := hY
      rw [← hsuc] at CA
      clear HT HN HN2 hsuc hYW hY hs2 hBl hs
      generalize l[i].1 = nm at *
      generalize l[i].2 = fl at *
      generalize (nameP nm && !(namesOf l i).contains nm) = r at *
      go_upto_region 5 with fail
      rw [← hW2, ← HYE.out]
      clear hW2
      have qc := CA
      clear CA
      cases r with
      | false =>
        have HE : Hid (R = false) := by show R = _; rw [HR.out, ← HST.out]; rfl
        clear HST HR
        go_wp2_with (first | (go_at_call 66; (with_reducible refine Calls.mono qc ?_); rintro e' w3 ⟨rfl, HH⟩))
        go_ret
        exact ⟨ret_bool HE.out.symm, HB2.out.trans HH.out.1⟩
      | true =>
        by_cases h0 : fl < 0
        · have HE : Hid (R = false) := by show R = _; rw [HR.out, ← HST.out, decide_eq_false (show ¬ 0 ≤ fl by omega)]; rfl
          clear HST HR
          go_wp2_with (first | (go_at_call 66; (with_reducible refine Calls.mono qc ?_); rintro e' w3 ⟨rfl, HH⟩; have y1 := HYW.out w3 HH.out.2.1))
          go_ret
          exact ⟨ret_bool HE.out.symm, HB2.out.trans HH.out.1⟩
        · by_cases h8 : 8 < fl
          · have HE : Hid (R = false) := by show R = _; rw [HR.out, ← HST.out, decide_eq_false (show ¬ fl ≤ 8 by omega)]; simp
            clear HST HR
            go_wp2_with (first | (go_at_call 66; (with_reducible refine Calls.mono qc ?_); rintro e' w3 ⟨rfl, HH⟩; have y1 := HYW.out w3 HH.out.2.1))
            go_ret
            exact ⟨ret_bool HE.out.symm, HB2.out.trans HH.out.1⟩
          · have HS2 : Hid (thingsP 8 (namesOf l (i + 1)) (l.drop (i + 1)) = R1) := by
              show _ = R1
              have := HST.out
              rw [decide_eq_true (show 0 ≤ fl by omega), decide_eq_true (show fl ≤ 8 by omega)] at this
              simpa using this
            clear HST
            go_wp2_with (first | (go_at_call 66; (with_reducible refine Calls.mono qc ?_); rintro e' w3 ⟨rfl, HH⟩; have y1 := HYW.out w3 HH.out.2.1))
            have HB3 : Hid (Below w.heap.size w w3) := HB2.out.trans HH.out.1
            have HN3 : Hid (Ns w3 B (namesOf l (i + 1))) := HH.out.2.2 (by first | rfl | trivial)
            go_roundw
            case rel => exact ⟨i + 1, hil, by go_num, HB3.out, HN3.out, HS2.out⟩
            case measure => simp [intOf]; omega
    · have hin : i = l.length := by omega
      have e3 : ¬ ((i : Int) < (l.length : Int)) := by omega
      have HE1 : Hid (R1 = true) := by
        show R1 = true
        rw [← HT.out, hin, List.drop_length]
        rfl
      have HR2 : Hid (R = (decide (7 ≤ l.length) && (l.take 7 == sevenP))) := by
        show R = _
        rw [HR.out, HE1.out, Bool.true_and]
      clear HT HN HE1 HR hin hil hi
      obtain ⟨f0, _⟩ := HFW.out wr HB.out
      by_cases h7 : l.length < 7
      · have HE : Hid (R = false) := by show R = _; rw [HR2.out, decide_eq_false (show ¬ 7 ≤ l.length by omega)]; rfl
        go_wp2
        go_ret
        exact ⟨ret_bool HE.out.symm, HB.out⟩
      · go_upto_region 11 with fail
        go_loopw [38] (fun jv wr => ∃ j : Nat, j ≤ 7 ∧ jv = .int .i64 j ∧ Hid (Below w.heap.size w wr) ∧ Hid (∀ x (h1 : x < l.length) (h2 : x < 7), x < j → l[x] = sevenP[x]'h2)) (fun jv _ => 7 - (intOf jv).toNat)
        case atStart => exact ⟨0, by omega, by go_num, HB.out, fun x _ _ h => by omega⟩
        case round =>
          clear HB f0
          obtain ⟨j, hj, rfl, HB, HJ⟩ := hrel
          by_cases hj7 : j < 7
          · obtain ⟨_, hfr⟩ := HFW.out wr HB.out
            obtain ⟨fg, fo, rfl, hfc, fc0, fc1⟩ := hfr j hj7
            have i1 : (0 : Int) ≤ (j : Int) := by omega
            have i2 : (j : Int) < 7 := by omega
            have i4 : (j : Int) < (l.length : Int) := by omega
            obtain ⟨W3, hW3⟩ : ∃ W3, W3 = wr.alloc (.cells #[.string ⟨(sevenP[j]'hj7).1.toArray⟩, .int .i64 (sevenP[j]'hj7).2] 48) := ⟨_, rfl⟩
            have HB3 : Hid (Below w.heap.size w W3) := by rw [hW3]; exact HB.out.alloc HB.out.size _
            obtain ⟨Y, hY⟩ : ∃ Y, Y = wr.heap.size := ⟨_, rfl⟩
            have hYW : W3.heap[Y]? = some (.cells #[.string ⟨(sevenP[j]'hj7).1.toArray⟩, .int .i64 (sevenP[j]'hj7).2] 48 (0, 0)) := by rw [hW3, hY]; exact new_blk _ _
            have HB3d : Hid (Below w.heap.size w W3.drew) := HB3.out.drew
            obtain ⟨g, o, rfl, hlc, c0, c1, hs⟩ := HA.out W3.drew HB3d.out j (by omega)
            have y0 : W3.drew.cell? ⟨Y, 0, none⟩ = some (.string ⟨(sevenP[j]'hj7).1.toArray⟩) := heap_cl (w := W3.drew) hYW rfl
            have y1 : W3.drew.cell? ⟨Y, 1, none⟩ = some (.int .i64 (sevenP[j]'hj7).2) := heap_cl (w := W3.drew) hYW rfl
            have HYE : Hid (Y = wr.heap.size) := hY
            have HEQ : Hid ((decide (l[j]'(by omega) ≠ sevenP[j]'hj7) = true → R = false) ∧ (decide (l[j]'(by omega) ≠ sevenP[j]'hj7) = false → l[j]'(by omega) = sevenP[j]'hj7)) := by
              refine ⟨fun hne => ?_, fun he => by simpa using he⟩
              have hne : l[j]'(by omega) ≠ sevenP[j]'hj7 := by simpa using hne
              rw [HR2.out, decide_eq_true (show 7 ≤ l.length by omega), Bool.true_and]
              rw [beq_eq_false_iff_ne]
              intro e
              apply hne
              have : (l.take 7)[j]? = sevenP[j]? := by rw [e]
              rw [List.getElem?_take_of_lt hj7, List.getElem?_eq_getElem (by omega), List.getElem?_eq_getElem (show j < sevenP.length from hj7)] at this
              exact Option.some.inj this
            clear hYW hY hfr hs
            have hcm : (l[j]'(by omega)) = l[j]'(by omega) := rfl
            generalize hsj : sevenP[j]'hj7 = sj at *
            generalize hlj : l[j]'(by omega) = lj at *
            clear hcm
            by_cases h1 : lj.1 = sj.1
            · by_cases h2 : lj.2 = sj.2
              · have hls : lj = sj := Prod.ext h1 h2
                have HJ2 : Hid (∀ x (h1 : x < l.length) (h2 : x < 7), x < j + 1 → l[x] = sevenP[x]'h2) := fun x a b c => by
                  rcases Nat.lt_succ_iff_lt_or_eq.1 c with d | rfl
                  · exact HJ.out x a b d
                  · rw [hlj, hsj]; exact hls
                clear HEQ HJ hls hlj hsj
                go_upto_region 13 with fail
                rw [← hW3, ← HYE.out]
                clear hW3
                go_region
                all_goals
                  go_wp2
                  go_roundw
                  case rel => exact ⟨j + 1, hj7, by go_num, HB3d.out, HJ2.out⟩
                  case measure => simp [intOf]; omega
              · have HE : Hid (R = false) := HEQ.out.1 (decide_eq_true fun e => h2 (by rw [e]))
                clear HEQ HJ hlj hsj
                go_upto_region 13 with fail
                rw [← hW3, ← HYE.out]
                clear hW3
                go_region
                all_goals
                  go_wp2
                  go_ret
                  exact ⟨ret_bool HE.out.symm, HB3d.out⟩
            · have HE : Hid (R = false) := HEQ.out.1 (decide_eq_true fun e => h1 (by rw [e]))
              clear HEQ HJ hlj hsj
              go_upto_region 13 with fail
              rw [← hW3, ← HYE.out]
              clear hW3
              go_region
              all_goals
                go_wp2
                go_ret
                exact ⟨ret_bool HE.out.symm, HB3d.out⟩
          · have HE : Hid (R = true) := by
              show R = _
              rw [HR2.out, decide_eq_true (show 7 ≤ l.length by omega), Bool.true_and, beq_iff_eq]
              refine List.ext_getElem (by rw [List.length_take]; show _ = 7; omega) fun x a b => ?_
              rw [List.getElem_take]
              exact HJ.out x (by rw [List.length_take] at a; omega) b (by have : x < 7 := b; omega)
            have e4 : ¬ ((j : Int) < 7) := by omega
            clear HJ
            go_wp2
            go_ret
            exact ⟨ret_bool HE.out.symm, HB.out⟩
end Go.Proofs.YtlpnegnpejpdkaaGreatDoor

namespace Go.Proofs.YtlpnegnpejpdkaaGreatDoor
open Go.RowKit

set_option maxHeartbeats 8000000 in
set_option maxRecDepth 10000 in
theorem hasGlobals_any {w : World} {v : Value} {l : List Glb} (h : RowE EGlb w (fun y => y < w.heap.size) (fun y => y < w.heap.size) v l) (hl : l.length ≤ 2000) : Calls Tryz.prog 29 #[v] w fun r w' => r = .returned (.bool (headsP l)) ∧ Hid (Below w.heap.size w w') := by
  obtain ⟨ad, cap, rfl, _⟩ := glb_at h
  obtain ⟨m, hm⟩ : ∃ m : List (Byt × Int), m = l.map fun g => (g.1, g.2.1) := ⟨_, rfl⟩
  have hml : m.length = l.length := by rw [hm, List.length_map]
  have HA : Hid (∀ w2, Below w.heap.size w w2 → ∀ i (hi : i < m.length), ∃ g o, ad = some ⟨g, o, none⟩ ∧ l.length ≤ cap ∧ w2.cell? ⟨g, o + i * 3, none⟩ = some (.string ⟨m[i].1.toArray⟩) ∧ w2.cell? ⟨g, o + i * 3 + 1, none⟩ = some (.int .i64 m[i].2) ∧ m[i].1.length < 140737488355328) := fun w2 hb i hi => by
    obtain ⟨ad', cap', e, hh⟩ := glb_at (row_below h hb)
    obtain ⟨rfl, -, rfl⟩ := Value.slice.inj e
    obtain ⟨g, o, _, q1, _, q2, q3, q4, _, q5, _, _⟩ := hh i (by omega)
    have e : m[i] = ((l[i]'(by omega)).1, (l[i]'(by omega)).2.1) := by subst hm; simp
    rw [e]
    exact ⟨g, o, q1, q2, q3, q4, q5⟩
  obtain ⟨R, hR⟩ : ∃ R, R = headsP l := ⟨_, rfl⟩
  have hR2 : R = thingsP 24 [] m := by rw [hR, hm]; rfl
  rw [← hR]
  rw [← hml] at HA hl ⊢
  clear hR h hm
  obtain ⟨B, hB⟩ : ∃ B, B = w.heap.size := ⟨_, rfl⟩
  obtain ⟨W, hW⟩ : ∃ W, W = w.alloc (.map #[] 0) := ⟨_, rfl⟩
  have HBW : Hid (Below w.heap.size w W) := by rw [hW]; exact (Below.refl _ _).alloc (Nat.le_refl _) _
  have HNW : Hid (Ns W B []) := by rw [hW, hB]; exact ⟨0, Nat.le_refl _, Mv.made w⟩
  have HBE : Hid (B = w.heap.size) := hB
  have HT0 : Hid (thingsP 24 (namesOf m 0) (m.drop 0) = R) := hR2.symm
  clear hB hR2 hml
  have qm : (Instr.makeMap 108 none).run Tryz.prog w = .ok (.map (some w.heap.size)) (w.alloc (.map #[] 0)) := rfl
  go_enter Tryz.func29, Tryz.ntmps29
  go_upto_region 2 with fail
  rw [← hW, ← HBE.out]
  clear hW qm
  go_upto_region 3 with fail
  go_loopw [9] (fun iv wr => ∃ i : Nat, i ≤ m.length ∧ iv = .int .i64 i ∧ Hid (Below w.heap.size w wr) ∧ Hid (Ns wr B (namesOf m i)) ∧ Hid (thingsP 24 (namesOf m i) (m.drop i) = R)) (fun iv _ => m.length - (intOf iv).toNat)
  case atStart => exact ⟨0, by omega, by go_num, HBW.out, HNW.out, HT0.out⟩
  case round =>
    clear HBW HNW HT0
    obtain ⟨i, hi, rfl, HB, HN, HT⟩ := hrel
    by_cases hil : i < m.length
    · have him : i < m.length := hil
      obtain ⟨g, o, rfl, hlc, c0, c1, hs⟩ := HA.out wr HB.out i him
      have i1 : (0 : Int) ≤ (i : Int) := by omega
      have i2 : (i : Int) < (m.length : Int) := by omega
      have HST : Hid ((nameP m[i].1 && !(namesOf m i).contains m[i].1 && decide (0 ≤ m[i].2) && decide (m[i].2 ≤ 24) && thingsP 24 (namesOf m (i + 1)) (m.drop (i + 1))) = R) := by rw [← things_step him]; exact HT.out
      have hsuc := names_succ him
      have hBl := HN.out.lt
      have CA := add_any HN.out m[i].1 hs (by unfold namesOf; rw [List.length_map, List.length_take]; omega) (Nat.le_of_eq HBE.out.symm)
      have HC1 : Hid (∀ w3, Below w.heap.size w w3 → w3.cell? ⟨g, o + i * 3 + 1, none⟩ = some (.int .i64 m[i].2)) := fun w3 hb => by
        obtain ⟨g', o', e, _, _, q, _⟩ := HA.out w3 hb i him
        simp only [Option.some.injEq, Addr.mk.injEq, and_true] at e
        obtain ⟨rfl, rfl⟩ := e
        exact q
      rw [← hsuc] at CA
      clear HT HN hsuc hBl hs c1
      generalize m[i].1 = nm at *
      generalize m[i].2 = fl at *
      generalize (nameP nm && !(namesOf m i).contains nm) = r at *
      have qc := CA
      clear CA
      cases r with
      | false =>
        have HE : Hid (R = false) := by show R = _; rw [← HST.out]; rfl
        clear HST
        go_wp2_with (first | (go_at_call 66; (with_reducible refine Calls.mono qc ?_); rintro e' w3 ⟨rfl, HH⟩))
        go_ret
        exact ⟨ret_bool HE.out.symm, HB.out.trans HH.out.1⟩
      | true =>
        by_cases h0 : fl < 0
        · have HE : Hid (R = false) := by show R = _; rw [← HST.out, decide_eq_false (show ¬ 0 ≤ fl by omega)]; rfl
          clear HST
          go_wp2_with (first | (go_at_call 66; (with_reducible refine Calls.mono qc ?_); rintro e' w3 ⟨rfl, HH⟩; have y1 := HC1.out w3 (HB.out.trans HH.out.1)))
          go_ret
          exact ⟨ret_bool HE.out.symm, HB.out.trans HH.out.1⟩
        · by_cases h8 : 24 < fl
          · have HE : Hid (R = false) := by show R = _; rw [← HST.out, decide_eq_false (show ¬ fl ≤ 24 by omega)]; simp
            clear HST
            go_wp2_with (first | (go_at_call 66; (with_reducible refine Calls.mono qc ?_); rintro e' w3 ⟨rfl, HH⟩; have y1 := HC1.out w3 (HB.out.trans HH.out.1)))
            go_ret
            exact ⟨ret_bool HE.out.symm, HB.out.trans HH.out.1⟩
          · have HS2 : Hid (thingsP 24 (namesOf m (i + 1)) (m.drop (i + 1)) = R) := by
              show _ = R
              have := HST.out
              rw [decide_eq_true (show 0 ≤ fl by omega), decide_eq_true (show fl ≤ 24 by omega)] at this
              simpa using this
            clear HST
            go_wp2_with (first | (go_at_call 66; (with_reducible refine Calls.mono qc ?_); rintro e' w3 ⟨rfl, HH⟩; have y1 := HC1.out w3 (HB.out.trans HH.out.1)))
            have HB3 : Hid (Below w.heap.size w w3) := HB.out.trans HH.out.1
            have HN3 : Hid (Ns w3 B (namesOf m (i + 1))) := HH.out.2.2 (by first | rfl | trivial)
            go_roundw
            case rel => exact ⟨i + 1, hil, by go_num, HB3.out, HN3.out, HS2.out⟩
            case measure => simp [intOf]; omega
    · have hin : i = m.length := by omega
      have e3 : ¬ ((i : Int) < (m.length : Int)) := by omega
      have HE1 : Hid (R = true) := by
        show R = true
        rw [← HT.out, hin, List.drop_length]
        rfl
      clear HT HN hin hil hi
      go_wp2
      go_ret
      exact ⟨ret_bool HE1.out.symm, HB.out⟩
end Go.Proofs.YtlpnegnpejpdkaaGreatDoor

namespace Go.Proofs.YtlpnegnpejpdkaaGreatDoor
open Go.RowKit

set_option maxHeartbeats 8000000 in
set_option maxRecDepth 10000 in
theorem fits_any {w : World} (ad bd : Option Addr) (ns ng cap bcap : Nat) (k : Nat) (hk : k ≤ 8) (n : Int) : Calls Tryz.prog 68 #[.agg #[.slice ad ns cap, .slice bd ng bcap], .int .i64 k, .int .i64 n] w fun r w' => r = .returned (.bool (fitsP ns ng k n)) ∧ Hid (Below w.heap.size w w') := by
  obtain ⟨R, hR⟩ : ∃ R, R = fitsP ns ng k n := ⟨_, rfl⟩
  rw [← hR]
  have HR : Hid (R = fitsP ns ng k n) := hR
  obtain ⟨X, hX⟩ : ∃ X, X = w.heap.size := ⟨_, rfl⟩
  obtain ⟨W, hW⟩ : ∃ W, W = w.alloc (.cells #[.slice ad ns cap, .slice bd ng bcap] 25) := ⟨_, rfl⟩
  have HBW : Hid (Below w.heap.size w W) := by rw [hW]; exact (Below.refl _ _).alloc (Nat.le_refl _) _
  have hXW : W.heap[X]? = some (.cells #[.slice ad ns cap, .slice bd ng bcap] 25 (0, 0)) := by rw [hW, hX]; exact new_blk _ _
  have x0 : W.cell? ⟨X, 0, none⟩ = some (.slice ad ns cap) := heap_cl hXW rfl
  have x1 : W.cell? ⟨X, 1, none⟩ = some (.slice bd ng bcap) := heap_cl hXW rfl
  have HXE : Hid (X = w.heap.size) := hX
  clear hX hR hXW
  have CI := isInt_any n W
  match k, hk with
  | 0, _ =>
    go_enter Tryz.func68, Tryz.ntmps68
    go_upto_region 1 with fail
    rw [← hW, ← HXE.out]
    clear hW
    go_wp2
    go_ret
    exact ⟨ret_bool (by rw [HR.out]; by_cases h0 : n = 0 <;> simp [fitsP, h0]), HBW.out⟩
  | 1, _ =>
    go_enter Tryz.func68, Tryz.ntmps68
    go_upto_region 1 with fail
    rw [← hW, ← HXE.out]
    clear hW
    go_wp2
    go_ret
    exact ⟨ret_bool (by rw [HR.out]; simp [fitsP]), HBW.out⟩
  | 2, _ =>
    go_enter Tryz.func68, Tryz.ntmps68
    go_upto_region 1 with fail
    rw [← hW, ← HXE.out]
    clear hW
    go_wp2
    go_ret
    exact ⟨ret_bool (by rw [HR.out]; simp [fitsP]), HBW.out⟩
  | 3, _ =>
    go_enter Tryz.func68, Tryz.ntmps68
    go_upto_region 1 with fail
    rw [← hW, ← HXE.out]
    clear hW
    go_wp2_with (go_at_call 104; (with_reducible refine Calls.mono CI ?_); rintro e w' ⟨rfl, hw⟩; obtain rfl := hw.symm)
    go_ret
    exact ⟨ret_bool (by rw [HR.out]; rfl), HBW.out⟩
  | 4, _ =>
    go_enter Tryz.func68, Tryz.ntmps68
    go_upto_region 1 with fail
    rw [← hW, ← HXE.out]
    clear hW
    by_cases h1 : 0 ≤ n
    · by_cases h2 : n < (ns : Int)
      · go_wp2
        go_ret
        exact ⟨ret_bool (by rw [HR.out]; simp [fitsP]; omega), HBW.out⟩
      · go_wp2
        go_ret
        exact ⟨ret_bool (by rw [HR.out]; simp [fitsP]; omega), HBW.out⟩
    · go_wp2
      go_ret
      exact ⟨ret_bool (by rw [HR.out]; simp [fitsP]; omega), HBW.out⟩
  | 5, _ =>
    go_enter Tryz.func68, Tryz.ntmps68
    go_upto_region 1 with fail
    rw [← hW, ← HXE.out]
    clear hW
    by_cases h1 : 0 ≤ n
    · by_cases h2 : n < (ng : Int)
      · go_wp2
        go_ret
        exact ⟨ret_bool (by rw [HR.out]; simp [fitsP]; omega), HBW.out⟩
      · go_wp2
        go_ret
        exact ⟨ret_bool (by rw [HR.out]; simp [fitsP]; omega), HBW.out⟩
    · go_wp2
      go_ret
      exact ⟨ret_bool (by rw [HR.out]; simp [fitsP]; omega), HBW.out⟩
  | 6, _ =>
    go_enter Tryz.func68, Tryz.ntmps68
    go_upto_region 1 with fail
    rw [← hW, ← HXE.out]
    clear hW
    by_cases h1 : 1 ≤ n
    · by_cases h2 : n ≤ 11
      · go_wp2
        go_ret
        exact ⟨ret_bool (by rw [HR.out]; simp [fitsP]; omega), HBW.out⟩
      · go_wp2
        go_ret
        exact ⟨ret_bool (by rw [HR.out]; simp [fitsP]; omega), HBW.out⟩
    · go_wp2
      go_ret
      exact ⟨ret_bool (by rw [HR.out]; simp [fitsP]; omega), HBW.out⟩
  | 7, _ =>
    go_enter Tryz.func68, Tryz.ntmps68
    go_upto_region 1 with fail
    rw [← hW, ← HXE.out]
    clear hW
    go_wp2
    go_ret
    exact ⟨ret_bool (by rw [HR.out]; simp [fitsP]), HBW.out⟩
  | 8, _ =>
    go_enter Tryz.func68, Tryz.ntmps68
    go_upto_region 1 with fail
    rw [← hW, ← HXE.out]
    clear hW
    by_cases h1 : 1 ≤ n
    · by_cases h2 : n ≤ 4
      · go_wp2
        go_ret
        exact ⟨ret_bool (by rw [HR.out]; simp [fitsP]; omega), HBW.out⟩
      · go_wp2
        go_ret
        exact ⟨ret_bool (by rw [HR.out]; simp [fitsP]; omega), HBW.out⟩
    · go_wp2
      go_ret
      exact ⟨ret_bool (by rw [HR.out]; simp [fitsP]; omega), HBW.out⟩
  | k + 9, h => omega
/-- The words of the instructions. -/
def wordsP : List Byt := [[], [112, 117, 115, 104], [103, 108, 111, 98], [105, 110, 116], [112, 111, 112], [115, 108, 105, 100, 101], [97, 112, 112, 108, 121], [117, 112, 100, 97, 116, 101], [97, 108, 108, 111, 99], [112, 97, 99, 107], [115, 112, 108, 105, 116], [101, 118, 97, 108], [97, 114, 105, 116, 104], [106, 117, 109, 112], [116, 101, 115, 116, 99, 111, 110], [116, 101, 115, 116, 105, 110, 116], [102, 97, 105, 108], [117, 110, 119, 105, 110, 100]]
/-- The package's table of instructions, as it is laid. -/
structure RowsAt (w : World) (rd : Option Addr) (rcap : Nat) : Prop where
  cell : w.cell? ⟨1, 0, none⟩ = some (.slice rd 18 rcap)
  row : ∀ i, i < 18 → ∃ g o, rd = some ⟨g, o, none⟩ ∧ 18 ≤ rcap ∧ g < w.heap.size ∧ w.cell? ⟨g, o + i * 3, none⟩ = some (.string ⟨(wordsP.getD i []).toArray⟩) ∧ w.cell? ⟨g, o + i * 3 + 1, none⟩ = some (.int .i64 ((kindsP.getD i (0, 0)).1 : Nat)) ∧ w.cell? ⟨g, o + i * 3 + 2, none⟩ = some (.int .i64 ((kindsP.getD i (0, 0)).2 : Nat))
theorem RowsAt.below {w w' : World} {rd : Option Addr} {rcap : Nat} (h : RowsAt w rd rcap) (hb : Below w.heap.size w w') : RowsAt w' rd rcap := by
  refine ⟨(hb.cell (p := ⟨1, 0, none⟩) (World.block_lt_of_cell? w _ h.cell)).trans h.cell, fun i hi => ?_⟩
  obtain ⟨g, o, e, hc, hg, q1, q2, q3⟩ := h.row i hi
  exact ⟨g, o, e, hc, Nat.lt_of_lt_of_le hg hb.size, (hb.cell (p := ⟨g, o + i * 3, none⟩) hg).trans q1, (hb.cell (p := ⟨g, o + i * 3 + 1, none⟩) hg).trans q2, (hb.cell (p := ⟨g, o + i * 3 + 2, none⟩) hg).trans q3⟩
theorem kinds_at {op : Int} {i : Nat} (h : op = (i : Int)) : kindA op = (kindsP.getD i (0, 0)).1 ∧ kindB op = (kindsP.getD i (0, 0)).2 := by
  subst h
  exact ⟨rfl, rfl⟩
theorem kinds_le (op : Int) : kindA op ≤ 8 ∧ kindB op ≤ 8 := by
  have h : ∀ i, (kindsP.getD i (0, 0)).1 ≤ 8 ∧ (kindsP.getD i (0, 0)).2 ≤ 8 := fun i => by
    by_cases hi : i < 18
    · have : ∀ i : Fin 18, (kindsP.getD i.1 (0, 0)).1 ≤ 8 ∧ (kindsP.getD i.1 (0, 0)).2 ≤ 8 := by decide
      exact this ⟨i, hi⟩
    · have : kindsP.getD i (0, 0) = (0, 0) := by
        have h18 : kindsP.length = 18 := rfl
        simp [List.getD, List.getElem?_eq_none (show kindsP.length ≤ i by omega)]
      rw [this]
      exact ⟨by decide, by decide⟩
  exact h op.toNat
/-- What targetOf answers. -/
def tgtV (x : Ins) : Value := match targetP x with
  | some to => .tuple #[.int .i64 to, .bool true]
  | none => .tuple #[.int .i64 0, .bool false]
set_option maxHeartbeats 8000000 in
set_option maxRecDepth 10000 in
theorem target_any {w : World} {rd : Option Addr} {rcap : Nat} (hR : RowsAt w rd rcap) (x : Ins) (hx : isOpP x.1 = true) : Calls Tryz.prog 69 #[.agg #[.int .i64 x.1, .int .i64 x.2.1, .int .i64 x.2.2]] w fun r w' => r = .returned (tgtV x) ∧ Hid (Below w.heap.size w w') := by
  obtain ⟨op, a, b⟩ := x
  have hop : 1 ≤ op ∧ op ≤ 17 := by unfold isOpP at hx; simpa using hx
  obtain ⟨i, rfl⟩ : ∃ i : Nat, op = (i : Int) := ⟨op.toNat, by omega⟩
  obtain ⟨X, hX⟩ : ∃ X, X = w.heap.size := ⟨_, rfl⟩
  obtain ⟨W, hW⟩ : ∃ W, W = w.alloc (.cells #[.int .i64 (i : Int), .int .i64 a, .int .i64 b] 53) := ⟨_, rfl⟩
  have hBW : Below w.heap.size w W := by rw [hW]; exact (Below.refl _ _).alloc (Nat.le_refl _) _
  have hXW : W.heap[X]? = some (.cells #[.int .i64 (i : Int), .int .i64 a, .int .i64 b] 53 (0, 0)) := by rw [hW, hX]; exact new_blk _ _
  have x0 : W.cell? ⟨X, 0, none⟩ = some (.int .i64 (i : Int)) := heap_cl hXW rfl
  have hRW := hR.below hBW
  have r0 := hRW.cell
  obtain ⟨g, o, rfl, hc, hg, q1, q2, q3⟩ := hRW.row i (by omega)
  obtain ⟨k1, k2⟩ := kinds_at (i := i) rfl
  rw [← k1] at q2
  rw [← k2] at q3
  obtain ⟨Y, hY⟩ : ∃ Y, Y = W.heap.size := ⟨_, rfl⟩
  obtain ⟨W2, hW2⟩ : ∃ W2, W2 = W.alloc (.cells #[.string ⟨(wordsP.getD i []).toArray⟩, .int .i64 (kindA (i : Int) : Nat), .int .i64 (kindB (i : Int) : Nat)] 112) := ⟨_, rfl⟩
  have hBW2 : Below W.heap.size W W2 := by rw [hW2]; exact (Below.refl _ _).alloc (Nat.le_refl _) _
  have hYW : W2.heap[Y]? = some (.cells #[.string ⟨(wordsP.getD i []).toArray⟩, .int .i64 (kindA (i : Int) : Nat), .int .i64 (kindB (i : Int) : Nat)] 112 (0, 0)) := by rw [hW2, hY]; exact new_blk _ _
  have y1 : W2.cell? ⟨Y, 1, none⟩ = some (.int .i64 (kindA (i : Int) : Nat)) := heap_cl hYW rfl
  have y2 : W2.cell? ⟨Y, 2, none⟩ = some (.int .i64 (kindB (i : Int) : Nat)) := heap_cl hYW rfl
  have hXW2 : W2.heap[X]? = some (.cells #[.int .i64 (i : Int), .int .i64 a, .int .i64 b] 53 (0, 0)) := (hBW2.block X (lt_heap hXW)).trans hXW
  have x1 : W2.cell? ⟨X, 1, none⟩ = some (.int .i64 a) := heap_cl hXW2 rfl
  have x2 : W2.cell? ⟨X, 2, none⟩ = some (.int .i64 b) := heap_cl hXW2 rfl
  have HB : Hid (Below w.heap.size w W2) := hBW.trans (hBW2.mono hBW.size)
  have HXE : Hid (X = w.heap.size) := hX
  have HYE : Hid (Y = W.heap.size) := hY
  have i1 : (0 : Int) ≤ (i : Int) := by omega
  have i2 : (i : Int) < 18 := by omega
  have HA : Hid (kindA (i : Int) = 7 → tgtV ((i : Int), a, b) = .tuple #[.int .i64 a, .bool true]) := fun e => by unfold tgtV targetP; rw [if_pos e]
  have HB2 : Hid (kindA (i : Int) ≠ 7 → kindB (i : Int) = 7 → tgtV ((i : Int), a, b) = .tuple #[.int .i64 b, .bool true]) := fun e e2 => by unfold tgtV targetP; rw [if_neg e, if_pos e2]
  have HC : Hid (kindA (i : Int) ≠ 7 → kindB (i : Int) ≠ 7 → tgtV ((i : Int), a, b) = .tuple #[.int .i64 0, .bool false]) := fun e e2 => by unfold tgtV targetP; rw [if_neg e, if_neg e2]
  clear hX hY hXW hYW hXW2 hBW hBW2 hRW hR hx hop k1 k2 hg
  generalize kindA (i : Int) = ka at *
  generalize kindB (i : Int) = kb at *
  generalize tgtV ((i : Int), a, b) = tv at *
  generalize wordsP.getD i [] = wd at *
  go_enter Tryz.func69, Tryz.ntmps69
  go_upto_region 1 with fail
  rw [← hW, ← HXE.out]
  clear hW
  go_upto_region 2 with fail
  rw [← hW2, ← HYE.out]
  clear hW2
  by_cases h1 : ka = 7
  · have e1 : ((ka : Int) == 7) = true := by simp [h1]
    go_wp2
    go_ret2
    exact ⟨by rw [HA.out h1]; rfl, HB.out⟩
  · have e1 : ((ka : Int) == 7) = false := by simp; omega
    by_cases h2 : kb = 7
    · have e2 : ((kb : Int) == 7) = true := by simp [h2]
      go_wp2
      go_ret2
      exact ⟨by rw [HB2.out h1 h2]; rfl, HB.out⟩
    · have e2 : ((kb : Int) == 7) = false := by simp; omega
      go_wp2
      go_ret2
      exact ⟨by rw [HC.out h1 h2]; rfl, HB.out⟩
end Go.Proofs.YtlpnegnpejpdkaaGreatDoor

namespace Go.Proofs.YtlpnegnpejpdkaaGreatDoor
open Go.RowKit

theorem names_no {m : List (Byt × Int)} {i : Nat} (hi : i < m.length) (h : ∀ x (hx : x < m.length), x < i → m[x].1 ≠ m[i].1) : (namesOf m i).contains m[i].1 = false := by
  rw [← Bool.not_eq_true, List.contains_iff_mem]
  intro hm
  unfold namesOf at hm
  obtain ⟨s, hs, e⟩ := List.mem_map.1 hm
  obtain ⟨x, hx, rfl⟩ := List.getElem_of_mem hs
  rw [List.length_take] at hx
  rw [List.getElem_take] at e
  exact h x (by omega) (by omega) e
theorem names_yes {m : List (Byt × Int)} {i k : Nat} (hi : i < m.length) (hk : k < i) (h : m[k].1 = m[i].1) : (namesOf m i).contains m[i].1 = true := by
  rw [List.contains_iff_mem]
  unfold namesOf
  refine List.mem_map.2 ⟨m[k], ?_, h⟩
  exact List.mem_iff_getElem.2 ⟨k, by rw [List.length_take]; omega, by rw [List.getElem_take]⟩
set_option maxHeartbeats 16000000 in
set_option maxRecDepth 10000 in
theorem heads_ref {w : World} {v : Value} {l : List Glb} (h : RowE EGlb w (fun y => y < w.heap.size) (fun y => y < w.heap.size) v l) (hl : l.length < 140737488355328) : Calls Tryz.prog 33 #[v] w fun r w' => r = .returned (.int .i64 (if headsP l then 0 else 172)) ∧ Hid (Below w.heap.size w w') := by
  obtain ⟨m, hm⟩ : ∃ m, m = l.map fun g : Glb => (g.1, g.2.1) := ⟨_, rfl⟩
  have hml : m.length = l.length := by rw [hm, List.length_map]
  obtain ⟨ad, cap, rfl, _⟩ := glb_at h
  have HA : Hid (∀ w2, Below w.heap.size w w2 → ∀ i (hi : i < m.length), ∃ g o, ad = some ⟨g, o, none⟩ ∧ m.length ≤ cap ∧ w2.cell? ⟨g, o + i * 3, none⟩ = some (.string ⟨m[i].1.toArray⟩) ∧ w2.cell? ⟨g, o + i * 3 + 1, none⟩ = some (.int .i64 m[i].2) ∧ m[i].1.length < 140737488355328) := fun w2 hb i hi => by
    obtain ⟨ad', cap', e, hh⟩ := glb_at (row_below h hb)
    obtain ⟨rfl, -, rfl⟩ := Value.slice.inj e
    obtain ⟨g, o, cv, q1, _, q2, q3, q4, _, q6, _⟩ := hh i (by omega)
    subst hm
    rw [List.getElem_map]
    exact ⟨g, o, q1, by omega, q3, q4, q6⟩
  obtain ⟨R1, hR⟩ : ∃ R, R = headsP l := ⟨_, rfl⟩
  have HT0 : Hid (thingsP 24 (namesOf m 0) (m.drop 0) = R1) := by rw [hR, hm]; rfl
  obtain ⟨E, hE⟩ : ∃ E : Int, E = (if headsP l then 0 else 172) := ⟨_, rfl⟩
  rw [← hE]
  have HE0 : Hid (R1 = true → E = 0) := fun h => by rw [hE, ← hR, h]; rfl
  have HE1 : Hid (R1 = false → E = 172) := fun h => by rw [hE, ← hR, h]; rfl
  rw [← hml]
  have hml2 : m.length < 140737488355328 := by omega
  clear h hR hm hml hl hE
  go_enter Tryz.func33, Tryz.ntmps33
  go_upto_region 2 with fail
  go_loopw [3] (fun iv wr => ∃ i : Nat, i ≤ m.length ∧ iv = .int .i64 i ∧ Hid (Below w.heap.size w wr) ∧ Hid (thingsP 24 (namesOf m i) (m.drop i) = R1)) (fun iv _ => m.length - (intOf iv).toNat)
  case atStart => exact ⟨0, by omega, by go_num, Below.refl _ _, HT0.out⟩
  case round =>
    clear HT0
    obtain ⟨i, hi, rfl, HB, HT⟩ := hrel
    by_cases hil : i < m.length
    · obtain ⟨g, o, rfl, hlc, c0, c1, hs⟩ := HA.out wr HB.out i hil
      have HST : Hid ((nameP m[i].1 && !(namesOf m i).contains m[i].1 && decide (0 ≤ m[i].2) && decide (m[i].2 ≤ 24) && thingsP 24 (namesOf m (i + 1)) (m.drop (i + 1))) = R1) := by
        show _ = _
        rw [← things_step hil]
        exact HT.out
      have HYES : Hid (∀ k, k < i → ∀ h : k < m.length, m[k].1 = m[i].1 → R1 = false) := fun k hk h e => by
        rw [← HST.out, names_yes hil hk e]
        simp
      have HNO : Hid ((∀ x (hx : x < m.length), x < i → m[x].1 ≠ m[i].1) → nameP m[i].1 = true → 0 ≤ m[i].2 → m[i].2 ≤ 24 → thingsP 24 (namesOf m (i + 1)) (m.drop (i + 1)) = R1) := fun h h1 h2 h3 => by
        rw [← HST.out, names_no hil h, h1, decide_eq_true h2, decide_eq_true h3]
        simp
      have HN1 : Hid (nameP m[i].1 = false → R1 = false) := fun h => by rw [← HST.out, h]; simp
      have HN2 : Hid (m[i].2 < 0 → R1 = false) := fun h => by rw [← HST.out, decide_eq_false (show ¬ 0 ≤ m[i].2 by omega)]; simp
      have HN3 : Hid (24 < m[i].2 → R1 = false) := fun h => by rw [← HST.out, decide_eq_false (show ¬ m[i].2 ≤ 24 by omega)]; simp
      have i1 : (0 : Int) ≤ (i : Int) := by omega
      have i2 : (i : Int) < (m.length : Int) := by omega
      have CN := name_ref m[i].1 wr hs
      clear HT HST
      generalize hmi : m[i] = mi at *
      obtain ⟨a, f⟩ := mi
      simp only at c0 c1 CN HYES HNO HN1 HN2 HN3
      go_upto_region 5 with (go_at_call 71; (with_reducible refine Calls.mono CN ?_); rintro e2 w2 ⟨rfl, rfl⟩)
      clear CN
      by_cases h1 : nameP a = true
      case neg =>
        have HE : Hid (R1 = false) := HN1.out (by simpa using h1)
        have h1' : nameP a = false := by simpa using h1
        clear HYES HNO HN1 HN2 HN3
        rw [h1']
        go_wp2
        go_ret
        exact ⟨by rw [HE1.out HE.out]; rfl, HB.out⟩
      have HNA : Hid (nameP a = true) := h1
      rw [h1]
      clear h1 HN1
      by_cases h2 : f < 0
      case pos =>
        have HE : Hid (R1 = false) := HN2.out h2
        clear HYES HNO HN2 HN3
        go_wp2
        go_ret
        exact ⟨by rw [HE1.out HE.out]; rfl, HB.out⟩
      by_cases h3 : 24 < f
      case pos =>
        have HE : Hid (R1 = false) := HN3.out h3
        clear HYES HNO HN2 HN3
        go_wp2
        go_ret
        exact ⟨by rw [HE1.out HE.out]; rfl, HB.out⟩
      have HNO2 : Hid ((∀ x (hx : x < m.length), x < i → m[x].1 ≠ a) → thingsP 24 (namesOf m (i + 1)) (m.drop (i + 1)) = R1) := fun h => HNO.out h HNA.out (by omega) (by omega)
      clear HNO HN2 HN3 HNA
      go_upto_region 8 with fail
      go_loopw [5] (fun kv wr => ∃ k : Nat, k ≤ i ∧ kv = .int .i64 k ∧ Hid (Below w.heap.size w wr) ∧ Hid (∀ x (hx : x < m.length), x < k → m[x].1 ≠ a)) (fun kv _ => i - (intOf kv).toNat)
      case atStart => exact ⟨0, by omega, by go_num, HB.out, fun x _ h => by omega⟩
      case round =>
        clear HB c0 c1
        obtain ⟨k, hk, rfl, HB, HK⟩ := hrel
        by_cases hki : k < i
        · have HBd : Hid (Below w.heap.size w wr.drew) := HB.out.drew
          obtain ⟨g', o', eg, _, c0, c1, _⟩ := HA.out wr.drew HBd.out i hil
          obtain ⟨g2, o2, eg2, _, d0, d1, _⟩ := HA.out wr.drew HBd.out k (by omega)
          simp only [Option.some.injEq, Addr.mk.injEq, and_true] at eg eg2
          obtain ⟨rfl, rfl⟩ := eg
          obtain ⟨rfl, rfl⟩ := eg2
          rw [hmi] at c0 c1
          simp only at c0 c1
          have k1 : (0 : Int) ≤ (k : Int) := by omega
          have k2 : (k : Int) < (m.length : Int) := by omega
          have k3 : (k : Int) < (i : Int) := by omega
          have HY2 : Hid (m[k].1 = a → R1 = false) := fun h => HYES.out k hki (by omega) h
          have HK2 : Hid (m[k].1 ≠ a → ∀ x (hx : x < m.length), x < k + 1 → m[x].1 ≠ a) := fun h x hx hxk => by
            rcases Nat.lt_succ_iff_lt_or_eq.1 hxk with q | rfl
            · exact HK.out x hx q
            · exact h
          clear HK d1 c1
          generalize m[k].1 = b at *
          by_cases e : b = a
          · have HE : Hid (R1 = false) := HY2.out e
            subst e
            have e1 : (b == b) = true := beq_self_eq_true _
            clear HY2 HK2 HYES HNO2
            go_wp2
            go_region
            all_goals
              go_wp2
              go_ret
              exact ⟨by rw [HE1.out HE.out]; rfl, HBd.out⟩
          · have HK3 : Hid (∀ x (hx : x < m.length), x < k + 1 → m[x].1 ≠ a) := HK2.out e
            have e1 : (b == a) = false := by simpa using e
            clear HY2 HK2
            go_wp2
            go_region
            all_goals
              go_wp2
              go_roundw
              case rel => exact ⟨k + 1, hki, by go_num, HBd.out, HK3.out⟩
              case measure => simp [intOf]; omega
        · have hke : k = i := by omega
          have HNX : Hid (thingsP 24 (namesOf m (i + 1)) (m.drop (i + 1)) = R1) := HNO2.out (fun x hx h => HK.out x hx (by omega))
          have k3 : ¬ (k : Int) < (i : Int) := by omega
          clear HNO2 HYES HK
          go_wp2
          go_roundw
          case rel => exact ⟨i + 1, hil, by go_num, HB.out, HNX.out⟩
          case measure => simp [intOf]; omega
    · have HE : Hid (R1 = true) := by
        show _ = _
        rw [← HT.out, List.drop_eq_nil_of_le (by omega)]
        rfl
      have e3 : ¬ ((i : Int) < (m.length : Int)) := by omega
      clear HT
      go_wp2
      go_ret
      exact ⟨by rw [HE0.out HE.out]; rfl, HB.out⟩
end Go.Proofs.YtlpnegnpejpdkaaGreatDoor
