/- byteWriter.table: a table's bytes, the walk. byteReader: numbers. byteReader: counts. -/
import Derived.Test.YtlpnegnpejpdkaaGreatDoorMgx
import Derived.WalkLawsBesides
namespace Go.Proofs.YtlpnegnpejpdkaaGreatDoor
open Go.RowKit

theorem shps_next {l : List Shp} {i : Nat} (h : i < l.length) (r : Byt) : ((l.drop i).map shpW).flatten ++ r = nameW l[i].1 ++ (numW l[i].2.toNat ++ (((l.drop (i + 1)).map shpW).flatten ++ r)) := by
  rw [List.drop_eq_getElem_cons h]
  simp only [List.map_cons, List.flatten_cons, shpW, List.append_assoc]
theorem glbs_next {l : List Glb} {i : Nat} (h : i < l.length) (r : Byt) : ((l.drop i).map glbW).flatten ++ r = nameW l[i].1 ++ (numW l[i].2.1.toNat ++ (numW l[i].2.2.length ++ ((l[i].2.2.map insW).flatten ++ (((l.drop (i + 1)).map glbW).flatten ++ r)))) := by
  rw [List.drop_eq_getElem_cons h]
  simp only [List.map_cons, List.flatten_cons, glbW, List.append_assoc]
theorem inss_next {l : List Ins} {i : Nat} (h : i < l.length) (r : Byt) : ((l.drop i).map insW).flatten ++ r = numW l[i].1.toNat ++ (restW l[i] ++ (((l.drop (i + 1)).map insW).flatten ++ r)) := by
  rw [List.drop_eq_getElem_cons h]
  simp only [List.map_cons, List.flatten_cons, insW_rest, List.append_assoc]
theorem own_bts {w : World} {B : Nat} {S : Nat → Prop} {v : Value} {l : Byt} (h : OwnN EByt 5 B S w v l) : Bts w v l := by
  obtain ⟨ad, cap, rfl, h2⟩ := RowK.open h.rowE
  refine ⟨ad, cap, rfl, fun i hi => ?_⟩
  obtain ⟨g, o, rfl, hc, h3⟩ := h2 (fun e => by rw [e] at hi; simp at hi)
  obtain ⟨hZ, cs, rfl, h4⟩ := h3 i hi
  have := h4 0 (by decide)
  exact ⟨g, o, rfl, hc, hZ.2, by simpa [EByt] using this⟩
set_option maxHeartbeats 16000000 in
set_option maxRecDepth 10000 in
theorem wtab_any {w : World} {rd : Option Addr} {rcap P : Nat} {sv gv : Value} {t : Tab} (hR : RowsAt w rd rcap) (h : BW w P []) (h1P : 1 < P) (hgP : ∀ g o, rd = some ⟨g, o, none⟩ → g < P) (ht : TabV w (fun y => y < P) sv gv t) (ok : TabOk t) :
    Calls Tryz.prog 58 #[.pointer (some ⟨P, 0, none⟩), .agg #[sv, gv]] w fun r w' => BWo w P (bytesW t) r w' := by
  obtain ⟨sa, scap, rfl⟩ := RowK.len ht.shp
  obtain ⟨bd, bcap, rfl⟩ := RowK.len ht.glb
  obtain ⟨X, hX⟩ : ∃ X, X = w.heap.size := ⟨_, rfl⟩
  obtain ⟨W, hW⟩ : ∃ W, W = w.alloc (.cells #[.slice sa t.1.length scap, .slice bd t.2.length bcap] 25) := ⟨_, rfl⟩
  have hBW : Below w.heap.size w W := by rw [hW]; exact (Below.refl _ _).alloc (Nat.le_refl _) _
  have hXW : W.heap[X]? = some (.cells #[.slice sa t.1.length scap, .slice bd t.2.length bcap] 25 (0, 0)) := by rw [hW, hX]; exact new_blk _ _
  obtain ⟨T, hT⟩ : ∃ T, T = markP ++ bodyW t := ⟨_, rfl⟩
  have hTl : T.length ≤ 40000000 := by rw [hT]; have := body_len ok; omega
  have HFR : Hid (Free W P X) := by
    refine ⟨lt_heap hXW, by have := h.lt; omega, fun v hv e => ?_⟩
    have hv2 : w.heap[P]? = some (.cells #[v] 97 (0, 0)) := (hBW.block P h.lt).symm.trans hv
    have := h.own_lt v hv2 _ e
    omega
  have HALL : Hid (∀ wr : World, Below P W wr → W.heap.size ≤ wr.heap.size → Kpt W wr P → Wt wr rd rcap P X sa bd scap bcap t) := fun wr hb hs hk => by
    have hx := (hk X HFR.out).2.trans hXW
    have hb0 : Below P w wr := (hBW.mono (Nat.le_of_lt h.lt)).trans hb
    have hK : Keeps (fun y => y < P) w wr := Keeps.of hb0 fun _ h => h
    exact ⟨heap_cl hx rfl, heap_cl hx rfl, hR.under h1P hgP hb0 (Nat.le_trans hBW.size hs), ht.shp.on hK hK (fun _ h => h) fun _ h => h, ht.glb.on hK hK (fun _ h => h) fun _ h => h⟩
  have HBW : Hid (BW W P []) := h.on hBW
  have HWT : Hid (∀ (wr : World) (rest : Byt), At W wr P T rest → Wt wr rd rcap P X sa bd scap bcap t) := fun wr rest hA => by
    obtain ⟨l, _, h2, h3, h4⟩ := hA
    exact HALL.out wr h3 (h4.size HBW.out) (h4.kpt HBW.out)
  have HEND : Hid (∀ w' l, BW w' P l → Below P W w' → BK W P w' → l = bytesW t → BWo w P (bytesW t) (.returned (.tuple #[])) w') := fun w' l h1 h2 h3 e => ⟨rfl, by rw [← e]; exact h1, (hBW.mono (Nat.le_of_lt h.lt)).trans h2, (BK.on hBW).trans h3⟩
  have HTT : Hid (markP ++ (numW t.1.length ++ (((t.1.drop 0).map shpW).flatten ++ (numW t.2.length ++ (((t.2.drop 0).map glbW).flatten ++ [])))) = T) := by rw [hT]; show _ = _; simp [bodyW]
  have hbP : Below P w W := hBW.mono (Nat.le_of_lt h.lt)
  have hKW : Keeps (fun y => y < P) w W := Keeps.of hbP fun _ h => h
  have HS : Hid (∀ i (hi : i < t.1.length), ∃ g o, sa = some ⟨g, o, none⟩ ∧ t.1.length ≤ scap ∧ ∀ wr, Below P W wr → wr.cell? ⟨g, o + i * 2, none⟩ = some (.string ⟨t.1[i].1.toArray⟩) ∧ wr.cell? ⟨g, o + i * 2 + 1, none⟩ = some (.int .i64 t.1[i].2)) := fun i hi => by
    obtain ⟨ad, cap, e, hh⟩ := shp_at (ht.shp.on hKW hKW (fun _ h => h) fun _ h => h)
    obtain ⟨rfl, -, rfl⟩ := Value.slice.inj e
    obtain ⟨g, o, q1, q2, q3, q4, q5, _⟩ := hh i hi
    exact ⟨g, o, q1, q3, fun wr hb => ⟨(hb.cell (p := ⟨g, o + i * 2, none⟩) q2).trans q4, (hb.cell (p := ⟨g, o + i * 2 + 1, none⟩) q2).trans q5⟩⟩
  have HG : Hid (∀ i (hi : i < t.2.length), ∃ g o ca cc, bd = some ⟨g, o, none⟩ ∧ t.2.length ≤ bcap ∧ (∀ wr, Below P W wr → wr.cell? ⟨g, o + i * 3, none⟩ = some (.string ⟨t.2[i].1.toArray⟩) ∧ wr.cell? ⟨g, o + i * 3 + 1, none⟩ = some (.int .i64 t.2[i].2.1) ∧ wr.cell? ⟨g, o + i * 3 + 2, none⟩ = some (.slice ca t.2[i].2.2.length cc)) ∧ ∀ j (hj : j < t.2[i].2.2.length), ∃ g2 o2, ca = some ⟨g2, o2, none⟩ ∧ t.2[i].2.2.length ≤ cc ∧ ∀ wr, Below P W wr → wr.cell? ⟨g2, o2 + j * 3, none⟩ = some (.int .i64 t.2[i].2.2[j].1) ∧ wr.cell? ⟨g2, o2 + j * 3 + 1, none⟩ = some (.int .i64 t.2[i].2.2[j].2.1) ∧ wr.cell? ⟨g2, o2 + j * 3 + 2, none⟩ = some (.int .i64 t.2[i].2.2[j].2.2)) := fun i hi => by
    obtain ⟨ad, cap, e, hh⟩ := glb_at (ht.glb.on hKW hKW (fun _ h => h) fun _ h => h)
    obtain ⟨rfl, -, rfl⟩ := Value.slice.inj e
    obtain ⟨g, o, cv, q1, q2, q3, q4, q5, q6, _, _, q7⟩ := hh i hi
    obtain ⟨ca, cc, rfl⟩ := RowK.len q7
    refine ⟨g, o, ca, cc, q1, q3, fun wr hb => ⟨(hb.cell (p := ⟨g, o + i * 3, none⟩) q2).trans q4, (hb.cell (p := ⟨g, o + i * 3 + 1, none⟩) q2).trans q5, (hb.cell (p := ⟨g, o + i * 3 + 2, none⟩) q2).trans q6⟩, fun j hj => ?_⟩
    obtain ⟨ad2, cap2, e2, hh2⟩ := ins_at q7
    obtain ⟨rfl, -, rfl⟩ := Value.slice.inj e2
    obtain ⟨g2, o2, r1, r2, r3, r4, r5, r6⟩ := hh2 j hj
    exact ⟨g2, o2, r1, r3, fun wr hb => ⟨(hb.cell (p := ⟨g2, o2 + j * 3, none⟩) r2).trans r4, (hb.cell (p := ⟨g2, o2 + j * 3 + 1, none⟩) r2).trans r5, (hb.cell (p := ⟨g2, o2 + j * 3 + 2, none⟩) r2).trans r6⟩⟩
  have HBT : Hid (bytesW t = T ++ sumP T) := by rw [hT]; rfl
  obtain ⟨Z, hZ⟩ : ∃ Z, Z = bytesW t := ⟨_, rfl⟩
  rw [← hZ] at HBT HEND ⊢
  have HXE : Hid (X = w.heap.size) := hX
  have HOK : Hid (TabOk t) := ok
  have k1 := ok.shapes
  have k2 := ok.globals
  obtain ⟨z0, z1, -, -, -⟩ := HALL.out W (Below.refl _ _) (Nat.le_refl _) fun Y f => ⟨f, rfl⟩
  obtain ⟨v0, hP0, hO0⟩ := HBW.out
  have HO0 : Hid (W.ownsRow (P + 1) 5 1 v0 0 []) := own_bytes hO0
  have p0 : W.cell? ⟨P, 0, none⟩ = some v0 := heap_cl hP0 rfl
  have HP0 : Hid (W.heap[P]? = some (.cells #[v0] 97 (0, 0))) := hP0
  obtain ⟨a0, c0, e0⟩ := hO0.len
  rw [List.length_nil] at e0
  subst e0
  obtain ⟨ti, hi0, hz0, hk0, hby0⟩ := info_parts (show (Tryz.prog.info? 5).map (fun i => (i.zero, i.size, i.bytes)) = some (some (.int .u8 0), 1, 1) by kernel_rfl)
  clear hX hXW hBW hT h hR ht ok hZ hP0 hO0 hbP hKW HALL
  go_enter Tryz.func58, Tryz.ntmps58
  go_upto_region 1 with fail
  rw [← hW, ← HXE.out]
  clear hW
  go_upto_region 2 with (at_builtin; refine wpList_str rfl _ _ rfl hi0 hz0 hk0 hby0 rfl HO0.out ⟨#[83, 76, 84, 72]⟩ rfl (by decide) (lt_heap HP0.out) ?_; intro v4 w4 O4 G4 E4; obtain ⟨hP4, HB5, a4, c4, e4⟩ := str_put (L := []) HP0.out HO0.out markP v4 w4 O4 G4 E4; have p4 : w4.cell? ⟨P, 0, none⟩ = some (.slice a0 0 c0) := heap_cl hP4 rfl; have f4 : w4.frozen? ⟨P, 0, none⟩ = false := heap_frozen hP4; clear O4 G4 E4 hP4; replace e4 : v4 = .slice a4 4 c4 := e4; subst e4)
  have HA : Hid (At W (w4.setCell ⟨P, 0, none⟩ (.slice a4 4 c4)) P T (numW t.1.length ++ (((t.1.drop 0).map shpW).flatten ++ (numW t.2.length ++ (((t.2.drop 0).map glbW).flatten ++ []))))) := ⟨_, HTT.out, HB5.out⟩
  clear HB5 p4 f4 HTT HO0 HP0 p0 z0 z1
  generalize w4.setCell ⟨P, 0, none⟩ (.slice a4 4 c4) = w5 at *
  obtain ⟨y0, y1, -, -, -⟩ := HWT.out w5 _ HA.out
  have CN1 := at_num HA.out hTl (by omega)
  go_upto_region 3 with (go_at_call 92; (with_reducible refine Calls.mono CN1 ?_); rintro e6 w6 ⟨rfl, H6⟩; obtain ⟨y0, y1, -, -, -⟩ := HWT.out w6 _ H6.out.1)
  go_upto_region 4 with fail
  clear CN1 HA
  go_loopw [26] (fun iv wr => ∃ i : Nat, i ≤ t.1.length ∧ iv = .int .i64 i ∧ Hid (At W wr P T (((t.1.drop i).map shpW).flatten ++ (numW t.2.length ++ (((t.2.drop 0).map glbW).flatten ++ []))))) (fun iv _ => t.1.length - (intOf iv).toNat)
  case atStart => exact ⟨0, by omega, by go_num, H6.out.1⟩
  case round =>
    clear H6 y0 y1
    obtain ⟨i, hi, rfl, HA⟩ := hrel
    have hAW : Below P W wr := by obtain ⟨_, _, _, h3, _⟩ := HA.out; exact h3
    obtain ⟨x0, x1, -, -, -⟩ := HWT.out wr _ HA.out
    by_cases hil : i < t.1.length
    · obtain ⟨g, o, rfl, hsc, hcs⟩ := HS.out i hil
      obtain ⟨c0', c1'⟩ := hcs wr hAW
      have i1 : (0 : Int) ≤ (i : Int) := by omega
      have i2 : (i : Int) < (t.1.length : Int) := by omega
      have HAn : Hid (At W wr P T (nameW t.1[i].1 ++ (numW t.1[i].2.toNat ++ (((t.1.drop (i + 1)).map shpW).flatten ++ (numW t.2.length ++ (((t.2.drop 0).map glbW).flatten ++ [])))))) := by rw [← shps_next hil]; exact HA.out
      obtain ⟨b1, b2, b3⟩ := HOK.out.shp _ (List.getElem_mem hil)
      obtain ⟨m, hm⟩ : ∃ m : Nat, t.1[i].2 = (m : Int) := ⟨t.1[i].2.toNat, by omega⟩
      rw [hm] at c1' b3
      rw [hm, Int.toNat_natCast] at HAn
      obtain ⟨Y, hYe⟩ : ∃ Y, Y = wr.heap.size := ⟨_, rfl⟩
      obtain ⟨W2, hW2⟩ : ∃ W2, W2 = wr.alloc (.cells #[.string ⟨t.1[i].1.toArray⟩, .int .i64 (m : Int)] 48) := ⟨_, rfl⟩
      have hYW : W2.heap[Y]? = some (.cells #[.string ⟨t.1[i].1.toArray⟩, .int .i64 (m : Int)] 48 (0, 0)) := by rw [hW2, hYe]; exact new_blk _ _
      obtain ⟨A1, A2, A3⟩ := HAn.out.box (.cells #[.string ⟨t.1[i].1.toArray⟩, .int .i64 (m : Int)] 48)
      rw [← hW2] at A1 A2 A3
      rw [← hYe] at A3
      have HYF : Hid (Free W2 P Y ∧ W2.heap[Y]? = some (.cells #[.string ⟨t.1[i].1.toArray⟩, .int .i64 (m : Int)] 48 (0, 0))) := ⟨A3, hYW⟩
      have n0 : W2.cell? ⟨Y, 0, none⟩ = some (.string ⟨t.1[i].1.toArray⟩) := heap_cl hYW rfl
      have CN := at_name A1 hTl b1
      have HYE : Hid (Y = wr.heap.size) := hYe
      clear hYe hYW A1 A2 A3 HAn HA hcs hAW b1 b2 hm hi
      generalize t.1[i].1 = nm at *
      go_upto_region 6 with fail
      rw [← hW2, ← HYE.out]
      clear hW2 c0' c1' x0 x1
      go_upto_region 7 with (go_at_call 93; (with_reducible refine Calls.mono CN ?_); rintro e3 w3 ⟨rfl, H3⟩)
      have n1 : w3.cell? ⟨Y, 1, none⟩ = some (.int .i64 (m : Int)) := heap_cl ((H3.out.2 Y HYF.out.1).2.trans HYF.out.2) rfl
      have CM := at_num H3.out.1 hTl (by omega)
      go_wp2_with (go_at_call 92; (with_reducible refine Calls.mono CM ?_); rintro e7 w7 ⟨rfl, H7⟩)
      go_roundw
      case rel => exact ⟨i + 1, hil, by go_num, H7.out.1⟩
      case measure => simp [intOf]; omega
    · have hin : i = t.1.length := by omega
      have e3 : ¬ ((i : Int) < (t.1.length : Int)) := by omega
      have HA2 : Hid (At W wr P T (numW t.2.length ++ (((t.2.drop 0).map glbW).flatten ++ []))) := by
        have := HA.out
        rw [hin, List.drop_length] at this
        exact this
      have CN := at_num HA2.out hTl (by omega)
      clear HA hAW hin hil hi
      go_upto_region 10 with (go_at_call 92; (with_reducible refine Calls.mono CN ?_); rintro e6 w6 ⟨rfl, H6⟩; obtain ⟨y0, y1, -, -, -⟩ := HWT.out w6 _ H6.out.1)
      go_upto_region 11 with fail
      clear CN HA2 x0 x1
      go_loopw [47] (fun iv wr => ∃ i : Nat, i ≤ t.2.length ∧ iv = .int .i64 i ∧ Hid (At W wr P T (((t.2.drop i).map glbW).flatten ++ []))) (fun iv _ => t.2.length - (intOf iv).toNat)
      case atStart => exact ⟨0, by omega, by go_num, H6.out.1⟩
      case round =>
        clear H6 y0 y1
        obtain ⟨i, hi, rfl, HA⟩ := hrel
        have hAW : Below P W wr := by obtain ⟨_, _, _, h3, _⟩ := HA.out; exact h3
        by_cases hil : i < t.2.length
        · obtain ⟨g, o, ca, cc, rfl, hsc, hcs, hin⟩ := HG.out i hil
          obtain ⟨c0', c1', c2'⟩ := hcs wr hAW
          have i1 : (0 : Int) ≤ (i : Int) := by omega
          have i2 : (i : Int) < (t.2.length : Int) := by omega
          have HAn : Hid (At W wr P T (nameW t.2[i].1 ++ (numW t.2[i].2.1.toNat ++ (numW t.2[i].2.2.length ++ (((t.2[i].2.2.drop 0).map insW).flatten ++ (((t.2.drop (i + 1)).map glbW).flatten ++ [])))))) := by rw [List.drop_zero, ← glbs_next hil]; exact HA.out
          obtain ⟨b1, b2, b3, b4, b5⟩ := HOK.out.glb _ (List.getElem_mem hil)
          obtain ⟨m, hm⟩ : ∃ m : Nat, t.2[i].2.1 = (m : Int) := ⟨t.2[i].2.1.toNat, by omega⟩
          rw [hm] at c1' b3
          rw [hm, Int.toNat_natCast] at HAn
          have HIN : Hid (∀ j (hj : j < t.2[i].2.2.length), ∃ g2 o2, ca = some ⟨g2, o2, none⟩ ∧ t.2[i].2.2.length ≤ cc ∧ ∀ wr, Below P W wr → wr.cell? ⟨g2, o2 + j * 3, none⟩ = some (.int .i64 t.2[i].2.2[j].1) ∧ wr.cell? ⟨g2, o2 + j * 3 + 1, none⟩ = some (.int .i64 t.2[i].2.2[j].2.1) ∧ wr.cell? ⟨g2, o2 + j * 3 + 2, none⟩ = some (.int .i64 t.2[i].2.2[j].2.2)) := hin
          have HIO : Hid (∀ x ∈ t.2[i].2.2, insOk x) := b5
          clear hin b5 hm
          generalize t.2[i].1 = nm at *
          generalize t.2[i].2.2 = code at *
          obtain ⟨R3, hR3⟩ : ∃ R3, R3 = ((t.2.drop (i + 1)).map glbW).flatten ++ [] := ⟨_, rfl⟩
          rw [← hR3] at HAn
          have HR3 : Hid (R3 = ((t.2.drop (i + 1)).map glbW).flatten ++ []) := hR3
          clear hR3
          obtain ⟨Y, hYe⟩ : ∃ Y, Y = wr.heap.size := ⟨_, rfl⟩
          obtain ⟨W2, hW2⟩ : ∃ W2, W2 = wr.alloc (.cells #[.string ⟨nm.toArray⟩, .int .i64 (m : Int), .slice ca code.length cc] 51) := ⟨_, rfl⟩
          have hYW : W2.heap[Y]? = some (.cells #[.string ⟨nm.toArray⟩, .int .i64 (m : Int), .slice ca code.length cc] 51 (0, 0)) := by rw [hW2, hYe]; exact new_blk _ _
          obtain ⟨A1, A2, A3⟩ := HAn.out.box (.cells #[.string ⟨nm.toArray⟩, .int .i64 (m : Int), .slice ca code.length cc] 51)
          rw [← hW2] at A1 A2 A3
          rw [← hYe] at A3
          have HYF : Hid (Free W2 P Y ∧ W2.heap[Y]? = some (.cells #[.string ⟨nm.toArray⟩, .int .i64 (m : Int), .slice ca code.length cc] 51 (0, 0))) := ⟨A3, hYW⟩
          have n0 : W2.cell? ⟨Y, 0, none⟩ = some (.string ⟨nm.toArray⟩) := heap_cl hYW rfl
          have CN := at_name A1 hTl b1
          have HYE : Hid (Y = wr.heap.size) := hYe
          clear hYe hYW A1 A2 A3 HAn HA hcs hAW b1 b2 hi
          go_upto_region 13 with fail
          rw [← hW2, ← HYE.out]
          clear hW2 c0' c1' c2'
          go_upto_region 14 with (go_at_call 93; (with_reducible refine Calls.mono CN ?_); rintro e3 w3 ⟨rfl, H3⟩)
          have n1 : w3.cell? ⟨Y, 1, none⟩ = some (.int .i64 (m : Int)) := heap_cl ((H3.out.2 Y HYF.out.1).2.trans HYF.out.2) rfl
          have HYF3 : Hid (Free w3 P Y ∧ w3.heap[Y]? = some (.cells #[.string ⟨nm.toArray⟩, .int .i64 (m : Int), .slice ca code.length cc] 51 (0, 0))) := ⟨(H3.out.2 Y HYF.out.1).1, (H3.out.2 Y HYF.out.1).2.trans HYF.out.2⟩
          have CM := at_num H3.out.1 hTl (by omega)
          clear CN n0 HYF
          go_upto_region 15 with (go_at_call 92; (with_reducible refine Calls.mono CM ?_); rintro e7 w7 ⟨rfl, H7⟩)
          have n2 : w7.cell? ⟨Y, 2, none⟩ = some (.slice ca code.length cc) := heap_cl ((H7.out.2 Y HYF3.out.1).2.trans HYF3.out.2) rfl
          have HYF7 : Hid (Free w7 P Y ∧ w7.heap[Y]? = some (.cells #[.string ⟨nm.toArray⟩, .int .i64 (m : Int), .slice ca code.length cc] 51 (0, 0))) := ⟨(H7.out.2 Y HYF3.out.1).1, (H7.out.2 Y HYF3.out.1).2.trans HYF3.out.2⟩
          have CK := at_num H7.out.1 hTl (by omega)
          clear CM n1 HYF3 H3
          go_upto_region 16 with (go_at_call 92; (with_reducible refine Calls.mono CK ?_); rintro e8 w8 ⟨rfl, H8⟩)
          have m2 : w8.cell? ⟨Y, 2, none⟩ = some (.slice ca code.length cc) := heap_cl ((H8.out.2 Y HYF7.out.1).2.trans HYF7.out.2) rfl
          clear CK n2 HYF7 H7
          go_upto_region 17 with fail
          go_loopw [67] (fun jv wr => ∃ j : Nat, j ≤ code.length ∧ jv = .int .i64 j ∧ Hid (At W wr P T (((code.drop j).map insW).flatten ++ R3))) (fun jv _ => code.length - (intOf jv).toNat)
          case atStart => exact ⟨0, by omega, by go_num, H8.out.1⟩
          case round =>
            clear H8 m2
            obtain ⟨j, hj, rfl, HA⟩ := hrel
            have hAW : Below P W wr := by obtain ⟨_, _, _, h3, _⟩ := HA.out; exact h3
            by_cases hjl : j < code.length
            · obtain ⟨g2, o2, rfl, hcc, hcs⟩ := HIN.out j hjl
              obtain ⟨q0, q1, q2⟩ := hcs wr hAW
              have j1 : (0 : Int) ≤ (j : Int) := by omega
              have j2 : (j : Int) < (code.length : Int) := by omega
              have HAn : Hid (At W wr P T (numW code[j].1.toNat ++ (restW code[j] ++ (((code.drop (j + 1)).map insW).flatten ++ R3)))) := by rw [← inss_next hjl]; exact HA.out
              have hxo := HIO.out _ (List.getElem_mem hjl)
              obtain ⟨op, hope⟩ : ∃ op : Nat, code[j].1 = (op : Int) := ⟨code[j].1.toNat, by have := op_range hxo.1; omega⟩
              have hop2 := op_range hxo.1
              obtain ⟨x, hx⟩ : ∃ x, x = code[j] := ⟨_, rfl⟩
              rw [← hx] at q0 q1 q2 HAn hxo hope hop2
              obtain ⟨xo, xa, xb⟩ := x
              simp only at hope q0 q1 q2 hop2
              subst hope
              rw [Int.toNat_natCast] at HAn
              have HXO : Hid (insOk ((op : Int), xa, xb)) := hxo
              obtain ⟨V, hVe⟩ : ∃ V, V = wr.heap.size := ⟨_, rfl⟩
              obtain ⟨W3, hW3⟩ : ∃ W3, W3 = wr.alloc (.cells #[.int .i64 (op : Int), .int .i64 xa, .int .i64 xb] 53) := ⟨_, rfl⟩
              have hVW : W3.heap[V]? = some (.cells #[.int .i64 (op : Int), .int .i64 xa, .int .i64 xb] 53 (0, 0)) := by rw [hW3, hVe]; exact new_blk _ _
              obtain ⟨A1, A2, A3⟩ := HAn.out.box (.cells #[.int .i64 (op : Int), .int .i64 xa, .int .i64 xb] 53)
              rw [← hW3] at A1 A2 A3
              rw [← hVe] at A3
              have HVF : Hid (Free W3 P V ∧ W3.heap[V]? = some (.cells #[.int .i64 (op : Int), .int .i64 xa, .int .i64 xb] 53 (0, 0))) := ⟨A3, hVW⟩
              have n0 : W3.cell? ⟨V, 0, none⟩ = some (.int .i64 (op : Int)) := heap_cl hVW rfl
              have CN := at_num A1 hTl (by omega)
              have HVE : Hid (V = wr.heap.size) := hVe
              clear hVe hVW A1 A2 A3 HAn HA hcs hAW hx hxo hj
              go_upto_region 19 with fail
              rw [← hW3, ← HVE.out]
              clear hW3 q0 q1 q2
              go_upto_region 20 with (go_at_call 92; (with_reducible refine Calls.mono CN ?_); rintro e9 w9 ⟨rfl, H9⟩)
              have hb9 := (H9.out.2 V HVF.out.1).2.trans HVF.out.2
              have v0 : w9.cell? ⟨V, 0, none⟩ = some (.int .i64 (op : Int)) := heap_cl hb9 rfl
              have v1 : w9.cell? ⟨V, 1, none⟩ = some (.int .i64 xa) := heap_cl hb9 rfl
              have v2 : w9.cell? ⟨V, 2, none⟩ = some (.int .i64 xb) := heap_cl hb9 rfl
              have CE := at_each H9.out.1 hTl (HWT.out w9 _ H9.out.1).rows h1P hgP HXO.out
              clear CN n0 HVF hb9
              go_wp2_with (go_at_call 94; (with_reducible refine Calls.mono CE ?_); rintro e10 w10 ⟨rfl, H10⟩)
              go_roundw
              case rel => exact ⟨j + 1, hjl, by go_num, H10.out.1⟩
              case measure => simp [intOf]; omega
            · have hje : j = code.length := by omega
              have e5 : ¬ ((j : Int) < (code.length : Int)) := by omega
              have HA3 : Hid (At W wr P T R3) := by
                have := HA.out
                rw [hje, List.drop_length] at this
                exact this
              clear HA hAW hje hjl hj
              go_wp2
              go_roundw
              case rel => exact ⟨i + 1, hil, by go_num, by rw [← HR3.out]; exact HA3.out⟩
              case measure => simp [intOf]; omega
        · have hie : i = t.2.length := by omega
          have e4 : ¬ ((i : Int) < (t.2.length : Int)) := by omega
          have HA2 : Hid (At W wr P T []) := by
            have := HA.out
            rw [hie, List.drop_length] at this
            exact this
          clear HA hAW hie hil hi
          go_upto_region 23 with fail
          obtain ⟨⟨l, hlT, hBl, hbl, hkl⟩, -⟩ := HA2.out.below ((Below.refl _ _).drew)
          rw [List.append_nil] at hlT
          subst hlT
          obtain ⟨v, hP, hO⟩ := hBl
          have hBts := own_bts hO
          have HO : Hid (OwnN EByt 5 (P + 1) (fun _ => False) wr.drew v l) := hO
          obtain ⟨ad, cap, rfl⟩ := hO.len
          have hS0 : (fun w' : World => w'.cell? ⟨P, 0, none⟩ = some (.slice ad l.length cap)) wr.drew := heap_cl (w := wr.drew) hP rfl
          have HP : Hid (wr.drew.heap[P]? = some (.cells #[.slice ad l.length cap] 97 (0, 0))) := hP
          have HBL : Hid (Below P W wr.drew ∧ BK W P wr.drew) := ⟨hbl, hkl⟩
          have CS := sumOf_any hBts (by omega)
          clear hbl hkl hP hO HA2 hBts HWT HS HG HFR HOK
          refine wp_region_M (S := (fun w' : World => w'.cell? ⟨P, 0, none⟩ = some (.slice ad l.length cap))) (L := 13) (n := 14) (by kernel_rfl) rfl (by kernel_rfl) ?_
          generalize wr.drew = D at *
          refine wpAnyK_go (i := 0) (m' := 1) (some 81) (v := .pointer (some ⟨P, 0, none⟩)) rfl rfl (by kernel_rfl) (by kernel_rfl) (by kernel_rfl) (by kernel_rfl) (by kernel_rfl) (fun _ _ _ h => h) (Or.inl ⟨by rfl, ?_⟩) hS0 ?_
          · intro w' hSw
            go_simp
          try simp only [Act.put, List.setIfInBounds_toArray, List.set_cons_zero, List.set_cons_succ]
          refine wpAnyK_go (i := 1) (m' := 3) (some 82) (v := .pointer (some ⟨P, 0, none⟩)) rfl rfl (by kernel_rfl) (by kernel_rfl) (by kernel_rfl) (by kernel_rfl) (by kernel_rfl) (fun _ _ _ h => h) (Or.inl ⟨by rfl, ?_⟩) hS0 ?_
          · intro w' hSw
            go_simp
          try simp only [Act.put, List.setIfInBounds_toArray, List.set_cons_zero, List.set_cons_succ]
          refine wpAnyK_go (i := 2) (m' := 7) (some 83) (v := .pointer (some ⟨P, 0, none⟩)) rfl rfl (by kernel_rfl) (by kernel_rfl) (by kernel_rfl) (by kernel_rfl) (by kernel_rfl) (fun _ _ _ h => h) (Or.inl ⟨by rfl, ?_⟩) hS0 ?_
          · intro w' hSw
            go_simp
          try simp only [Act.put, List.setIfInBounds_toArray, List.set_cons_zero, List.set_cons_succ]
          refine wpAnyK_go (i := 3) (m' := 15) (some 84) (v := .pointer (some ⟨P, 0, none⟩)) rfl rfl (by kernel_rfl) (by kernel_rfl) (by kernel_rfl) (by kernel_rfl) (by kernel_rfl) (fun _ _ _ h => h) (Or.inl ⟨by rfl, ?_⟩) hS0 ?_
          · intro w' hSw
            go_simp
          try simp only [Act.put, List.setIfInBounds_toArray, List.set_cons_zero, List.set_cons_succ]
          refine wpAnyK_go (i := 4) (m' := 31) (some 85) (v := .slice ad l.length cap) rfl rfl (by kernel_rfl) (by kernel_rfl) (by kernel_rfl) (by kernel_rfl) (by kernel_rfl) (fun _ _ _ h => h) (Or.inl ⟨by rfl, ?_⟩) hS0 ?_
          · intro w' hSw
            have p0 := hSw
            go_simp
          try simp only [Act.put, List.setIfInBounds_toArray, List.set_cons_zero, List.set_cons_succ]
          refine wpAnyK_go (i := 5) (m' := 63) (some 86) (v := .pointer (some ⟨P, 0, none⟩)) rfl rfl (by kernel_rfl) (by kernel_rfl) (by kernel_rfl) (by kernel_rfl) (by kernel_rfl) (fun _ _ _ h => h) (Or.inl ⟨by rfl, ?_⟩) hS0 ?_
          · intro w' hSw
            go_simp
          try simp only [Act.put, List.setIfInBounds_toArray, List.set_cons_zero, List.set_cons_succ]
          refine wpAnyK_go (i := 6) (m' := 127) (some 87) (v := .pointer (some ⟨P, 0, none⟩)) rfl rfl (by kernel_rfl) (by kernel_rfl) (by kernel_rfl) (by kernel_rfl) (by kernel_rfl) (fun _ _ _ h => h) (Or.inl ⟨by rfl, ?_⟩) hS0 ?_
          · intro w' hSw
            go_simp
          try simp only [Act.put, List.setIfInBounds_toArray, List.set_cons_zero, List.set_cons_succ]
          refine wpAnyK_go (i := 7) (m' := 255) (some 88) (v := .pointer (some ⟨P, 0, none⟩)) rfl rfl (by kernel_rfl) (by kernel_rfl) (by kernel_rfl) (by kernel_rfl) (by kernel_rfl) (fun _ _ _ h => h) (Or.inl ⟨by rfl, ?_⟩) hS0 ?_
          · intro w' hSw
            go_simp
          try simp only [Act.put, List.setIfInBounds_toArray, List.set_cons_zero, List.set_cons_succ]
          refine wpAnyK_go (i := 8) (m' := 511) (some 89) (v := .slice ad l.length cap) rfl rfl (by kernel_rfl) (by kernel_rfl) (by kernel_rfl) (by kernel_rfl) (by kernel_rfl) (fun _ _ _ h => h) (Or.inl ⟨by rfl, ?_⟩) hS0 ?_
          · intro w' hSw
            have p0 := hSw
            go_simp
          try simp only [Act.put, List.setIfInBounds_toArray, List.set_cons_zero, List.set_cons_succ]
          refine wpAnyK_only (i := 9) (m' := 1023) (by kernel_rfl) rfl (by kernel_rfl) fun K hK => ?_
          go_simp
          (with_reducible refine Calls.mono CS ?_)
          rintro e2 w2 ⟨rfl, HW2⟩
          go_simp
          obtain ⟨ys, hys⟩ : ∃ ys, ys = (sumP l).map byteV := ⟨_, rfl⟩
          have hy4 : ys.length = 4 := by rw [hys]; rfl
          have hw2 : w2 = D.alloc (.cells ys.toArray 5) := by rw [hys]; exact HW2.out
          have hb2 : Below D.heap.size D w2 := by rw [hw2]; exact (Below.refl _ _).alloc (Nat.le_refl _) _
          have hN2 : w2.heap[D.heap.size]? = some (.cells ys.toArray 5 (0, 0)) := by rw [hw2]; exact new_blk _ _
          have hPD := lt_heap HP.out
          have hP2 : w2.heap[P]? = some (.cells #[.slice ad l.length cap] 97 (0, 0)) := (hb2.block P hPD).trans HP.out
          have hO2 := own_bytes (HO.out.on (fun _ h => h.elim) hPD hb2)
          have hS2 : (fun w' : World => w'.cell? ⟨P, 0, none⟩ = some (.slice ad l.length cap)) w2 := heap_cl hP2 rfl
          refine hK.out _ _ (fun _ => hS2) ?_
          clear hK K CS HW2 hw2 hS0
          try simp only [Act.put, List.setIfInBounds_toArray, List.set_cons_zero, List.set_cons_succ]
          refine wpAnyK_only (i := 10) (m' := 2047) (by kernel_rfl) rfl (by kernel_rfl) fun K hK => ?_
          refine step_bytes (ys := ys) (g := D.heap.size) (c := 4) rfl _ _ rfl rfl hO2 (by rw [hy4]; rfl) (fun j hj => heap_cl hN2 (by simp [hj])) (by omega) (fun u hu => by rw [hys] at hu; obtain ⟨b, _, rfl⟩ := List.mem_map.1 hu; rfl) (by omega) (Nat.le_trans hPD hb2.size) ?_
          intro v4 w4 O4 G4 E4
          obtain ⟨hP4, HB5, a5, c5, e4⟩ := str_put (L := l) hP2 hO2 (sumP l) v4 w4 (by rw [← hys, show (sumP l).length = ys.length from hy4.symm]; exact O4) G4 E4
          replace e4 : v4 = .slice a5 (l.length + 4) c5 := e4
          subst e4
          have hS4 : (fun w' : World => w'.cell? ⟨P, 0, none⟩ = some (.slice ad l.length cap)) w4 := heap_cl hP4 rfl
          have f4 : w4.frozen? ⟨P, 0, none⟩ = false := heap_frozen hP4
          have HEN : Hid (BW (w4.setCell ⟨P, 0, none⟩ (.slice a5 (l.length + 4) c5)) P (l ++ sumP l) ∧ Below P D (w4.setCell ⟨P, 0, none⟩ (.slice a5 (l.length + 4) c5)) ∧ BK D P (w4.setCell ⟨P, 0, none⟩ (.slice a5 (l.length + 4) c5))) := ⟨HB5.out.1, (hb2.mono (Nat.le_of_lt hPD)).trans HB5.out.2.1, (BK.on hb2).trans HB5.out.2.2⟩
          clear O4 G4 E4 HB5 hP2 hO2 hS2 hN2 hb2 hP4
          refine hK.out _ _ (fun _ => hS4) ?_
          clear hK K
          try simp only [Act.put, List.setIfInBounds_toArray]
          refine wpAnyK_only (i := 11) (m' := 4095) (by kernel_rfl) rfl (by kernel_rfl) fun K hK => ?_
          go_simp
          refine hK.out _ _ (fun _ => hS4) ?_
          clear hK K
          refine wpAnyK_only (i := 12) (m' := 8191) (by kernel_rfl) rfl (by kernel_rfl) fun K hK => ?_
          go_simp
          refine hK.out _ _ (fun _ => hS4) ?_
          clear hK K
          refine wpAnyK_only (i := 13) (m' := 16383) (by kernel_rfl) rfl (by kernel_rfl) fun K hK => ?_
          have p4 : w4.cell? ⟨P, 0, none⟩ = some (.slice ad l.length cap) := hS4
          go_simp
          refine hK.out _ _ (fun h => absurd rfl h) ?_
          clear hK K
          refine wpAnyK_done (by kernel_rfl) ?_ _
          refine bodyPost_end (v := .tuple #[]) (by simp [results, Tryz.results58, go_sem]) rfl ?_
          exact HEND.out _ _ HEN.out.1 (HBL.out.1.trans HEN.out.2.1) (HBL.out.2.trans HEN.out.2.2) HBT.out.symm
end Go.Proofs.YtlpnegnpejpdkaaGreatDoor

namespace Go.Proofs.YtlpnegnpejpdkaaGreatDoor
open Go.RowKit

/-- What is thrown. -/
def thrown (c : Int) : Ending := .panicked [{ v := .iface 28 (.int .i64 c), recovered := false }]
theorem giveUp_any (c : Int) (w : World) : Calls Tryz.prog 90 #[.int .i64 c] w fun r w' => r = thrown c ∧ w' = w := by
  unfold thrown
  go_enter Tryz.func90, Tryz.ntmps90
  go_wp2
  exact ⟨rfl, rfl, rfl⟩
/-- A reader in block R: what is left to be read, how many instructions may come. -/
def Rd (w : World) (R : Nat) (left : Int) (l : Byt) : Prop := ∃ g o cap, w.heap[R]? = some (.cells #[.slice (some ⟨g, o, none⟩) l.length cap, .int .i64 left] 144 (0, 0)) ∧ l.length ≤ cap ∧ g < R ∧ ∀ i (h : i < l.length), w.cell? ⟨g, o + i, none⟩ = some (.int .u8 (l[i].toNat : Nat))
/-- What a reader leaves. -/
def Rk (w : World) (R : Nat) (w' : World) : Prop := Below R w w' ∧ ∀ y, y < w.heap.size → y ≠ R → w'.heap[y]? = w.heap[y]?
theorem num_go {l : Byt} {i n : Nat} (h : i < l.length) (h9 : i < 9) : numR i n (l.drop i) = if l[i].toNat = 0 ∧ 0 < i then none else if l[i].toNat < 128 then some (n + l[i].toNat * 128 ^ i, l.drop (i + 1)) else numR (i + 1) (n + (l[i].toNat - 128) * 128 ^ i) (l.drop (i + 1)) := by
  rw [List.drop_eq_getElem_cons h]
  conv => lhs; unfold numR
  by_cases h0 : l[i].toNat = 0 ∧ 0 < i
  · rw [if_pos h0, if_pos (.inr h0)]
  · rw [if_neg h0, if_neg (by omega)]
theorem num_out {l : Byt} {i n : Nat} (h : i ≤ l.length) (h9 : min 9 l.length ≤ i) : numR i n (l.drop i) = none := by
  by_cases h1 : i = l.length
  · rw [h1, List.drop_length]
    unfold numR
    rfl
  · rw [List.drop_eq_getElem_cons (by omega)]
    unfold numR
    rw [if_pos (.inl (by omega))]
theorem i64_or_nat (a b : Nat) (ha : a < 9223372036854775808) (hb : b < 9223372036854775808) : bits .or .i64 (a : Int) (b : Int) = ((a ||| b : Nat) : Int) := by
  have hx : a ||| b < 2 ^ 63 := Nat.or_lt_two_pow (by omega) (by omega)
  show IntKind.i64.wrap ((BitVec.ofInt 64 (a : Int) ||| BitVec.ofInt 64 (b : Int)).toNat : Int) = _
  rw [BitVec.toNat_or, ofInt_u64 a (by omega), ofInt_u64 b (by omega), IntKind.wrap_i64]
  omega
theorem num_or {n b i : Nat} (hn : n < 128 ^ i) (hi : i < 9) (hb : b < 128) : bits BinOp.or IntKind.i64 (n : Int) (wrap64 ((b : Int) * 2 ^ (7 * i))) = ((n + b * 128 ^ i : Nat) : Int) := by
  have e : (128 : Nat) ^ i = 2 ^ (7 * i) := by rw [Nat.pow_mul]
  have h1 : 128 ^ i ≤ 128 ^ 8 := Nat.pow_le_pow_right (by decide) (by omega)
  have h2 : b * 128 ^ i ≤ 127 * 128 ^ 8 := Nat.mul_le_mul (by omega) h1
  have h3 : (127 * 128 ^ 8 : Nat) < 9223372036854775808 := by decide
  have h4 : (128 ^ 8 : Nat) < 9223372036854775808 := by decide
  have e2 : (b : Int) * 2 ^ (7 * i) = ((b * 128 ^ i : Nat) : Int) := by rw [e]; simp
  rw [e2]
  have e3 : wrap64 ((b * 128 ^ i : Nat) : Int) = ((b * 128 ^ i : Nat) : Int) := by unfold wrap64; omega
  rw [e3, i64_or_nat _ _ (by omega) (by omega)]
  have := Nat.two_pow_add_eq_or_of_lt (i := 7 * i) (b := n) (by rw [← e]; exact hn) b
  rw [← e] at this
  rw [Nat.mul_comm b, Nat.or_comm, ← this, Nat.add_comm]
/-- The reader goes on behind k bytes. -/
theorem rd_cut {w : World} {R g o cap k : Nat} {left : Int} {l : Byt} (hR : w.heap[R]? = some (.cells #[.slice (some ⟨g, o, none⟩) l.length cap, .int .i64 left] 144 (0, 0))) (hc : l.length ≤ cap) (hg : g < R) (hV : ∀ i (h : i < l.length), w.cell? ⟨g, o + i, none⟩ = some (.int .u8 (l[i].toNat : Nat))) (hk : k ≤ l.length) {o' : Nat} (ho : o' = o + k ∨ l.length = k) :
    Rd (w.setCell ⟨R, 0, none⟩ (.slice (some ⟨g, o', none⟩) (l.length - k) (cap - k))) R left (l.drop k) ∧ Rk w R (w.setCell ⟨R, 0, none⟩ (.slice (some ⟨g, o', none⟩) (l.length - k) (cap - k))) := by
  have hb := (Below.refl R w).setCell (p := ⟨R, 0, none⟩) (show R ≤ R from Nat.le_refl R) (.slice (some ⟨g, o', none⟩) (l.length - k) (cap - k))
  refine ⟨⟨g, o', cap - k, by rw [setCell_block hR, List.length_drop]; rfl, by rw [List.length_drop]; omega, hg, fun i hi => ?_⟩, hb, fun y _ hy => Below.heap_setCell _ _ _ _ (by show y ≠ R; exact hy)⟩
  rw [List.length_drop] at hi
  obtain rfl : o' = o + k := by omega
  rw [hb.cell (p := ⟨g, o + k + i, none⟩) hg, List.getElem_drop, Nat.add_assoc]
  exact hV (k + i) (by omega)
set_option maxHeartbeats 16000000 in
set_option maxRecDepth 10000 in
theorem rnum_any {w : World} {R : Nat} {left : Int} {l : Byt} (h : Rd w R left l) : Calls Tryz.prog 101 #[.pointer (some ⟨R, 0, none⟩)] w fun r w' =>
    match numR 0 0 l with
    | some (n, m) => r = .returned (.int .i64 n) ∧ Hid (Rd w' R left m ∧ Rk w R w')
    | none => r = thrown 171 ∧ Hid (Rk w R w') := by
  obtain ⟨g, o, cap, hRb, hc, hg, hb⟩ := h
  have HV : Hid (∀ i (h : i < l.length), w.cell? ⟨g, o + i, none⟩ = some (.int .u8 (l[i].toNat : Nat))) := hb
  have p0 : w.cell? ⟨R, 0, none⟩ = some (.slice (some ⟨g, o, none⟩) l.length cap) := heap_cl hRb rfl
  have HRB : Hid (w.heap[R]? = some (.cells #[.slice (some ⟨g, o, none⟩) l.length cap, .int .i64 left] 144 (0, 0))) := hRb
  obtain ⟨F, hF⟩ : ∃ F : Ending → World → Prop, F = fun r w' => match numR 0 0 l with
    | some (n, m) => r = .returned (.int .i64 n) ∧ Hid (Rd w' R left m ∧ Rk w R w')
    | none => r = thrown 171 ∧ Hid (Rk w R w') := ⟨_, rfl⟩
  rw [← hF]
  have HF1 : Hid (∀ n m r w', numR 0 0 l = some (n, m) → r = .returned (.int .i64 n) → Rd w' R left m → Rk w R w' → F r w') := fun n m r w' h1 h2 h3 h4 => by rw [hF]; show (match numR 0 0 l with | some (n, m) => _ | none => _); rw [h1]; exact ⟨h2, h3, h4⟩
  have HF2 : Hid (∀ r w', numR 0 0 l = none → r = thrown 171 → Rk w R w' → F r w') := fun r w' h1 h2 h3 => by rw [hF]; show (match numR 0 0 l with | some (n, m) => _ | none => _); rw [h1]; exact ⟨h2, h3⟩
  have f0 : w.frozen? ⟨R, 0, none⟩ = false := heap_frozen hRb
  clear hRb hb hF
  have CG := fun W => giveUp_any 171 W
  unfold thrown at CG
  obtain ⟨M, hM⟩ : ∃ M, M = min 9 l.length := ⟨_, rfl⟩
  have HM : Hid (M = min 9 l.length) := hM
  have HN0 : Hid (numR 0 0 (l.drop 0) = numR 0 0 l ∧ 0 < 128 ^ 0) := ⟨rfl, by decide⟩
  by_cases h9 : (9 : Int) ≤ (l.length : Int)
  all_goals
    go_enter Tryz.func101, Tryz.ntmps101
    go_upto_region 3 with fail
    first | rw [show (9 : Int) = (M : Int) from by omega] | rw [show (l.length : Int) = (M : Int) from by omega]
    clear hM h9
    go_loopw [3, 12] (fun nv iv wr => ∃ (i n : Nat), i ≤ M ∧ iv = .int .i64 i ∧ nv = .int .i64 n ∧ wr = w ∧ Hid (numR i n (l.drop i) = numR 0 0 l ∧ n < 128 ^ i)) (fun _ iv _ => M - (intOf iv).toNat)
    case atStart => exact ⟨0, 0, by omega, by go_num, by go_num, rfl, HN0.out⟩
    case round =>
      clear HN0
      obtain ⟨i, n, hi, rfl, rfl, rfl, HR⟩ := hrel
      by_cases hil : i < M
      · have hll : i < l.length := by have := HM.out; omega
        have hi9 : i < 9 := by have := HM.out; omega
        have c0 := HV.out i hll
        have i1 : (0 : Int) ≤ (i : Int) := by omega
        have i2 : (i : Int) < (M : Int) := by omega
        have i3 : (i : Int) < (l.length : Int) := by omega
        have HST := num_go (n := n) hll hi9
        rw [HR.out.1] at HST
        replace HST : Hid (numR 0 0 l = if l[i].toNat = 0 ∧ 0 < i then none else if l[i].toNat < 128 then some (n + l[i].toNat * 128 ^ i, l.drop (i + 1)) else numR (i + 1) (n + (l[i].toNat - 128) * 128 ^ i) (l.drop (i + 1))) := HST
        have hbl := l[i].toNat_lt
        have hnl := HR.out.2
        clear HR
        generalize l[i].toNat = bb at *
        have hqo := num_or (b := bb % 128) hnl hi9 (by omega)
        rw [Int.natCast_emod] at hqo
        have hq0 : ((128 : Nat) : Int) = 128 := rfl
        rw [hq0] at hqo
        clear hq0
        obtain ⟨nn, hnn⟩ : ∃ nn, nn = n + bb % 128 * 128 ^ i := ⟨_, rfl⟩
        rw [← hnn] at hqo
        have HNN : Hid (nn = n + bb % 128 * 128 ^ i) := hnn
        clear hnn
        go_upto_region 7 with fail
        by_cases hz : bb = 0 ∧ 0 < i
        · have HE : Hid (numR 0 0 l = none) := by show _ = _; rw [HST.out, if_pos hz]
          obtain ⟨rfl, hz2⟩ := hz
          have z2 : ((i : Int) > 0) := by omega
          clear HST hqo HNN
          go_wp2_with (go_at_call 90; (with_reducible refine Calls.mono (CG _) ?_); rintro e2 w2 ⟨rfl, hw⟩; obtain rfl := hw.symm; clear hw)
          exact ⟨rfl, HF2.out _ _ HE.out rfl ⟨Below.refl _ _, fun _ _ _ => rfl⟩⟩
        · rw [if_neg hz] at HST
          by_cases hb1 : bb < 128
          · have HE : Hid (numR 0 0 l = some (nn, l.drop (i + 1))) := by show _ = _; rw [HST.out, if_pos hb1, HNN.out, Nat.mod_eq_of_lt hb1]
            have b1 : ((bb : Int) < 128) := by omega
            clear HST hqo HNN
            by_cases hcp : cap = i + 1
            · have HC := rd_cut (k := i + 1) (o' := o) HRB.out hc hg HV.out (by omega) (.inr (by omega))
              rw [show cap - (i + 1) = 0 by omega] at HC
              replace HC : Hid (Rd (wr.setCell ⟨R, 0, none⟩ (.slice (some ⟨g, o, none⟩) (l.length - (i + 1)) 0)) R left (l.drop (i + 1)) ∧ Rk wr R (wr.setCell ⟨R, 0, none⟩ (.slice (some ⟨g, o, none⟩) (l.length - (i + 1)) 0))) := HC
              by_cases h0 : bb = 0
              · have hi0 : ¬ ((i : Int) > 0) := by omega
                have e0 : ((bb : Int) == 0) = true := by simp [h0]
                clear h0
                go_wp2
                exact HF1.out _ _ _ _ HE.out rfl HC.out.1 HC.out.2
              · have e0 : ((bb : Int) == 0) = false := by simp; omega
                clear h0
                go_wp2
                exact HF1.out _ _ _ _ HE.out rfl HC.out.1 HC.out.2
            · have HC := rd_cut (k := i + 1) (o' := o + (i + 1)) HRB.out hc hg HV.out (by omega) (.inl rfl)
              replace HC : Hid (Rd (wr.setCell ⟨R, 0, none⟩ (.slice (some ⟨g, o + (i + 1), none⟩) (l.length - (i + 1)) (cap - (i + 1)))) R left (l.drop (i + 1)) ∧ Rk wr R (wr.setCell ⟨R, 0, none⟩ (.slice (some ⟨g, o + (i + 1), none⟩) (l.length - (i + 1)) (cap - (i + 1))))) := HC
              have hcp2 : ¬ cap - (i + 1) = 0 := by omega
              by_cases h0 : bb = 0
              · have hi0 : ¬ ((i : Int) > 0) := by omega
                have e0 : ((bb : Int) == 0) = true := by simp [h0]
                clear h0
                go_wp2
                exact HF1.out _ _ _ _ HE.out rfl HC.out.1 HC.out.2
              · have e0 : ((bb : Int) == 0) = false := by simp; omega
                clear h0
                go_wp2
                exact HF1.out _ _ _ _ HE.out rfl HC.out.1 HC.out.2
          · have HR2 : Hid (numR (i + 1) nn (l.drop (i + 1)) = numR 0 0 l ∧ nn < 128 ^ (i + 1)) := by
              have hbm : bb % 128 = bb - 128 := by omega
              refine ⟨by rw [HST.out, if_neg hb1, HNN.out, hbm], ?_⟩
              rw [HNN.out, Nat.pow_succ]
              have : bb % 128 * 128 ^ i ≤ 127 * 128 ^ i := Nat.mul_le_mul (by omega) (Nat.le_refl _)
              omega
            have b1 : ¬ ((bb : Int) < 128) := by omega
            have e0 : ((bb : Int) == 0) = false := by simp; omega
            clear HST hqo HNN
            go_wp2
            go_roundw
            case rel => exact ⟨i + 1, nn, hil, by go_num, by go_num, by first | rfl | trivial, HR2.out⟩
            case measure => simp [intOf]; omega
      · have hie : i = M := by omega
        have e3 : ¬ ((i : Int) < (M : Int)) := by omega
        have HE : Hid (numR 0 0 l = none) := by
          show _ = _
          rw [← HR.out.1]
          exact num_out (by have := HM.out; omega) (by have := HM.out; omega)
        clear HR hie
        go_wp2_with (go_at_call 90; (with_reducible refine Calls.mono (CG _) ?_); rintro e2 w2 ⟨rfl, hw⟩; obtain rfl := hw.symm; clear hw)
        exact ⟨rfl, HF2.out _ _ HE.out rfl ⟨Below.refl _ _, fun _ _ _ => rfl⟩⟩
end Go.Proofs.YtlpnegnpejpdkaaGreatDoor

namespace Go.Proofs.YtlpnegnpejpdkaaGreatDoor
open Go.RowKit

/-- What a reader's call leaves that answers a number. -/
def RN (w : World) (R : Nat) (left : Int) (x : Option (Nat × Byt)) (r : Ending) (w' : World) : Prop := match x with
  | some (n, m) => r = .returned (.int .i64 n) ∧ Hid (Rd w' R left m ∧ Rk w R w')
  | none => r = thrown 171 ∧ Hid (Rk w R w')
theorem rnum {w : World} {R : Nat} {left : Int} {l : Byt} (h : Rd w R left l) : Calls Tryz.prog 101 #[.pointer (some ⟨R, 0, none⟩)] w fun r w' => RN w R left (numR 0 0 l) r w' := rnum_any h
theorem Rk.refl (w : World) (R : Nat) : Rk w R w := ⟨Below.refl _ _, fun _ _ _ => rfl⟩
theorem Rk.trans {a b c : World} {R : Nat} (hs : a.heap.size ≤ b.heap.size) (h : Rk a R b) (k : Rk b R c) : Rk a R c := ⟨h.1.trans k.1, fun y hy hR => (k.2 y (Nat.lt_of_lt_of_le hy hs) hR).trans (h.2 y hy hR)⟩
theorem Rk.size {w w' : World} {R : Nat} (h : Rk w R w') : R ≤ w.heap.size → w.heap.size ≤ w'.heap.size := fun _ => by
  rcases Nat.lt_or_ge w'.heap.size w.heap.size with hlt | hge
  · by_cases hR : w'.heap.size = R
    · have := h.1.size
      omega
    · have h1 := h.2 w'.heap.size hlt hR
      have h2 : w'.heap[w'.heap.size]? = none := Array.getElem?_eq_none (Nat.le_refl _)
      rw [h2] at h1
      have h3 : w.heap[w'.heap.size]? = some (w.heap[w'.heap.size]'hlt) := Array.getElem?_eq_getElem hlt
      rw [h3] at h1
      cases h1
  · exact hge
set_option maxHeartbeats 16000000 in
set_option maxRecDepth 10000 in
theorem rcnt {w : World} {R : Nat} {left : Int} {l : Byt} (h : Rd w R left l) (most : Nat) (hl : l.length < 9223372036854775808) : Calls Tryz.prog 99 #[.pointer (some ⟨R, 0, none⟩), .int .i64 most] w fun r w' => RN w R left (cntR most l) r w' := by
  have CN := rnum h
  obtain ⟨F, hF⟩ : ∃ F : Ending → World → Prop, F = fun r w' => RN w R left (cntR most l) r w' := ⟨_, rfl⟩
  rw [← hF]
  have CG := fun W => giveUp_any 171 W
  unfold thrown at CG
  cases hn : numR 0 0 l with
  | none =>
    rw [hn] at CN
    replace CN : Calls Tryz.prog 101 #[.pointer (some ⟨R, 0, none⟩)] w fun r w' => r = .panicked [{ v := .iface 28 (.int .i64 171), recovered := false }] ∧ Hid (Rk w R w') := CN
    have HF1 : Hid (∀ r w', r = thrown 171 → Rk w R w' → F r w') := fun r w' h1 h2 => by
      rw [hF]
      have e : cntR most l = none := by unfold cntR; rw [hn]; rfl
      show RN w R left (cntR most l) r w'
      rw [e]
      exact ⟨h1, h2⟩
    clear hF h
    go_enter Tryz.func99, Tryz.ntmps99
    go_wp2_with (go_at_call 101; (with_reducible refine Calls.mono CN ?_); rintro e2 w2 ⟨rfl, HH⟩)
    exact ⟨rfl, HF1.out _ _ rfl HH.out⟩
  | some p =>
    obtain ⟨n, m⟩ := p
    rw [hn] at CN
    replace CN : Calls Tryz.prog 101 #[.pointer (some ⟨R, 0, none⟩)] w fun r w' => r = .returned (.int .i64 n) ∧ Hid (Rd w' R left m ∧ Rk w R w') := CN
    have hlm : m.length < 9223372036854775808 := by
      have := (numW_is hn).1
      rw [this, List.length_append] at hl
      omega
    have HF1 : Hid (∀ r w', ¬ n ≤ min most m.length → r = thrown 171 → Rk w R w' → F r w') := fun r w' h1 h2 h3 => by
      rw [hF]
      have e : cntR most l = none := by unfold cntR; rw [hn]; show (if n ≤ min most m.length then _ else _) = _; rw [if_neg h1]
      show RN w R left (cntR most l) r w'
      rw [e]
      exact ⟨h2, h3⟩
    have HF2 : Hid (∀ r w', n ≤ min most m.length → r = .returned (.int .i64 n) → Rd w' R left m → Rk w R w' → F r w') := fun r w' h1 h2 h3 h4 => by
      rw [hF]
      have e : cntR most l = some (n, m) := by unfold cntR; rw [hn]; show (if n ≤ min most m.length then _ else _) = _; rw [if_pos h1]
      show RN w R left (cntR most l) r w'
      rw [e]
      exact ⟨h2, h3, h4⟩
    clear hF h hn
    by_cases hmin : (most : Int) ≤ (m.length : Int)
    all_goals
      by_cases hfit : n ≤ min most m.length
      · have q1 : ¬ ((n : Int) > (most : Int)) := by omega
        have q2 : ¬ ((n : Int) > (m.length : Int)) := by omega
        go_enter Tryz.func99, Tryz.ntmps99
        go_wp2_with (go_at_call 101; (with_reducible refine Calls.mono CN ?_); rintro e2 w2 ⟨rfl, HH⟩; obtain ⟨g, o, cap, hRb, _⟩ := HH.out.1; have p0 : w2.cell? ⟨R, 0, none⟩ = some (.slice (some ⟨g, o, none⟩) m.length cap) := heap_cl hRb rfl)
        exact HF2.out _ _ hfit rfl HH.out.1 HH.out.2
      · have q1 : (most : Int) ≤ (m.length : Int) → ((n : Int) > (most : Int)) := by omega
        have q2 : ¬ (most : Int) ≤ (m.length : Int) → ((n : Int) > (m.length : Int)) := by omega
        first | replace q1 := q1 hmin | replace q2 := q2 hmin
        go_enter Tryz.func99, Tryz.ntmps99
        go_wp2_with (first | (go_at_call 101; (with_reducible refine Calls.mono CN ?_); rintro e2 w2 ⟨rfl, HH⟩; obtain ⟨g, o, cap, hRb, _⟩ := HH.out.1; have p0 : w2.cell? ⟨R, 0, none⟩ = some (.slice (some ⟨g, o, none⟩) m.length cap) := heap_cl hRb rfl) | (go_at_call 90; (with_reducible refine Calls.mono (CG _) ?_); rintro e3 w3 ⟨rfl, hw⟩; obtain rfl := hw.symm; clear hw))
        exact ⟨rfl, HF1.out _ _ hfit rfl HH.out.2⟩
end Go.Proofs.YtlpnegnpejpdkaaGreatDoor
