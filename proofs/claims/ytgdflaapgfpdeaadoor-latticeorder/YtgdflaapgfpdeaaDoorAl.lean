/- The reference's functions: the lattice of monotone functions. -/
import Derived.Test.YtgdflaapgfpdeaaDoorMxx
namespace Go.Proofs.YtgdflaapgfpdeaaDoor
open Go.RowKit

/-- The results of functions' elements. -/
def rsD (D : OrdD) : List (List Nat) := match D.2 with
  | some p => resP p.1 p.2
  | none => []
def LtP (w w' : World) (x : Value) (ok : Bool) (od : Option OrdD) : Prop := (ok = true → ∃ D, od = some D ∧ LatA w' (fun y => w.heap.size ≤ y ∧ y < w'.heap.size) x D.1 (rsD D) ∧ Lat D.1) ∧ (ok = false → od = none)
/-- A lattice and whether there is one. -/
def OpPost (od : Option OrdD) (w : World) (r : Ending) (w' : World) : Prop := ∃ (n : Int) (a1 : Option Addr) (l1 c1 : Nat) (a2 : Option Addr) (l2 c2 : Nat) (ok : Bool), r = .returned (.tuple #[.agg #[.int .i64 n, .slice a1 l1 c1, .slice a2 l2 c2], .bool ok]) ∧ Hid (Below w.heap.size w w') ∧ Hid (LtP w w' (.agg #[.int .i64 n, .slice a1 l1 c1, .slice a2 l2 c2]) ok od)
theorem great_full {fa ta : List Nat} (ht : Lat ta) {i k : Nat} (hi : i < (resP fa ta).length) (hk : k < (resP fa ta).length) : underP ta ((resP fa ta).getD i []) ((resP fa ta).getD k []) = (greatQ ta (resP fa ta) i (resP fa ta).length).testBit k := by
  have h1 : Le (fnsP ta (resP fa ta)) i k ↔ underP ta ((resP fa ta).getD i []) ((resP fa ta).getD k []) = true := by
    rw [fns_le ht, under_iff]
    have h2 := ((res_mem fa ta _).1 (res_in hi)).1
    have h3 := ((res_mem fa ta _).1 (res_in hk)).1
    rw [h2, h3]
    exact ⟨fun h => ⟨rfl, h.2.2⟩, fun h => ⟨hi, hk, h.2⟩⟩
  unfold Le at h1
  rw [fns_get _ _ hi] at h1
  exact (Bool.eq_iff_iff.2 h1).symm
theorem Wb.step {w : World} {g n b : Nat} {u : Nat → Bool} {v : Bool} (h : Wb w g n (fun j => decide (j < b) && u j)) (hv : v = u b) : Wb (w.setCell ⟨g, b, none⟩ (.bool v)) g n (fun j => decide (j < b + 1) && u j) := by
  obtain ⟨arr, h1, h2, h3⟩ := h.set (b := b) (v := v)
  refine ⟨arr, h1, h2, fun j hj => (h3 j hj).trans ?_⟩
  congr 2
  by_cases e : j = b
  · subst e
    simp [hv]
  · simp only [e, if_false]
    rw [show decide (j < b) = decide (j < b + 1) from decide_eq_decide.2 (by omega)]
theorem Wb.zero {w : World} {g n : Nat} {u : Nat → Bool} (h : Wb w g n (fun _ => false)) : Wb w g n (fun j => decide (j < 0) && u j) := by
  obtain ⟨arr, h1, h2, h3⟩ := h
  refine ⟨arr, h1, h2, fun j hj => (h3 j hj).trans ?_⟩
  simp
/-- rows, asked of a beginning that is nothing. -/
theorem rows_all {w : World} {xa xb : Value} {fa ta : List Nat} {rsa rsb : List (List Nat)} (hxa : LatA w (fun y => y < w.heap.size) xa fa rsa) (hxb : LatA w (fun y => y < w.heap.size) xb ta rsb) (hla : Lat fa) (hlb : Lat ta) (rs : List (List Nat)) (hrs : rs = (resP fa ta).take 41) :
    Calls Tryd.prog 45 #[xa, xb, .slice none 0 0, .slice none 0 0] w fun r w' => ∃ af cf, r = .returned (.slice af rs.length cf) ∧ Hid (Below w.heap.size w w') ∧ Hid (RowE ERs w' (fun y => w.heap.size ≤ y ∧ y < w'.heap.size) (fun y => w.heap.size ≤ y ∧ y < w'.heap.size) (.slice af rs.length cf) rs) := by
  have h := rows_any hla hlb fa.length xa xb rsa rsb w.heap.size none 0 [] (.slice none 0 0) [] w hxa hxb (Nat.le_refl _) (OwnN.nil _ _ _ _ _) (by simp) (.inl ⟨rfl, none, 0, rfl⟩) (by simp) (fun x hx => by simp at hx)
  refine Calls.mono h fun r w' q => ?_
  obtain ⟨fv', h1, h2, h3⟩ := q.out
  rw [List.nil_append, ← show resP fa ta = allP fa ta fa.length [] from rfl, ← hrs] at h3
  obtain ⟨ad, cap, h4⟩ := h3.len
  subst h4
  refine ⟨ad, cap, h1, ⟨h2.os, h2.tape, h2.output, h2.size, fun y hy => h2.block y hy (by simp [Value.ownBlock])⟩, h3.rowE.on (Keeps.refl _ _) (Keeps.refl _ _) (fun y hy => hy) fun y hy => hy.elim (fun q => q.elim) id⟩
/-- One list of a row of lists. -/
theorem row_nts {w : World} {S : Nat → Prop} {af : Option Addr} {n cf : Nat} {rs : List (List Nat)} (h : RowE ERs w S S (.slice af n cf) rs) (i : Nat) (hi : i < rs.length) : ∃ g o, af = some ⟨g, o, none⟩ ∧ S g ∧ rs.length ≤ cf ∧ ∃ ai ci, w.cell? ⟨g, o + i, none⟩ = some (.slice ai (rs.getD i []).length ci) ∧ Nts w S (.slice ai (rs.getD i []).length ci) (rs.getD i []) := by
  rcases h with ⟨h, _⟩ | ⟨g, o, cap, h1, h2, h3, h4⟩
  · rw [h] at hi
    simp at hi
  · obtain ⟨rfl, rfl, rfl⟩ := Value.slice.inj h1
    obtain ⟨hz, cs, ⟨ad, c, rfl, h6⟩, h5⟩ := h4 i hi
    have := h5 0 (show 0 < 1 by decide)
    rw [show rs.getD i [] = rs[i] by simp [hi]]
    exact ⟨g, o, rfl, hz, h3, ad, c, by simpa [ERs] using this, h6⟩
set_option maxHeartbeats 8000000 in
set_option maxRecDepth 10000 in
theorem functions_ref {w : World} {xa xb : Value} {fa ta : List Nat} {rsa rsb : List (List Nat)} (hxa : LatA w (fun y => y < w.heap.size) xa fa rsa) (hxb : LatA w (fun y => y < w.heap.size) xb ta rsb) (hla : Lat fa) (hlb : Lat ta) :
    Calls Tryd.prog 36 #[xa, xb] w fun r w' => OpPost (fnD fa ta) w r w' := by
  obtain ⟨rs, hrs⟩ : ∃ rs, rs = (resP fa ta).take 41 := ⟨_, rfl⟩
  have HXA : Hid (LatA w (fun y => y < w.heap.size) xa fa rsa) := hxa
  have HXB : Hid (LatA w (fun y => y < w.heap.size) xb ta rsb) := hxb
  obtain ⟨a1, l1, c1, a2, l2, c2, rfl⟩ := latA_box hxa
  obtain ⟨b1, m1, d1, b2, m2, d2, rfl⟩ := latA_box hxb
  obtain ⟨X, hX⟩ : ∃ X, X = w.heap.size := ⟨_, rfl⟩
  obtain ⟨Y, hY⟩ : ∃ Y, Y = w.heap.size + 1 := ⟨_, rfl⟩
  obtain ⟨L, hL⟩ : ∃ L, L = w.heap.size + 1 + 1 := ⟨_, rfl⟩
  obtain ⟨W, hW, hBW, hsW, hXW, hYW, hLW⟩ := boxes3 w #[.int .i64 (fa.length : Int), .slice a1 l1 c1, .slice a2 l2 c2] #[.int .i64 (ta.length : Int), .slice b1 m1 d1, .slice b2 m2 d2] #[.int .i64 0, .slice none 0 0, .slice none 0 0] 47
  rw [← hX] at hXW
  rw [← hY] at hYW
  rw [show w.heap.size + 2 = L by omega] at hLW
  have hk : Keeps (fun y => y < w.heap.size) w W := Keeps.of hBW fun _ h => h
  have hup : ∀ y, y < w.heap.size → y < W.heap.size := fun y h => by omega
  have CR := rows_all (HXA.out.on hk hup) (HXB.out.on hk hup) hla hlb rs hrs
  have HXBW : Hid (LatA W (fun y => y < W.heap.size) (.agg #[.int .i64 (ta.length : Int), .slice b1 m1 d1, .slice b2 m2 d2]) ta rsb) := HXB.out.on hk hup
  have x0 : W.cell? ⟨X, 0, none⟩ = some (.int .i64 (fa.length : Int)) := heap_cl hXW rfl
  have x1 : W.cell? ⟨X, 1, none⟩ = some (.slice a1 l1 c1) := heap_cl hXW rfl
  have x2 : W.cell? ⟨X, 2, none⟩ = some (.slice a2 l2 c2) := heap_cl hXW rfl
  have y0 : W.cell? ⟨Y, 0, none⟩ = some (.int .i64 (ta.length : Int)) := heap_cl hYW rfl
  have y1 : W.cell? ⟨Y, 1, none⟩ = some (.slice b1 m1 d1) := heap_cl hYW rfl
  have y2 : W.cell? ⟨Y, 2, none⟩ = some (.slice b2 m2 d2) := heap_cl hYW rfl
  have HBW : Hid (Below w.heap.size w W) := hBW
  have HXW : Hid (W.heap[X]? = some (.cells #[.int .i64 (fa.length : Int), .slice a1 l1 c1, .slice a2 l2 c2] 47 (0, 0))) := hXW
  have HYW : Hid (W.heap[Y]? = some (.cells #[.int .i64 (ta.length : Int), .slice b1 m1 d1, .slice b2 m2 d2] 47 (0, 0))) := hYW
  have HLW : Hid (W.heap[L]? = some (.cells #[.int .i64 0, .slice none 0 0, .slice none 0 0] 47 (0, 0))) := hLW
  have HS : Hid (X = w.heap.size ∧ Y = w.heap.size + 1 ∧ L = w.heap.size + 1 + 1 ∧ W.heap.size = w.heap.size + 3) := ⟨hX, hY, hL, hsW⟩
  have HLB : Hid (Lat ta) := hlb
  have HFEW : Hid ((resP fa ta).length ≤ 40 → Lat (fnsP ta (resP fa ta)) ∧ fnD fa ta = some (fnsP ta (resP fa ta), some (fa, ta))) := fun h => ⟨fns_lat hlb h, by
    unfold fnD fnP
    rw [if_pos h]
    rfl⟩
  have HMANY : Hid (40 < (resP fa ta).length → fnD fa ta = none) := fun h => by
    show _ = _
    unfold fnD fnP
    rw [if_neg (by omega)]
    rfl
  have HFA : Hid (fa.length ≤ 1000) := by
    have := hla.few
    show _ ≤ _
    omega
  have HRS41 : Hid (rs = (resP fa ta).take 41) := hrs
  obtain ⟨ti, hi0, hz0, hk0, hby0⟩ := info_parts Tryd.info4
  clear hrs hxa hxb HXA HXB hBW hsW hXW hYW hLW hk hup hX hY hL hla hlb
  go_enter Tryd.func36, Tryd.ntmps36
  go_upto_region 1 with fail
  rw [← hW, ← HS.out.2.2.1, ← HS.out.2.1, ← HS.out.1]
  clear hW
  go_upto_region 2 with (first | (go_at_call 45; (with_reducible refine Calls.mono CR ?_); rintro e' w4 ⟨af, cf, rfl, HB4, HR4⟩))
  clear x0 x1 x2 y0 y1 y2 CR
  obtain ⟨Z, hZ⟩ : ∃ Z, Z = w4.heap.size := ⟨_, rfl⟩
  replace hZ : Hid (Z = w4.heap.size) := hZ
  go_upto_region 3 with fail
  obtain ⟨W6, hW6⟩ : ∃ W6, W6 = w4.alloc (.cells #[.int .i64 (rs.length : Int), .slice none 0 0, .slice af rs.length cf] 47) := ⟨_, rfl⟩
  have hZ6 : W6.heap[Z]? = some (.cells #[.int .i64 (rs.length : Int), .slice none 0 0, .slice af rs.length cf] 47 (0, 0)) := by rw [hW6, hZ.out]; exact new_blk _ _
  have hB6 : Below Z w4 W6 := by rw [hW6, hZ.out]; exact (Below.refl _ _).alloc (Nat.le_refl _) _
  rw [← hW6, ← hZ.out]
  clear hW6
  have z0 : W6.cell? ⟨Z, 0, none⟩ = some (.int .i64 (rs.length : Int)) := heap_cl hZ6 rfl
  have HZ6 : Hid (W6.heap[Z]? = some (.cells #[.int .i64 (rs.length : Int), .slice none 0 0, .slice af rs.length cf] 47 (0, 0))) := hZ6
  have HB6 : Hid (Below Z w4 W6) := hB6
  clear hZ6 hB6
  have HYZ : Hid (∀ wr, Below Z w4 wr → wr.heap[Y]? = some (.cells #[.int .i64 (ta.length : Int), .slice b1 m1 d1, .slice b2 m2 d2] 47 (0, 0)) ∧ wr.heap[L]? = some (.cells #[.int .i64 0, .slice none 0 0, .slice none 0 0] 47 (0, 0)) ∧ LatA wr (fun y => y < Z) (.agg #[.int .i64 (ta.length : Int), .slice b1 m1 d1, .slice b2 m2 d2]) ta rsb ∧ RowE ERs wr (fun y => W.heap.size ≤ y ∧ y < Z) (fun y => W.heap.size ≤ y ∧ y < Z) (.slice af rs.length cf) rs ∧ L < W.heap.size ∧ Y < Z ∧ L < Z ∧ Z ≤ wr.heap.size) := fun wr hwr => by
    obtain ⟨s1, s2, s3, s4⟩ := HS.out
    have s5 := HB4.out.size
    have s6 := hZ.out
    have s7 := hwr.size
    have hk : ∀ y, y < W.heap.size → wr.heap[y]? = W.heap[y]? := fun y hy => (hwr.block y (by omega)).trans (HB4.out.block y hy)
    refine ⟨(hk Y (by omega)).trans HYW.out, (hk L (by omega)).trans HLW.out, HXBW.out.on (fun y hy => hk y hy) (fun y hy => by show y < Z; have : y < W.heap.size := hy; omega), HR4.out.on (fun y hy => hwr.block y (by omega)) (fun y hy => hwr.block y (by omega)) (fun y hy => ⟨hy.1, by omega⟩) (fun y hy => ⟨hy.1, by omega⟩), by omega, by omega, by omega, by omega⟩
  have HBZ : Hid (∀ wr, Below Z w4 wr → Below w.heap.size w wr) := fun wr hwr => by
    have s5 := HB4.out.size
    have s6 := hZ.out
    have s8 := HBW.out.size
    exact (HBW.out.trans (HB4.out.mono s8)).trans (hwr.mono (by omega))
  clear HB4 HR4 HXBW HYW HXW HLW HBW
  by_cases hfew : (resP fa ta).length ≤ 40
  · obtain ⟨hlat, hfn⟩ := HFEW.out hfew
    have hrs2 : rs = resP fa ta := by rw [HRS41.out]; exact List.take_of_length_le (by omega)
    have HFN : Hid (fnD fa ta = some (fnsP ta (resP fa ta), some (fa, ta))) := hfn
    have HLAT : Hid (Lat (fnsP ta rs)) := by rw [hrs2]; exact hlat
    have HLEN : Hid ((fnsP ta rs).length = rs.length) := fns_len _ _
    have HGET : Hid (∀ i (h : i < rs.length), (fnsP ta rs).take i ++ [greatQ ta rs i rs.length] = (fnsP ta rs).take (i + 1)) := fun i h => by
      rw [List.take_succ_eq_append_getElem (by rw [fns_len]; exact h)]
      congr 2
      have := fns_get ta rs h
      rw [List.getD_eq_getElem?_getD, List.getElem?_eq_getElem (by rw [fns_len]; exact h)] at this
      exact this.symm
    have HBIT : Hid (∀ i j, i < rs.length → j < rs.length → underP ta (rs.getD i []) (rs.getD j []) = (greatQ ta rs i rs.length).testBit j) := fun i j h1 h2 => by
      rw [hrs2] at h1 h2 ⊢
      exact great_full HLB.out h1 h2
    have HRS : Hid (∀ i, i < rs.length → (rs.getD i []).length = fa.length ∧ ∀ x ∈ rs.getD i [], x < ta.length) := fun i hi => by
      rw [hrs2] at hi ⊢
      obtain ⟨h1, h2, _⟩ := (res_mem fa ta _).1 (res_in hi)
      refine ⟨h1, fun x hx => ?_⟩
      obtain ⟨j, hj, rfl⟩ := List.getElem_of_mem hx
      have := h2 j (by omega)
      rwa [List.getD_eq_getElem?_getD, List.getElem?_eq_getElem hj] at this
    have HEND : Hid (rsD (fnsP ta (resP fa ta), some (fa, ta)) = rs ∧ fnsP ta (resP fa ta) = fnsP ta rs) := ⟨hrs2.symm, by rw [hrs2]⟩
    have hn40 : rs.length ≤ 40 := by rw [hrs2]; exact hfew
    have HPOS : Hid (fnsP ta rs ≠ []) := fun e => by
      have := HLAT.out.pos
      rw [e] at this
      simp at this
    clear hrs2 hlat hfn hfew HFEW HMANY HRS41
    have i40 : ¬ (rs.length : Int) > 40 := by omega
    go_upto_region 6 with fail
    clear z0 i40
    go_loopw [7] (fun iv wr => ∃ (i : Nat) (v : Value), i ≤ rs.length ∧ iv = .int .i64 i ∧ Hid (Below Z w4 wr) ∧ Hid (wr.heap[Z]? = some (.cells #[.int .i64 (rs.length : Int), v, .slice af rs.length cf] 47 (0, 0))) ∧ Hid (OwnN (EBl rs.length) 91 (Z + 1) (fun _ => False) wr v ((fnsP ta rs).take i))) (fun iv _ => rs.length - (intOf iv).toNat)
    case atStart => exact ⟨0, _, by omega, by go_num, HB6.out, HZ6.out, by rw [List.take_zero]; exact OwnN.nil _ _ _ _ _⟩
    case round =>
      clear HB6 HZ6 W6
      obtain ⟨i, v, hi, rfl, HB, HZ, HO⟩ := hrel
      by_cases hil : i < rs.length
      · have i1 : (0 : Int) ≤ (i : Int) := by omega
        have i2 : (i : Int) < (rs.length : Int) := by omega
        have z0 : wr.cell? ⟨Z, 0, none⟩ = some (.int .i64 (rs.length : Int)) := heap_cl HZ.out rfl
        go_upto_region 8 with fail
        go_upto_region 9 with (at_make; refine wpList_make_full _ rfl _ _ 91 rfl _ 4 ti _ 1 Tryd.underlying91 hi0 hz0 hk0 .i64 .i64 _ _ rs.length rfl rfl rfl rfl (by rw [hby0]; omega) (by unfold maxLen; omega) (Nat.le_refl _) ?_; intro w7 ho7 hg7)
        have HB7 : Hid (Below wr.heap.size wr w7) := (Below.refl _ _).grown hg7 (Nat.le_refl _) (fun _ e => (by cases e))
        have HW7 : Hid (Wb w7 wr.heap.size rs.length (fun j => decide (j < 0) && underP ta (rs.getD i []) (rs.getD j []))) := (Wb.made rfl ho7).zero
        clear ho7 hg7 z0
        obtain ⟨wo, hwo⟩ : ∃ wo, wo = wr := ⟨_, rfl⟩
        subst hwo
        obtain ⟨G, hG⟩ : ∃ G, G = wo.heap.size := ⟨_, rfl⟩
        rw [← hG] at HB7 HW7 ⊢
        replace hG : Hid (G = wo.heap.size) := hG
        have HZG : Hid (Z < G) := by
          show _ < _
          have := lt_heap HZ.out
          have := hG.out
          omega
        go_upto_region 10 with fail
        go_loopw [9] (fun bv wi => ∃ b : Nat, b ≤ rs.length ∧ bv = .int .i64 b ∧ Hid (Below G wo wi) ∧ Hid (Wb wi G rs.length (fun j => decide (j < b) && underP ta (rs.getD i []) (rs.getD j [])))) (fun bv _ => rs.length - (intOf bv).toNat)
        case atStart => exact ⟨0, Nat.zero_le _, by go_num, HB7.out, HW7.out⟩
        case round =>
          clear HB7 HW7
          obtain ⟨b, hb, rfl, HB2, HW2⟩ := hrel
          by_cases hbl : b < rs.length
          · have i3 : (0 : Int) ≤ (b : Int) := by omega
            have i4 : (b : Int) < (rs.length : Int) := by omega
            have hbz : Below Z w4 wr.drew := (HB.out.trans (HB2.out.mono (Nat.le_of_lt HZG.out))).drew
            obtain ⟨p1, p2, p3, p4, p5, p6, p7, p8⟩ := HYZ.out wr.drew hbz
            obtain ⟨g, o, haf, hsg, hcf, ai, ci, q1, n1⟩ := row_nts p4 i hil
            obtain ⟨g', o', haf', -, -, ak, ck, q2, n2⟩ := row_nts p4 b hbl
            subst haf
            simp only [Option.some.injEq, Addr.mk.injEq, and_true] at haf'
            obtain ⟨rfl, rfl⟩ := haf'
            have hup : ∀ y, y < Z → y < wr.drew.heap.size := fun y hy => Nat.lt_of_lt_of_le hy p8
            have CU := under_ref (p3.on (Keeps.refl _ _) hup) HLB.out (n1.on (Keeps.refl _ _) fun y hy => hup y hy.2) (n2.on (Keeps.refl _ _) fun y hy => hup y hy.2) (by rw [(HRS.out i hil).1, (HRS.out b hbl).1]) (by rw [(HRS.out i hil).1]; exact HFA.out) (HRS.out i hil).2 (HRS.out b hbl).2
            have hZd : wr.drew.heap[Z]? = some (.cells #[.int .i64 (rs.length : Int), v, .slice (some ⟨g, o, none⟩) rs.length cf] 47 (0, 0)) := (HB2.out.drew.block Z HZG.out).trans HZ.out
            obtain ⟨li, hli⟩ : ∃ li, li = (rs.getD i []).length := ⟨_, rfl⟩
            obtain ⟨lk, hlk⟩ : ∃ lk, lk = (rs.getD b []).length := ⟨_, rfl⟩
            obtain ⟨ub, hub⟩ : ∃ ub, ub = underP ta (rs.getD i []) (rs.getD b []) := ⟨_, rfl⟩
            rw [← hub, ← hli, ← hlk] at CU
            rw [← hli] at q1
            rw [← hlk] at q2
            have HUB : Hid (ub = underP ta (rs.getD i []) (rs.getD b [])) := hub
            have hS0 : (fun w' : World => w'.cell? ⟨Y, 0, none⟩ = some (.int .i64 (ta.length : Int)) ∧ w'.cell? ⟨Y, 1, none⟩ = some (.slice b1 m1 d1) ∧ w'.cell? ⟨Y, 2, none⟩ = some (.slice b2 m2 d2) ∧ w'.cell? ⟨Z, 2, none⟩ = some (.slice (some ⟨g, o, none⟩) rs.length cf) ∧ w'.cell? ⟨g, o + i, none⟩ = some (.slice ai li ci) ∧ w'.cell? ⟨g, o + b, none⟩ = some (.slice ak lk ck)) wr.drew := ⟨heap_cl p1 rfl, heap_cl p1 rfl, heap_cl p1 rfl, heap_cl hZd rfl, q1, q2⟩
            have HKS : Hid (∀ w' : World, Below wr.drew.heap.size wr.drew w' → (fun w' : World => w'.cell? ⟨Y, 0, none⟩ = some (.int .i64 (ta.length : Int)) ∧ w'.cell? ⟨Y, 1, none⟩ = some (.slice b1 m1 d1) ∧ w'.cell? ⟨Y, 2, none⟩ = some (.slice b2 m2 d2) ∧ w'.cell? ⟨Z, 2, none⟩ = some (.slice (some ⟨g, o, none⟩) rs.length cf) ∧ w'.cell? ⟨g, o + i, none⟩ = some (.slice ai li ci) ∧ w'.cell? ⟨g, o + b, none⟩ = some (.slice ak lk ck)) w') := fun w' hb' => by
              have hz8 : Z < wr.drew.heap.size := lt_heap hZd
              have hgl : g < wr.drew.heap.size := hup g hsg.2
              exact ⟨(hb'.cell (p := ⟨Y, 0, none⟩) (Nat.lt_of_lt_of_le p6 p8)).trans hS0.1, (hb'.cell (p := ⟨Y, 1, none⟩) (Nat.lt_of_lt_of_le p6 p8)).trans hS0.2.1, (hb'.cell (p := ⟨Y, 2, none⟩) (Nat.lt_of_lt_of_le p6 p8)).trans hS0.2.2.1, (hb'.cell (p := ⟨Z, 2, none⟩) hz8).trans hS0.2.2.2.1, (hb'.cell (p := ⟨g, o + i, none⟩) hgl).trans hS0.2.2.2.2.1, (hb'.cell (p := ⟨g, o + b, none⟩) hgl).trans hS0.2.2.2.2.2⟩
            have z0 : wr.cell? ⟨Z, 0, none⟩ = some (.int .i64 (rs.length : Int)) := heap_cl ((HB2.out.block Z HZG.out).trans HZ.out) rfl
            clear p1 p2 p3 p4 p5 p6 p7 p8 n1 n2 hub hli hlk hZd hup hbz q1 q2 hsg
            go_upto_region 12 with fail
            clear z0
            refine wp_region_M (S := (fun w' : World => w'.cell? ⟨Y, 0, none⟩ = some (.int .i64 (ta.length : Int)) ∧ w'.cell? ⟨Y, 1, none⟩ = some (.slice b1 m1 d1) ∧ w'.cell? ⟨Y, 2, none⟩ = some (.slice b2 m2 d2) ∧ w'.cell? ⟨Z, 2, none⟩ = some (.slice (some ⟨g, o, none⟩) rs.length cf) ∧ w'.cell? ⟨g, o + i, none⟩ = some (.slice ai li ci) ∧ w'.cell? ⟨g, o + b, none⟩ = some (.slice ak lk ck))) (L := 15) (n := 16) (by kernel_rfl) rfl (by kernel_rfl) ?_
            refine wpAnyK_go (i := 0) (m' := 1) (some 37) (v := .slice (some ⟨G, 0, none⟩) rs.length rs.length) rfl rfl (by kernel_rfl) (by kernel_rfl) (by kernel_rfl) (by kernel_rfl) (by kernel_rfl) (fun _ _ _ h => h) (Or.inl ⟨by rfl, ?_⟩) hS0 ?_
            · intro w' hSw
              go_simp
            simp only [Act.put, List.setIfInBounds_toArray, List.set_cons_zero, List.set_cons_succ]
            refine wpAnyK_go (i := 1) (m' := 3) (some 38) (v := .int .i64 (b : Int)) rfl rfl (by kernel_rfl) (by kernel_rfl) (by kernel_rfl) (by kernel_rfl) (by kernel_rfl) (fun _ _ _ h => h) (Or.inl ⟨by rfl, ?_⟩) hS0 ?_
            · intro w' hSw
              go_simp
            simp only [Act.put, List.setIfInBounds_toArray, List.set_cons_zero, List.set_cons_succ]
            refine wpAnyK_go (i := 2) (m' := 7) (some 39) (v := .agg #[.int .i64 (ta.length : Int), .slice b1 m1 d1, .slice b2 m2 d2]) rfl rfl (by kernel_rfl) (by kernel_rfl) (by kernel_rfl) (by kernel_rfl) (by kernel_rfl) (fun _ _ _ h => h) (Or.inl ⟨by rfl, ?_⟩) hS0 ?_
            · intro w' hSw
              obtain ⟨s1, s2, s3, s4, s5, s6⟩ := hSw
              go_simp
            simp only [Act.put, List.setIfInBounds_toArray, List.set_cons_zero, List.set_cons_succ]
            refine wpAnyK_go (i := 3) (m' := 15) (some 40) (v := .pointer (some ⟨Z, 2, none⟩)) rfl rfl (by kernel_rfl) (by kernel_rfl) (by kernel_rfl) (by kernel_rfl) (by kernel_rfl) (fun _ _ _ h => h) (Or.inl ⟨by rfl, ?_⟩) hS0 ?_
            · intro w' hSw
              go_simp
            simp only [Act.put, List.setIfInBounds_toArray, List.set_cons_zero, List.set_cons_succ]
            refine wpAnyK_go (i := 4) (m' := 31) (some 41) (v := .slice (some ⟨g, o, none⟩) rs.length cf) rfl rfl (by kernel_rfl) (by kernel_rfl) (by kernel_rfl) (by kernel_rfl) (by kernel_rfl) (fun _ _ _ h => h) (Or.inl ⟨by rfl, ?_⟩) hS0 ?_
            · intro w' hSw
              obtain ⟨s1, s2, s3, s4, s5, s6⟩ := hSw
              go_simp
            simp only [Act.put, List.setIfInBounds_toArray, List.set_cons_zero, List.set_cons_succ]
            refine wpAnyK_go (i := 5) (m' := 63) (some 42) (v := .int .i64 (i : Int)) rfl rfl (by kernel_rfl) (by kernel_rfl) (by kernel_rfl) (by kernel_rfl) (by kernel_rfl) (fun _ _ _ h => h) (Or.inl ⟨by rfl, ?_⟩) hS0 ?_
            · intro w' hSw
              go_simp
            simp only [Act.put, List.setIfInBounds_toArray, List.set_cons_zero, List.set_cons_succ]
            refine wpAnyK_go (i := 6) (m' := 127) (some 43) (v := .pointer (some ⟨g, o + i, none⟩)) rfl rfl (by kernel_rfl) (by kernel_rfl) (by kernel_rfl) (by kernel_rfl) (by kernel_rfl) (fun _ _ _ h => h) (Or.inl ⟨by rfl, ?_⟩) hS0 ?_
            · intro w' hSw
              go_simp
            simp only [Act.put, List.setIfInBounds_toArray, List.set_cons_zero, List.set_cons_succ]
            refine wpAnyK_go (i := 7) (m' := 255) (some 44) (v := .slice ai li ci) rfl rfl (by kernel_rfl) (by kernel_rfl) (by kernel_rfl) (by kernel_rfl) (by kernel_rfl) (fun _ _ _ h => h) (Or.inl ⟨by rfl, ?_⟩) hS0 ?_
            · intro w' hSw
              obtain ⟨s1, s2, s3, s4, s5, s6⟩ := hSw
              go_simp
            simp only [Act.put, List.setIfInBounds_toArray, List.set_cons_zero, List.set_cons_succ]
            refine wpAnyK_go (i := 8) (m' := 511) (some 45) (v := .pointer (some ⟨Z, 2, none⟩)) rfl rfl (by kernel_rfl) (by kernel_rfl) (by kernel_rfl) (by kernel_rfl) (by kernel_rfl) (fun _ _ _ h => h) (Or.inl ⟨by rfl, ?_⟩) hS0 ?_
            · intro w' hSw
              go_simp
            simp only [Act.put, List.setIfInBounds_toArray, List.set_cons_zero, List.set_cons_succ]
            refine wpAnyK_go (i := 9) (m' := 1023) (some 46) (v := .slice (some ⟨g, o, none⟩) rs.length cf) rfl rfl (by kernel_rfl) (by kernel_rfl) (by kernel_rfl) (by kernel_rfl) (by kernel_rfl) (fun _ _ _ h => h) (Or.inl ⟨by rfl, ?_⟩) hS0 ?_
            · intro w' hSw
              obtain ⟨s1, s2, s3, s4, s5, s6⟩ := hSw
              go_simp
            simp only [Act.put, List.setIfInBounds_toArray, List.set_cons_zero, List.set_cons_succ]
            refine wpAnyK_go (i := 10) (m' := 2047) (some 47) (v := .int .i64 (b : Int)) rfl rfl (by kernel_rfl) (by kernel_rfl) (by kernel_rfl) (by kernel_rfl) (by kernel_rfl) (fun _ _ _ h => h) (Or.inl ⟨by rfl, ?_⟩) hS0 ?_
            · intro w' hSw
              go_simp
            simp only [Act.put, List.setIfInBounds_toArray, List.set_cons_zero, List.set_cons_succ]
            refine wpAnyK_go (i := 11) (m' := 4095) (some 48) (v := .pointer (some ⟨g, o + b, none⟩)) rfl rfl (by kernel_rfl) (by kernel_rfl) (by kernel_rfl) (by kernel_rfl) (by kernel_rfl) (fun _ _ _ h => h) (Or.inl ⟨by rfl, ?_⟩) hS0 ?_
            · intro w' hSw
              go_simp
            simp only [Act.put, List.setIfInBounds_toArray, List.set_cons_zero, List.set_cons_succ]
            refine wpAnyK_go (i := 12) (m' := 8191) (some 49) (v := .slice ak lk ck) rfl rfl (by kernel_rfl) (by kernel_rfl) (by kernel_rfl) (by kernel_rfl) (by kernel_rfl) (fun _ _ _ h => h) (Or.inl ⟨by rfl, ?_⟩) hS0 ?_
            · intro w' hSw
              obtain ⟨s1, s2, s3, s4, s5, s6⟩ := hSw
              go_simp
            simp only [Act.put, List.setIfInBounds_toArray, List.set_cons_zero, List.set_cons_succ]
            refine wpAnyK_only (i := 13) (m' := 16383) (by kernel_rfl) rfl (by kernel_rfl) fun K hK => ?_
            go_simp
            (with_reducible refine Calls.mono CU ?_)
            rintro e' w8 ⟨rfl, HB8⟩
            have hS8 := HKS.out w8 HB8.out
            go_simp
            refine hK.out _ _ (fun _ => hS8) ?_
            clear hK K CU
            refine wpAnyK_only (i := 14) (m' := 32767) (by kernel_rfl) rfl (by kernel_rfl) fun K hK => ?_
            go_simp
            refine hK.out _ _ (fun _ => hS8) ?_
            clear hK K hS8 hS0 HKS
            have HW8 : Hid (Wb w8 G rs.length (fun j => decide (j < b) && underP ta (rs.getD i []) (rs.getD j []))) := HW2.out.on (HB8.out.block G HW2.out.lt)
            obtain ⟨y1, y2⟩ := HW8.out.at b hbl
            refine wpAnyK_only (i := 15) (m' := 65535) (by kernel_rfl) rfl (by kernel_rfl) fun K hK => ?_
            go_simp
            refine hK.out _ _ (fun h => absurd rfl h) ?_
            clear hK K
            refine wpAnyK_done (by kernel_rfl) ?_ _
            have HB9 : Hid (Below G wo (w8.setCell ⟨G, b, none⟩ (.bool ub))) := ((HB2.out.drew).trans (HB8.out.mono (Nat.le_of_lt HW2.out.lt))).setCell (show G ≤ (⟨G, b, none⟩ : Addr).block from Nat.le_refl _) _
            have HW9 : Hid (Wb (w8.setCell ⟨G, b, none⟩ (.bool ub)) G rs.length (fun j => decide (j < b + 1) && underP ta (rs.getD i []) (rs.getD j []))) := HW8.out.step HUB.out
            clear y1 y2 HW8 HB8 HW2 HB2 HUB
            generalize w8.setCell ⟨G, b, none⟩ (.bool ub) = w9 at *
            go_wp2
            go_roundw
            case rel => exact ⟨b + 1, hbl, by go_num, HB9.out, HW9.out⟩
            case measure => simp [intOf]; omega
          · obtain rfl : b = rs.length := by omega
            have hb4 : Below Z w4 wr := HB.out.trans (HB2.out.mono (Nat.le_of_lt HZG.out))
            have hZr : wr.heap[Z]? = some (.cells #[.int .i64 (rs.length : Int), v, .slice af rs.length cf] 47 (0, 0)) := (HB2.out.block Z HZG.out).trans HZ.out
            have z0 : wr.cell? ⟨Z, 0, none⟩ = some (.int .i64 (rs.length : Int)) := heap_cl hZr rfl
            have z1 : wr.cell? ⟨Z, 1, none⟩ = some v := heap_cl hZr rfl
            have HZr : Hid (wr.heap[Z]? = some (.cells #[.int .i64 (rs.length : Int), v, .slice af rs.length cf] 47 (0, 0))) := hZr
            have HC : Hid ((EBl rs.length).C wr (Nwr (fun _ => False) (Z + 1) wr v) [.slice (some ⟨G, 0, none⟩) rs.length rs.length] (greatQ ta rs i rs.length)) := ⟨_, _, rfl, HW2.out.bts (.inr ⟨by have := HZG.out; omega, HW2.out.lt, fun e => by have := (HO.out.lt G e).2; have := hG.out; omega⟩) (fun j hj => by rw [decide_eq_true hj, Bool.true_and]; exact HBIT.out i j hil hj)⟩
            have HBO : Hid (Z + 1 ≤ wo.heap.size) := by
              show _ ≤ _
              have := hG.out
              have := HZG.out
              omega
            have HL1 : Hid (((fnsP ta rs).take (i + 1)).length = i + 1) := by
              show _ = _
              have := HLEN.out
              rw [List.length_take]
              omega
            have HBG : Hid (Below wo.heap.size wo wr) := by
              show Below _ _ _
              rw [← hG.out]
              exact HB2.out
            have HLN : Hid (((fnsP ta rs).take i).length + 1 ≤ 10000000) := by
              show _ ≤ _
              rw [List.length_take]
              omega
            have HGi : Hid ((fnsP ta rs).take i ++ [greatQ ta rs i rs.length] = (fnsP ta rs).take (i + 1)) := HGET.out i hil
            clear hb4 hZr
            go_upto_region 13 with fail
            clear z0
            go_wp2_with (at_builtin; refine wpList_append_N1 (E := EBl rs.length) (w1 := wo) (w2 := wr) (cs := [.slice (some ⟨G, 0, none⟩) rs.length rs.length]) (p := greatQ ta rs i rs.length) (cap := 1) (Tryd.ty44 rs.length) rfl _ _ rfl rfl HO.out (fun _ h => h.elim) HBO.out HBG.out rfl HC.out (Nat.le_refl _) HLN.out ?_; intro v4 w10 O4 B4 N4; rw [HGi.out] at O4; obtain ⟨a4, c4, rfl⟩ := O4.len; rw [HL1.out] at O4 ⊢; have HZ4 : Hid (w10.heap[Z]? = some (.cells #[.int .i64 (rs.length : Int), v, .slice af rs.length cf] 47 (0, 0))) := (B4.block Z (by have := HZG.out; have := hG.out; omega)).trans HZ.out; replace O4 : Hid _ := O4; replace B4 : Hid _ := B4; have y3 : w10.cell? ⟨Z, 1, none⟩ = some v := heap_cl HZ4.out rfl; have y4 : w10.frozen? ⟨Z, 1, none⟩ = false := heap_frozen HZ4.out)
            have hzg := HZG.out
            have hgg := hG.out
            refine ⟨⟨i + 1, .slice a4 (i + 1) c4, hil, by go_num, (HB.out.trans (B4.out.mono (by omega))).setCell (show Z ≤ Z by omega) _, setCell_block HZ4.out, own_put (by omega) O4.out⟩, by simp [intOf]; omega⟩
      · obtain rfl : i = rs.length := by omega
        obtain ⟨p1, p2, p3, p4, p5, p6, p7, p8⟩ := HYZ.out wr HB.out
        replace HO : Hid (OwnN (EBl rs.length) 91 (Z + 1) (fun _ => False) wr v (fnsP ta rs)) := by
          have h := HO.out
          rwa [List.take_of_length_le (by rw [HLEN.out]; exact Nat.le_refl _)] at h
        obtain ⟨av, cv, rfl⟩ := HO.out.len
        rw [HLEN.out] at HO HZ
        have z0 : wr.cell? ⟨Z, 0, none⟩ = some (.int .i64 (rs.length : Int)) := heap_cl HZ.out rfl
        have z1 : wr.cell? ⟨Z, 1, none⟩ = some (.slice av rs.length cv) := heap_cl HZ.out rfl
        have z2 : wr.cell? ⟨Z, 2, none⟩ = some (.slice af rs.length cf) := heap_cl HZ.out rfl
        have x0 : wr.cell? ⟨L, 0, none⟩ = some (.int .i64 0) := heap_cl p2 rfl
        have x1 : wr.cell? ⟨L, 1, none⟩ = some (.slice none 0 0) := heap_cl p2 rfl
        have x2 : wr.cell? ⟨L, 2, none⟩ = some (.slice none 0 0) := heap_cl p2 rfl
        have f0 : wr.frozen? ⟨L, 0, none⟩ = false := heap_frozen p2
        have f1 : wr.frozen? ⟨L, 1, none⟩ = false := heap_frozen p2
        have f2 : wr.frozen? ⟨L, 2, none⟩ = false := heap_frozen p2
        have HLr : Hid (wr.heap[L]? = some (.cells #[.int .i64 0, .slice none 0 0, .slice none 0 0] 47 (0, 0))) := p2
        have HRr : Hid (RowE ERs wr (fun y => W.heap.size ≤ y ∧ y < Z) (fun y => W.heap.size ≤ y ∧ y < Z) (.slice af rs.length cf) rs) := p4
        have HLs : Hid (L < W.heap.size ∧ L < Z ∧ Z ≤ wr.heap.size) := ⟨p5, p7, p8⟩
        have HBw : Hid (Below w.heap.size w wr) := HBZ.out wr HB.out
        have HLw : Hid (w.heap.size ≤ L) := by
          show _ ≤ _
          have := HS.out.2.2.1
          omega
        clear p1 p2 p3 p4 p5 p6 p7 p8
        go_upto_region 14 with fail
        go_wp2
        have HL5 : Hid ((((wr.setCell ⟨L, 0, none⟩ (.int .i64 rs.length)).setCell ⟨L, 1, none⟩ (.slice av rs.length cv)).setCell ⟨L, 2, none⟩ (.slice af rs.length cf)).heap[L]? = some (.cells #[.int .i64 rs.length, .slice av rs.length cv, .slice af rs.length cf] 47 (0, 0))) := setCell_block (setCell_block (setCell_block HLr.out))
        have hl := HLs.out
        replace HO : Hid (OwnN (EBl rs.length) 91 (Z + 1) (fun _ => False) (((wr.setCell ⟨L, 0, none⟩ (.int .i64 rs.length)).setCell ⟨L, 1, none⟩ (.slice av rs.length cv)).setCell ⟨L, 2, none⟩ (.slice af rs.length cf)) (.slice av rs.length cv) (fnsP ta rs)) := own_put (by omega) (own_put (by omega) (own_put (by omega) HO.out))
        have HKL : Hid (Keeps (fun y => W.heap.size ≤ y ∧ y < Z) wr (((wr.setCell ⟨L, 0, none⟩ (.int .i64 rs.length)).setCell ⟨L, 1, none⟩ (.slice av rs.length cv)).setCell ⟨L, 2, none⟩ (.slice af rs.length cf))) := fun y hy => by
          have hy : W.heap.size ≤ y ∧ y < Z := hy
          rw [Below.heap_setCell _ _ _ _ (by show y ≠ L; omega), Below.heap_setCell _ _ _ _ (by show y ≠ L; omega), Below.heap_setCell _ _ _ _ (by show y ≠ L; omega)]
        have HSz : Hid (wr.heap.size = (((wr.setCell ⟨L, 0, none⟩ (.int .i64 rs.length)).setCell ⟨L, 1, none⟩ (.slice av rs.length cv)).setCell ⟨L, 2, none⟩ (.slice af rs.length cf)).heap.size) := by
          show _ = _
          rw [World.size_setCell, World.size_setCell, World.size_setCell]
        replace HBw : Hid (Below w.heap.size w (((wr.setCell ⟨L, 0, none⟩ (.int .i64 rs.length)).setCell ⟨L, 1, none⟩ (.slice av rs.length cv)).setCell ⟨L, 2, none⟩ (.slice af rs.length cf))) := ((HBw.out.setCell (show w.heap.size ≤ L from HLw.out) _).setCell (show w.heap.size ≤ L from HLw.out) _).setCell (show w.heap.size ≤ L from HLw.out) _
        clear x0 x1 x2 z0 z1 z2 f0 f1 f2 HZ HLr
        generalize ((wr.setCell ⟨L, 0, none⟩ (.int .i64 rs.length)).setCell ⟨L, 1, none⟩ (.slice av rs.length cv)).setCell ⟨L, 2, none⟩ (.slice af rs.length cf) = w5 at *
        have x0 : w5.cell? ⟨L, 0, none⟩ = some (.int .i64 rs.length) := heap_cl HL5.out rfl
        have x1 : w5.cell? ⟨L, 1, none⟩ = some (.slice av rs.length cv) := heap_cl HL5.out rfl
        have x2 : w5.cell? ⟨L, 2, none⟩ = some (.slice af rs.length cf) := heap_cl HL5.out rfl
        refine bodyPost_ret (v := .tuple #[.agg #[.int .i64 rs.length, .slice av rs.length cv, .slice af rs.length cf], .bool true]) (by simp [results, Tryd.results36, go_sem, x0, x1, x2]) rfl ?_
        have hz2 := HSz.out
        rw [HFN.out]
        have hsw := HS.out.2.2.2
        have hsl := HS.out.2.2.1
        refine ⟨_, _, _, _, _, _, _, _, rfl, HBw.out, fun _ => ⟨_, rfl, ?_, ?_⟩, fun h => by cases h⟩
        · rw [HEND.out.1]
          show LatA _ _ _ (fnsP ta (resP fa ta)) _
          rw [HEND.out.2]
          refine ⟨_, _, by rw [HLEN.out], ?_, HRr.out.on HKL.out HKL.out (fun y hy => ⟨by have := hy.1; omega, by have := hy.2; omega⟩) (fun y hy => ⟨by have := hy.1; omega, by have := hy.2; omega⟩), HPOS.out⟩
          rw [HLEN.out]
          exact HO.out.rowE.on (fun _ _ => rfl) (fun _ _ => rfl) (fun _ h => ⟨by have := h.1; omega, h.2⟩) (fun _ h => h.elim (fun q => q.elim) fun q => ⟨by have := q.1; omega, q.2⟩)
        · show Lat (fnsP ta (resP fa ta))
          rw [HEND.out.2]
          exact HLAT.out
  · have hr41 : rs.length = 41 := by
      rw [HRS41.out, List.length_take]
      omega
    have HFN : Hid (fnD fa ta = none) := HMANY.out (by omega)
    have i40 : (rs.length : Int) > 40 := by omega
    obtain ⟨p1, p2, p3, p4, p5, p6, p7, p8⟩ := HYZ.out W6 HB6.out
    have HB : Hid (Below w.heap.size w W6) := HBZ.out W6 HB6.out
    have HLw : Hid (w.heap.size ≤ L) := by
      show _ ≤ _
      have := HS.out.2.2.1
      omega
    have HLr : Hid (W6.heap[L]? = some (.cells #[.int .i64 0, .slice none 0 0, .slice none 0 0] 47 (0, 0))) := p2
    have x0 : W6.cell? ⟨L, 0, none⟩ = some (.int .i64 0) := heap_cl p2 rfl
    have x1 : W6.cell? ⟨L, 1, none⟩ = some (.slice none 0 0) := heap_cl p2 rfl
    have x2 : W6.cell? ⟨L, 2, none⟩ = some (.slice none 0 0) := heap_cl p2 rfl
    have f0 : W6.frozen? ⟨L, 0, none⟩ = false := heap_frozen p2
    have f1 : W6.frozen? ⟨L, 1, none⟩ = false := heap_frozen p2
    have f2 : W6.frozen? ⟨L, 2, none⟩ = false := heap_frozen p2
    clear p1 p2 p3 p4 p5 p6 p7 p8 hfew hr41
    go_upto_region 4 with fail
    go_wp2
    have HL5 : Hid ((((W6.setCell ⟨L, 0, none⟩ (.int .i64 0)).setCell ⟨L, 1, none⟩ (.slice none 0 0)).setCell ⟨L, 2, none⟩ (.slice none 0 0)).heap[L]? = some (.cells #[.int .i64 0, .slice none 0 0, .slice none 0 0] 47 (0, 0))) := setCell_block (setCell_block (setCell_block HLr.out))
    replace HB : Hid (Below w.heap.size w (((W6.setCell ⟨L, 0, none⟩ (.int .i64 0)).setCell ⟨L, 1, none⟩ (.slice none 0 0)).setCell ⟨L, 2, none⟩ (.slice none 0 0))) := ((HB.out.setCell (show w.heap.size ≤ L from HLw.out) _).setCell (show w.heap.size ≤ L from HLw.out) _).setCell (show w.heap.size ≤ L from HLw.out) _
    clear x0 x1 x2 f0 f1 f2 HLr z0
    generalize ((W6.setCell ⟨L, 0, none⟩ (.int .i64 0)).setCell ⟨L, 1, none⟩ (.slice none 0 0)).setCell ⟨L, 2, none⟩ (.slice none 0 0) = w5 at *
    have x0 : w5.cell? ⟨L, 0, none⟩ = some (.int .i64 0) := heap_cl HL5.out rfl
    have x1 : w5.cell? ⟨L, 1, none⟩ = some (.slice none 0 0) := heap_cl HL5.out rfl
    have x2 : w5.cell? ⟨L, 2, none⟩ = some (.slice none 0 0) := heap_cl HL5.out rfl
    refine bodyPost_ret (v := .tuple #[.agg #[.int .i64 0, .slice none 0 0, .slice none 0 0], .bool false]) (by simp [results, Tryd.results36, go_sem, x0, x1, x2]) rfl ?_
    rw [HFN.out]
    exact ⟨_, _, _, _, _, _, _, _, rfl, HB.out, (fun h => (by cases h)), fun _ => rfl⟩
end Go.Proofs.YtgdflaapgfpdeaaDoor
