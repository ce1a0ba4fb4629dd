/- The reference's rows: all results behind a beginning, no more than one too many. The reference's rows: the walk. The reference's rows: one result more. The reference's chain. The reference's chain. The law's own: within. The reference's functions: the lattice of monotone functions. The reference's closed: has a type no variable? -/
import Derived.Test.YtgdflaapgfpdeaaGreatDoorMux
namespace Go.Proofs.YtgdflaapgfpdeaaGreatDoor
open Go.RowKit

/-- Only the row v is written. -/
structure Kf (v v' : Value) (w w' : World) : Prop where
  os : w'.os = w.os
  tape : w'.tape = w.tape
  output : w'.output = w.output
  size : w.heap.size ≤ w'.heap.size
  block : ∀ y, y < w.heap.size → v.ownBlock ≠ some y → w'.heap[y]? = w.heap[y]?
  new : ∀ y, v'.ownBlock = some y → v.ownBlock = some y ∨ w.heap.size ≤ y
theorem Kf.of {v : Value} {w w' : World} (h : Below w.heap.size w w') : Kf v v w w' := ⟨h.os, h.tape, h.output, h.size, fun y hy _ => h.block y hy, fun _ e => .inl e⟩
theorem Kf.trans {v1 v2 v3 : Value} {w1 w2 w3 : World} (h : Kf v1 v2 w1 w2) (k : Kf v2 v3 w2 w3) : Kf v1 v3 w1 w3 := by
  refine ⟨k.os.trans h.os, k.tape.trans h.tape, k.output.trans h.output, Nat.le_trans h.size k.size, fun y h1 h4 => ?_, fun y e => ?_⟩
  · refine (k.block y (Nat.lt_of_lt_of_le h1 h.size) fun e => ?_).trans (h.block y h1 h4)
    rcases h.new y e with e | e
    · exact h4 e
    · omega
  · rcases k.new y e with e | e
    · exact h.new y e
    · exact .inr (Nat.le_trans h.size e)
theorem Kf.below {α : Type} {E : Elt α} {e B : Nat} {v v' : Value} {l : List α} {w w' : World} (h : Kf v v' w w') (k : OwnN E e B (fun _ => False) w v l) (hB : B ≤ w.heap.size) : Below B w w' := ⟨h.os, h.tape, h.output, h.size, fun y hy => h.block y (by omega) fun e => by have := (k.lt y e).1; omega⟩
theorem take_app {α : Type} (n : Nat) (l m : List α) : (l.take n ++ m).take n = (l ++ m).take n := by
  rw [List.take_append, List.take_append, List.take_take, Nat.min_self, List.length_take]
  by_cases h : n ≤ l.length
  · rw [Nat.min_eq_left h, Nat.sub_self, Nat.sub_eq_zero_of_le h]
  · rw [Nat.min_eq_right (by omega)]
def RowsPost (fa ta : List Nat) (B k : Nat) (row : List Nat) (fv : Value) (fs : List (List Nat)) (w : World) (r : Ending) (w' : World) : Prop :=
  ∃ fv', r = .returned fv' ∧ Kf fv fv' w w' ∧ OwnN ERs 25 B (fun _ => False) w' fv' ((fs ++ allP fa ta k row).take 41)
def RowsC (fa ta : List Nat) (k : Nat) : Prop := ∀ (xa xb : Value) (rsa rsb : List (List Nat)) (B : Nat) (ar : Option Addr) (cr : Nat) (row : List Nat) (fv : Value) (fs : List (List Nat)) (w : World),
  LatA w (fun y => y < B) xa fa rsa → LatA w (fun y => y < B) xb ta rsb → B ≤ w.heap.size → OwnN ERs 25 B (fun _ => False) w fv fs → fs.length ≤ 41 → Nts w (Nwr (fun _ => False) B w fv) (.slice ar row.length cr) row → row.length + k = fa.length → (∀ x ∈ row, x < ta.length) →
  Calls Tryz.prog 60 #[xa, xb, .slice ar row.length cr, fv] w fun r w' => Hid (RowsPost fa ta B k row fv fs w r w')
/-- A part of an order that is the reference's, as it is laid in a box. -/
theorem latA_box {w : World} {S : Nat → Prop} {x : Value} {ab : List Nat} {rs : List (List Nat)} (h : LatA w S x ab rs) : ∃ a1 l1 c1 a2 l2 c2, x = .agg #[.int .i64 (ab.length : Int), .slice a1 l1 c1, .slice a2 l2 c2] := by
  obtain ⟨bv, rv, rfl, h1, h2, _⟩ := h
  obtain ⟨a1, c1, rfl, _⟩ := RowK.open h1
  obtain ⟨a2, c2, rfl, _⟩ := RowK.open h2
  exact ⟨_, _, _, _, _, _, rfl⟩
set_option maxHeartbeats 16000000 in
set_option maxRecDepth 10000 in
theorem rows_full {fa ta : List Nat} {k : Nat} (xa xb : Value) (rsa rsb : List (List Nat)) (B : Nat) (ar : Option Addr) (cr : Nat) (row : List Nat) (fv : Value) (fs : List (List Nat)) (w : World)
    (hxa : LatA w (fun y => y < B) xa fa rsa) (hxb : LatA w (fun y => y < B) xb ta rsb) (hB : B ≤ w.heap.size) (ho : OwnN ERs 25 B (fun _ => False) w fv fs) (hf : 40 < fs.length) (hf2 : fs.length ≤ 41) :
    Calls Tryz.prog 60 #[xa, xb, .slice ar row.length cr, fv] w fun r w' => Hid (RowsPost fa ta B k row fv fs w r w') := by
  obtain ⟨a1, l1, c1, a2, l2, c2, rfl⟩ := latA_box hxa
  obtain ⟨b1, m1, d1, b2, m2, d2, rfl⟩ := latA_box hxb
  obtain ⟨adf, cpf, rfl⟩ := ho.len
  have HP : Hid (∀ w', Below w.heap.size w w' → RowsPost fa ta B k row (.slice adf fs.length cpf) fs w (.returned (.slice adf fs.length cpf)) w') := fun w' hb => ⟨_, rfl, Kf.of hb, by
    have e : (fs ++ allP fa ta k row).take 41 = fs := by
      rw [List.take_append_of_le_length (by omega)] <;> first | exact List.take_of_length_le (by omega) | omega
    rw [e]
    exact ho.on (fun _ h => h.elim) hB hb⟩
  have i1 : (fs.length : Int) > 40 := by omega
  have HB : Hid (Below w.heap.size w ((w.alloc (.cells #[.int .i64 (fa.length : Int), .slice a1 l1 c1, .slice a2 l2 c2] 47)).alloc (.cells #[.int .i64 (ta.length : Int), .slice b1 m1 d1, .slice b2 m2 d2] 47))) := ((Below.refl _ _).alloc (Nat.le_refl _) _).alloc (by rw [World.size_alloc]; omega) _
  clear hxa hxb ho hf hf2 hB
  go_enter Tryz.func60, Tryz.ntmps60
  go_wp2
  go_ret
  exact HP.out _ HB.out
end Go.Proofs.YtgdflaapgfpdeaaGreatDoor

namespace Go.Proofs.YtgdflaapgfpdeaaGreatDoor
open Go.RowKit

/-- What rows lays first: both orders in boxes. -/
theorem rows_boxes {w : World} {fa ta : List Nat} {a1 a2 b1 b2 : Option Addr} {l1 c1 l2 c2 m1 d1 m2 d2 : Nat} : ∃ W X Y, W = (w.alloc (.cells #[.int .i64 (fa.length : Int), .slice a1 l1 c1, .slice a2 l2 c2] 47)).alloc (.cells #[.int .i64 (ta.length : Int), .slice b1 m1 d1, .slice b2 m2 d2] 47) ∧ X = w.heap.size ∧ Y = w.heap.size + 1 ∧ Below w.heap.size w W ∧ W.heap[X]? = some (.cells #[.int .i64 (fa.length : Int), .slice a1 l1 c1, .slice a2 l2 c2] 47 (0, 0)) ∧ W.heap[Y]? = some (.cells #[.int .i64 (ta.length : Int), .slice b1 m1 d1, .slice b2 m2 d2] 47 (0, 0)) :=
  ⟨_, _, _, rfl, rfl, rfl, ((Below.refl _ _).alloc (Nat.le_refl _) _).alloc (by rw [World.size_alloc]; omega) _, (Below.heap_alloc _ _ _ (by rw [World.size_alloc]; omega)).trans (new_blk _ _), al1 _ _ _⟩
theorem nwr_on {B : Nat} {v : Value} {w w' : World} (hs : w.heap.size ≤ w'.heap.size) : ∀ y, Nwr (fun _ => False) B w v y → Nwr (fun _ => False) B w' v y := fun _ hy => hy.imp id fun q => ⟨q.1, Nat.lt_of_lt_of_le q.2.1 hs, q.2.2⟩
theorem nwr_lt {B : Nat} {v : Value} {w : World} : ∀ y, Nwr (fun _ => False) B w v y → y < w.heap.size := fun y hy => by
  rcases hy with hy | hy
  · exact hy.elim
  · exact hy.2.1
set_option maxHeartbeats 16000000 in
set_option maxRecDepth 10000 in
theorem rows_leaf {fa ta : List Nat} (xa xb : Value) (rsa rsb : List (List Nat)) (B : Nat) (ar : Option Addr) (cr : Nat) (row : List Nat) (fv : Value) (fs : List (List Nat)) (w : World)
    (hxa : LatA w (fun y => y < B) xa fa rsa) (hxb : LatA w (fun y => y < B) xb ta rsb) (hB : B ≤ w.heap.size) (ho : OwnN ERs 25 B (fun _ => False) w fv fs) (hf : fs.length ≤ 40) (hr : Nts w (Nwr (fun _ => False) B w fv) (.slice ar row.length cr) row) (hl : row.length = fa.length) :
    Calls Tryz.prog 60 #[xa, xb, .slice ar row.length cr, fv] w fun r w' => Hid (RowsPost fa ta B 0 row fv fs w r w') := by
  obtain ⟨a1, l1, c1, a2, l2, c2, rfl⟩ := latA_box hxa
  obtain ⟨b1, m1, d1, b2, m2, d2, rfl⟩ := latA_box hxb
  obtain ⟨adf, cpf, rfl⟩ := ho.len
  obtain ⟨W, X, Y, hW, hX, hY, hBW, hXW, hYW⟩ := rows_boxes (w := w) (fa := fa) (ta := ta) (a1 := a1) (a2 := a2) (b1 := b1) (b2 := b2) (l1 := l1) (c1 := c1) (l2 := l2) (c2 := c2) (m1 := m1) (d1 := d1) (m2 := m2) (d2 := d2)
  have HO : Hid (OwnN ERs 25 B (fun _ => False) W (.slice adf fs.length cpf) fs) := ho.on (fun _ h => h.elim) hB hBW
  have HC : Hid (ERs.C W (Nwr (fun _ => False) B W (.slice adf fs.length cpf)) [.slice ar row.length cr] row) := ⟨ar, cr, rfl, hr.on (Keeps.of hBW nwr_lt) (nwr_on hBW.size)⟩
  have HBs : Hid (B ≤ W.heap.size) := Nat.le_trans hB hBW.size
  have HKW : Hid (Kf (.slice adf fs.length cpf) (.slice adf fs.length cpf) w W) := Kf.of hBW
  have HLN : Hid (fs.length + 1 ≤ 10000000) := by show _ ≤ _; omega
  have HE : Hid ((fs ++ allP fa ta 0 row).take 41 = fs ++ [row]) := by
    show List.take 41 (fs ++ [row]) = _
    exact List.take_of_length_le (by simp; omega)
  have e0 : W.cell? ⟨X, 0, none⟩ = some (.int .i64 (fa.length : Int)) := heap_cl hXW rfl
  have i1 : ¬ (fs.length : Int) > 40 := by omega
  have i2 : ((row.length : Int) == (fa.length : Int)) = true := by simp; omega
  have HXE : Hid (X = w.heap.size) := hX
  have HYE : Hid (Y = w.heap.size + 1) := hY
  clear hxa hxb ho hr hl hB hBW hXW hYW hX hY hf
  go_enter Tryz.func60, Tryz.ntmps60
  go_upto_region 1 with fail
  rw [← hW, ← HYE.out, ← HXE.out]
  clear hW
  go_wp2_with (at_builtin; refine wpList_append_K1 (E := ERs) (v := .slice adf fs.length cpf) (l := fs) (p := row) (cs := [.slice ar row.length cr]) (w2 := W) (cap := 1) Tryz.ty45 rfl _ _ rfl rfl HO.out HBs.out rfl HC.out (Nat.le_refl _) HLN.out ?_; intro v4 w4 O4 B4 F4 N4)
  have HP : Hid (RowsPost fa ta B 0 row (.slice adf fs.length cpf) fs w (.returned v4) w4) := ⟨v4, rfl, HKW.out.trans ⟨B4.os, B4.tape, B4.output, B4.size, F4.out, N4.out⟩, by rw [HE.out]; exact O4⟩
  clear O4 B4 F4 N4
  go_ret
  exact HP.out
end Go.Proofs.YtgdflaapgfpdeaaGreatDoor

namespace Go.Proofs.YtgdflaapgfpdeaaGreatDoor
open Go.RowKit

set_option maxHeartbeats 16000000 in
set_option maxRecDepth 10000 in
theorem rows_step {fa ta : List Nat} {k : Nat} (ih : RowsC fa ta k) (hla : Lat fa) (hlb : Lat ta) (xa xb : Value) (rsa rsb : List (List Nat)) (B : Nat) (ar : Option Addr) (cr : Nat) (row : List Nat) (fv : Value) (fs : List (List Nat)) (w : World)
    (hxa : LatA w (fun y => y < B) xa fa rsa) (hxb : LatA w (fun y => y < B) xb ta rsb) (hB : B ≤ w.heap.size) (ho : OwnN ERs 25 B (fun _ => False) w fv fs) (hf : fs.length ≤ 40) (hr : Nts w (Nwr (fun _ => False) B w fv) (.slice ar row.length cr) row) (hl : row.length + (k + 1) = fa.length) (hv : ∀ x ∈ row, x < ta.length) :
    Calls Tryz.prog 60 #[xa, xb, .slice ar row.length cr, fv] w fun r w' => Hid (RowsPost fa ta B (k + 1) row fv fs w r w') := by
  obtain ⟨ti, z, hi0, hz0, hk0, hby0, hzs0⟩ := Tryz.ty28.info
  have hfew := hla.few
  have hfewb := hlb.few
  have HXA : Hid (LatA w (fun y => y < B) xa fa rsa) := hxa
  have HXB : Hid (LatA w (fun y => y < B) xb ta rsb) := hxb
  obtain ⟨a1, l1, c1, a2, l2, c2, rfl⟩ := latA_box hxa
  obtain ⟨b1, m1, d1, b2, m2, d2, rfl⟩ := latA_box hxb
  obtain ⟨W, X, Y, hW, hX, hY, hBW, hXW, hYW⟩ := rows_boxes (w := w) (fa := fa) (ta := ta) (a1 := a1) (a2 := a2) (b1 := b1) (b2 := b2) (l1 := l1) (c1 := c1) (l2 := l2) (c2 := c2) (m1 := m1) (d1 := d1) (m2 := m2) (d2 := d2)
  have hXl : w.heap.size ≤ X ∧ w.heap.size ≤ Y := ⟨by omega, by omega⟩
  have hne : fv.ownBlock ≠ some X ∧ fv.ownBlock ≠ some Y := ⟨fun e => by have := (ho.lt X e).2; omega, fun e => by have := (ho.lt Y e).2; omega⟩
  -- what is known in every world on the way
  have HW2 : Hid (∀ (v2 : Value) (w2 : World), Kf fv v2 W w2 → LatA w2 (fun y => y < B) (.agg #[.int .i64 (fa.length : Int), .slice a1 l1 c1, .slice a2 l2 c2]) fa rsa ∧ LatA w2 (fun y => y < B) (.agg #[.int .i64 (ta.length : Int), .slice b1 m1 d1, .slice b2 m2 d2]) ta rsb ∧ w2.heap[X]? = some (.cells #[.int .i64 (fa.length : Int), .slice a1 l1 c1, .slice a2 l2 c2] 47 (0, 0)) ∧ w2.heap[Y]? = some (.cells #[.int .i64 (ta.length : Int), .slice b1 m1 d1, .slice b2 m2 d2] 47 (0, 0)) ∧ Nts w2 (Nwr (fun _ => False) B w2 v2) (.slice ar row.length cr) row ∧ B ≤ w2.heap.size) := fun v2 w2 hk => by
    have hkB : Keeps (fun y => y < B) w w2 := fun y hy => by
      have hy : y < B := hy
      rw [hk.block y (by have := hBW.size; omega) (fun e => by have := (ho.lt y e).1; omega), hBW.block y (by omega)]
    have hkN : Keeps (Nwr (fun _ => False) B w fv) w w2 := fun y hy => by
      rcases hy with hy | hy
      · exact hy.elim
      · rw [hk.block y (by have := hBW.size; omega) hy.2.2, hBW.block y hy.2.1]
    refine ⟨HXA.out.on hkB fun _ h => h, HXB.out.on hkB fun _ h => h, (hk.block X (lt_heap hXW) hne.1).trans hXW, (hk.block Y (lt_heap hYW) hne.2).trans hYW, hr.on hkN fun y hy => ?_, Nat.le_trans hB (Nat.le_trans hBW.size hk.size)⟩
    rcases hy with hy | hy
    · exact hy.elim
    · refine .inr ⟨hy.1, Nat.lt_of_lt_of_le hy.2.1 (Nat.le_trans hBW.size hk.size), fun e => ?_⟩
      rcases hk.new y e with e | e
      · exact hy.2.2 e
      · have := hy.2.1
        have := hBW.size
        omega
  have HO : Hid (OwnN ERs 25 B (fun _ => False) W fv fs) := ho.on (fun _ h => h.elim) hB hBW
  have HKW : Hid (Kf fv fv w W) := Kf.of hBW
  have HIH : Hid (RowsC fa ta k) := ih
  have HLA : Hid (Lat fa) := hla
  have HLB : Hid (Lat ta) := hlb
  have HV : Hid (∀ x ∈ row, x < ta.length) := hv
  have HL : Hid (row.length + (k + 1) = fa.length) := hl
  have HALL : Hid (allP fa ta (k + 1) row = partP fa ta k row ta.length) := rfl
  have HSUC : Hid (∀ i, partP fa ta k row (i + 1) = partP fa ta k row i ++ if (nextP fa ta row).testBit i then allP fa ta k (row ++ [i]) else []) := part_succ fa ta k row
  have HP0 : Hid ((fs ++ partP fa ta k row 0).take 41 = fs) := by
    show List.take 41 (fs ++ []) = fs
    rw [List.append_nil]
    exact List.take_of_length_le (by omega)
  have e0 : W.cell? ⟨X, 0, none⟩ = some (.int .i64 (fa.length : Int)) := heap_cl hXW rfl
  have i1 : ¬ (fs.length : Int) > 40 := by omega
  have i2 : ((row.length : Int) == (fa.length : Int)) = false := by simp; omega
  have hrl : row.length ≤ 40 := by omega
  have HXE : Hid (X = w.heap.size) := hX
  have HYE : Hid (Y = w.heap.size + 1) := hY
  obtain ⟨adf, cpf, hfv⟩ := ho.len
  have HFV : Hid (fv = .slice adf fs.length cpf) := hfv
  clear hxa hxb ho hr hl hB hBW hXW hYW hX hY hf hv hla hlb hXl hne ih HXA HXB
  subst hfv
  clear HFV
  go_enter Tryz.func60, Tryz.ntmps60
  go_upto_region 1 with fail
  rw [← hW, ← HYE.out, ← HXE.out]
  clear hW
  go_upto_region 6 with fail
  clear e0 i1 i2
  go_loopw [3, 9] (fun fv2 iv wr => ∃ i : Nat, i ≤ ta.length ∧ iv = .int .i64 i ∧ Hid (Kf (.slice adf fs.length cpf) fv2 W wr) ∧ Hid (OwnN ERs 25 B (fun _ => False) wr fv2 ((fs ++ partP fa ta k row i).take 41))) (fun _ iv _ => ta.length - (intOf iv).toNat)
  case atStart => exact ⟨0, by omega, by go_num, Kf.of (Below.refl _ _), by rw [HP0.out]; exact HO.out⟩
  case round =>
    clear HO
    obtain ⟨i, hi, rfl, HK, HO⟩ := hrel
    obtain ⟨adf2, cpf2, hfv2⟩ := HO.out.len
    obtain ⟨p1, p2, p3, p4, p5, p6⟩ := HW2.out _ wr HK.out
    have x0 : wr.cell? ⟨X, 0, none⟩ = some (.int .i64 (fa.length : Int)) := heap_cl p3 rfl
    have x1 : wr.cell? ⟨X, 1, none⟩ = some (.slice a1 l1 c1) := heap_cl p3 rfl
    have x2 : wr.cell? ⟨X, 2, none⟩ = some (.slice a2 l2 c2) := heap_cl p3 rfl
    have y0 : wr.cell? ⟨Y, 0, none⟩ = some (.int .i64 (ta.length : Int)) := heap_cl p4 rfl
    have y1 : wr.cell? ⟨Y, 1, none⟩ = some (.slice b1 m1 d1) := heap_cl p4 rfl
    have y2 : wr.cell? ⟨Y, 2, none⟩ = some (.slice b2 m2 d2) := heap_cl p4 rfl
    by_cases hil : i < ta.length
    · have hup : ∀ y, y < B → y < wr.heap.size := fun y hy => Nat.lt_of_lt_of_le hy p6
      have CF := fits_ref (p1.on (Keeps.refl _ _) hup) (p2.on (Keeps.refl _ _) hup) HLA.out HLB.out (p5.on (Keeps.refl _ _) nwr_lt) (by have := HL.out; omega) HV.out i hil
      have i1 : (0 : Int) ≤ (i : Int) := by omega
      have i2 : (i : Int) < (ta.length : Int) := by omega
      have HS2 := HSUC.out i
      cases hbit : (nextP fa ta row).testBit i with
      | false =>
        rw [hbit] at CF HS2
        replace HS2 : Hid (partP fa ta k row (i + 1) = partP fa ta k row i) := by
          rw [if_neg (by decide), List.append_nil] at HS2
          exact HS2
        clear hbit p1 p2 p3 p4 p5 hfv2
        go_wp2_with (first | (go_at_call 71; (with_reducible refine Calls.mono CF ?_); rintro e' w2 ⟨rfl, HB2⟩))
        have HK2 : Hid (Kf (.slice adf fs.length cpf) u3 W w2) := HK.out.trans (Kf.of HB2.out)
        have HO2 : Hid (OwnN ERs 25 B (fun _ => False) w2 u3 ((fs ++ partP fa ta k row i).take 41)) := HO.out.on (fun _ h => h.elim) p6 HB2.out
        go_roundw
        case rel => exact ⟨i + 1, hil, by go_num, HK2.out, by rw [HS2.out]; exact HO2.out⟩
        case measure => simp [intOf]; omega
      | true =>
        rw [hbit] at CF HS2
        replace HS2 : Hid (partP fa ta k row (i + 1) = partP fa ta k row i ++ allP fa ta k (row ++ [i])) := by
          rw [if_pos rfl] at HS2
          exact HS2
        clear hbit p1 p2 p3 p4 hfv2
        go_upto_region 10 with (first | (go_at_call 71; (with_reducible refine Calls.mono CF ?_); rintro e' w2 ⟨rfl, HB2⟩))
        have HK2 : Hid (Kf (.slice adf fs.length cpf) u3 W w2) := HK.out.trans (Kf.of HB2.out)
        have HO2 : Hid (OwnN ERs 25 B (fun _ => False) w2 u3 ((fs ++ partP fa ta k row i).take 41)) := HO.out.on (fun _ h => h.elim) p6 HB2.out
        have HR2 : Hid (Nts w2 (fun y => y < w2.heap.size) (.slice ar row.length cr) row) := p5.on (Keeps.of HB2.out nwr_lt) fun y hy => Nat.lt_of_lt_of_le (nwr_lt y hy) HB2.out.size
        have HRB : Hid (∀ w3 : World, Below w2.heap.size w2 w3 → RowE ENat w3 (fun y => y < w2.heap.size) (fun _ => False) (.slice ar row.length cr) row) := fun w3 h3 => (Nts.toE (HR2.out.on (Keeps.of h3 fun _ h => h) fun _ h => h))
        have HP6 : Hid (B ≤ wr.heap.size) := p6
        clear x0 x1 x2 y0 y1 y2 CF p5 p6 hup HK HO HB2
        go_upto_region 11 with (first
          | (at_make; refine wpList_make_own _ rfl _ _ 25 rfl w2.heap.size 3 ti z 1 Tryz.underlying25 hi0 hz0 hk0 .i64 .i64 _ (row.length + 1) rfl rfl (by simp) (by rw [hby0]; omega) (by unfold maxLen; omega) (Nat.le_refl _) ?_; intro w3 ho3 hg3; have HB3 : Hid (Below w2.heap.size w2 w3) := (Below.refl _ _).grown hg3 (Nat.le_refl _) (fun _ e => (by cases e)); have HO3 : Hid (Own ENat 3 w2.heap.size w3 (fun _ => False) (.slice (some ⟨w2.heap.size, 0, none⟩) 0 (row.length + 1)) []) := ⟨⟨[], Css.nil _ _ _, ho3⟩, fun _ h => h.elim⟩; have HRw : Hid (RowE ENat w3 (fun y => y < w2.heap.size) (fun _ => False) (.slice ar row.length cr) row) := HRB.out w3 HB3.out)
          | (at_builtin; refine wpList_append_E (E := ENat) Tryz.ty28 rfl _ _ rfl rfl HO3.out rfl HRw.out (by simp; omega) HB3.out.size (fun _ h => h.elim) ?_; intro v4 w4 O4 B4 _ _; have HO4 : Hid (OwnN ENat 3 w2.heap.size (fun _ => False) w4 v4 row) := Own.up O4 (fun _ h => h.elim) (fun y hy e => (by rcases hy with hy | hy; exact hy; exact hy.2.2 e)); have HB4 : Hid (Below w2.heap.size w2 w4) := HB3.out.trans B4)
          | (at_builtin; refine wpList_append_N1 (E := ENat) (cs := [.int .i64 (i : Int)]) (p := i) Tryz.ty28 rfl _ _ rfl rfl HO4.out (fun _ h => h.elim) HB4.out.size (Below.refl _ _) rfl rfl (Nat.le_refl _) (by omega) ?_; intro v5 w5 O5 B5 _; have HB5 : Hid (Below w2.heap.size w2 w5) := HB4.out.trans B5; have HO5 : Hid (OwnN ENat 3 w2.heap.size (fun _ => False) w5 v5 (row ++ [i])) := O5))
        have hb2 := (HW2.out _ w2 HK2.out).2.2.2.2.2
        have HK5 : Hid (Kf (.slice adf fs.length cpf) u3 W w5) := HK2.out.trans (Kf.of HB5.out)
        have HF5 : Hid (OwnN ERs 25 B (fun _ => False) w5 u3 ((fs ++ partP fa ta k row i).take 41)) := HO2.out.on (fun _ h => h.elim) hb2 HB5.out
        obtain ⟨p1, p2, p3, p4, -, p6⟩ := HW2.out _ w5 HK5.out
        have x0 : w5.cell? ⟨X, 0, none⟩ = some (.int .i64 (fa.length : Int)) := heap_cl p3 rfl
        have x1 : w5.cell? ⟨X, 1, none⟩ = some (.slice a1 l1 c1) := heap_cl p3 rfl
        have x2 : w5.cell? ⟨X, 2, none⟩ = some (.slice a2 l2 c2) := heap_cl p3 rfl
        have y0 : w5.cell? ⟨Y, 0, none⟩ = some (.int .i64 (ta.length : Int)) := heap_cl p4 rfl
        have y1 : w5.cell? ⟨Y, 1, none⟩ = some (.slice b1 m1 d1) := heap_cl p4 rfl
        have y2 : w5.cell? ⟨Y, 2, none⟩ = some (.slice b2 m2 d2) := heap_cl p4 rfl
        obtain ⟨ad5, cap5, rfl⟩ := HO5.out.len
        have hnt : Nts w5 (Nwr (fun _ => False) B w5 u3) (.slice ad5 (row ++ [i]).length cap5) (row ++ [i]) := (RowE.toNts (OwnN.rowE HO5.out)).on (Keeps.refl _ _) fun y hy => .inr ⟨Nat.le_trans hb2 hy.1, hy.2, fun e => by have := (HO2.out.lt y e).2; have := hy.1; omega⟩
        have CI := HIH.out _ _ rsa rsb B ad5 cap5 (row ++ [i]) u3 _ w5 p1 p2 p6 HF5.out (by rw [List.length_take]; omega) hnt (by have := HL.out; simp; omega) (fun x hx => by
          rcases List.mem_append.1 hx with hx | hx
          · exact HV.out x hx
          · rw [List.mem_singleton.1 hx]; exact hil)
        have HTK : Hid (((fs ++ partP fa ta k row i).take 41 ++ allP fa ta k (row ++ [i])).take 41 = (fs ++ partP fa ta k row (i + 1)).take 41) := by
          show _ = _
          rw [take_app, List.append_assoc, HS2.out]
        rw [show (row ++ [i]).length = row.length + 1 by simp] at CI ⊢
        clear p1 p2 p3 p4 p6 hnt hb2 HO5 HB5 O5 B5 HO4 HB4 O4 B4 HO3 HB3 HRw ho3 hg3 HR2 HRB HO2 HK2
        go_wp2_with (first | (go_at_call 60; (with_reducible refine Calls.mono CI ?_); rintro e' w6 ⟨fv6, rfl, hk6, ho6⟩))
        have HK6 : Hid (Kf (.slice adf fs.length cpf) fv6 W w6) := HK5.out.trans hk6
        have HO6 : Hid (OwnN ERs 25 B (fun _ => False) w6 fv6 ((fs ++ partP fa ta k row (i + 1)).take 41)) := by
          have h := ho6
          rw [HTK.out] at h
          exact h
        clear hk6 ho6 CI
        go_roundw
        case rel => exact ⟨i + 1, hil, by go_num, HK6.out, HO6.out⟩
        case measure => simp [intOf]; omega
    · obtain rfl : i = ta.length := by omega
      subst hfv2
      have HP : Hid (RowsPost fa ta B (k + 1) row (.slice adf fs.length cpf) fs w (.returned (.slice adf2 ((fs ++ partP fa ta k row ta.length).take 41).length cpf2)) wr) := ⟨_, rfl, HKW.out.trans HK.out, by rw [HALL.out]; exact HO.out⟩
      clear HO HK p1 p2 p3 p4 p5
      generalize ((fs ++ partP fa ta k row ta.length).take 41).length = nl at *
      go_wp2
      go_ret
      exact HP.out
theorem rows_any {fa ta : List Nat} (hla : Lat fa) (hlb : Lat ta) : ∀ k, RowsC fa ta k
  | 0 => fun xa xb rsa rsb B ar cr row fv fs w hxa hxb hB ho hf hr hl _ => by
    by_cases h : 40 < fs.length
    · exact rows_full xa xb rsa rsb B ar cr row fv fs w hxa hxb hB ho h hf
    · exact rows_leaf xa xb rsa rsb B ar cr row fv fs w hxa hxb hB ho (by omega) hr (by omega)
  | k + 1 => fun xa xb rsa rsb B ar cr row fv fs w hxa hxb hB ho hf hr hl hv => by
    by_cases h : 40 < fs.length
    · exact rows_full xa xb rsa rsb B ar cr row fv fs w hxa hxb hB ho h hf
    · exact rows_step (rows_any hla hlb k) hla hlb xa xb rsa rsb B ar cr row fv fs w hxa hxb hB ho (by omega) hr hl hv
end Go.Proofs.YtgdflaapgfpdeaaGreatDoor

namespace Go.Proofs.YtgdflaapgfpdeaaGreatDoor
open Go.RowKit

theorem Tryz.ty44 (n : Nat) : Ty 44 68 (EBl n).k 24 := by
  obtain ⟨i, hi, h0, h1, h2⟩ := info_parts (show (Tryz.prog.info? 68).map (fun i => (i.zero, i.size, i.bytes)) = some (some (.slice none 0 0), 1, 24) by kernel_rfl)
  exact ⟨Tryz.underlying44, ⟨i, _, hi, h0, h1, h2, rfl⟩, show 0 < 1 by decide, by decide⟩
theorem Tryz.info4 : (Tryz.prog.info? 4).map (fun i => (i.zero, i.size, i.bytes)) = some (some (.bool false), 1, 1) := by kernel_rfl
/-- A row of truths that is being written. -/
def Wb (w : World) (g n : Nat) (f : Nat → Bool) : Prop := ∃ arr : Array Value, w.heap[g]? = some (.cells arr 4 (0, 0)) ∧ arr.size = n ∧ ∀ j, j < n → arr[j]? = some (.bool (f j))
theorem Wb.set {w : World} {g n b : Nat} {f : Nat → Bool} {v : Bool} (h : Wb w g n f) : Wb (w.setCell ⟨g, b, none⟩ (.bool v)) g n (fun j => if j = b then v else f j) := by
  obtain ⟨arr, h1, h2, h3⟩ := h
  refine ⟨_, setCell_block h1, by rw [Array.size_setIfInBounds]; exact h2, fun j hj => ?_⟩
  rw [Array.getElem?_setIfInBounds]
  show _ = some (Value.bool (if j = b then v else f j))
  by_cases e : b = j
  · subst e
    rw [if_pos rfl, if_pos (by omega), if_pos rfl]
  · rw [if_neg e, if_neg (fun q => e q.symm)]
    exact h3 j hj
theorem Wb.made {w : World} {base g n : Nat} {z : Value} (hz : z = .bool false) (h : w.ownsRow base 4 1 (.slice (some ⟨g, 0, none⟩) n n) n (madeCells z.cells (n * 1)).toList) : Wb w g n (fun _ => false) := by
  rcases h.2 with ⟨q, _⟩ | ⟨g', cap', cur, q, _, h2, _, _, h5, h6⟩
  · simp at q
  · simp only [Value.slice.injEq, Option.some.injEq, Addr.mk.injEq, and_true, true_and] at q
    obtain ⟨rfl, rfl⟩ := q
    refine ⟨cur, h2, by omega, fun j hj => ?_⟩
    have h7 := h.cellAt j (by omega)
    have h8 : w.cell? ⟨g, j, none⟩ = cur[j]? := by
      unfold World.cell?
      rw [h2]
      rfl
    rw [h8] at h7
    rw [h7, hz]
    simp [madeCells, Value.cells, hj]
    rw [Nat.mod_one]
    rfl
theorem Wb.bts {w : World} {g n x : Nat} {S : Nat → Prop} {f : Nat → Bool} (h : Wb w g n f) (hS : S g) (hf : ∀ j, j < n → f j = x.testBit j) : Bts w S (.slice (some ⟨g, 0, none⟩) n n) n x := by
  obtain ⟨arr, h1, _, h3⟩ := h
  refine ⟨g, 0, n, rfl, Nat.le_refl _, hS, fun j hj => ?_⟩
  rw [Nat.zero_add, ← hf j hj]
  exact heap_cl h1 (h3 j hj)
theorem Wb.on {w w' : World} {g n : Nat} {f : Nat → Bool} (h : Wb w g n f) (hg : w'.heap[g]? = w.heap[g]?) : Wb w' g n f := by
  obtain ⟨arr, h1, h2⟩ := h
  exact ⟨arr, hg.trans h1, h2⟩
end Go.Proofs.YtgdflaapgfpdeaaGreatDoor

namespace Go.Proofs.YtgdflaapgfpdeaaGreatDoor
open Go.RowKit
theorem Wb.more {w : World} {g n i b : Nat} (h : Wb w g n (fun j => decide (i ≤ j ∧ j < b))) (hb : i ≤ b) : Wb (w.setCell ⟨g, b, none⟩ (.bool true)) g n (fun j => decide (i ≤ j ∧ j < b + 1)) := by
  obtain ⟨arr, h1, h2, h3⟩ := h.set (b := b) (v := true)
  refine ⟨arr, h1, h2, fun j hj => (h3 j hj).trans ?_⟩
  congr 2
  by_cases e : j = b
  · subst e
    simp [hb]
  · simp only [e, if_false]
    congr 1
    apply propext
    omega
theorem chain_bitr (n i : Nat) (hn : n = 2 ∨ n = 4) (hi : i < n) (j : Nat) (hj : j < n) : decide (i ≤ j ∧ j < n) = (2 ^ n - 2 ^ i).testBit j := by
  revert j i
  rcases hn with rfl | rfl <;> decide
theorem chain_next (n i : Nat) (hi : i < n) : (chainP n).take i ++ [2 ^ n - 2 ^ i] = (chainP n).take (i + 1) := by
  have h := chain_len n
  rw [List.take_succ_eq_append_getElem (by omega)]
  congr 2
  simp [chainP]
theorem own_put {α : Type} {E : Elt α} {e B P j : Nat} {u v' : Value} {m : List α} {w' : World} (hP : P < B) (O : OwnN E e B (fun _ => False) w' v' m) : OwnN E e B (fun _ => False) (w'.setCell ⟨P, j, none⟩ u) v' m := by
  have hs : (w'.setCell ⟨P, j, none⟩ u).heap.size = w'.heap.size := World.size_setCell _ _ _
  have hne : ∀ y, B ≤ y → (w'.setCell ⟨P, j, none⟩ u).heap[y]? = w'.heap[y]? := fun y hy => Below.heap_setCell _ _ _ _ (by show y ≠ P; omega)
  have O2 : Own E e B (w'.setCell ⟨P, j, none⟩ u) (Nwr (fun _ => False) B w' v') v' m := Own.on O (fun y hy => by
    rcases hy with hy | hy
    · exact hy.elim
    · exact hne y hy.1) fun g e => hne g (O.lt g e).1
  refine Own.up O2 (fun y hy => hy.imp id fun h => ⟨h.1, by rw [hs]; exact h.2.1, h.2.2⟩) fun y hy e => ?_
  rcases hy with hy | hy
  · exact hy.elim
  · exact hy.2.2 e
theorem Wb.start {w : World} {g n i : Nat} (h : Wb w g n (fun _ => false)) : Wb w g n (fun j => decide (i ≤ j ∧ j < i)) := by
  obtain ⟨arr, h1, h2, h3⟩ := h
  refine ⟨arr, h1, h2, fun j hj => (h3 j hj).trans ?_⟩
  have e : decide (i ≤ j ∧ j < i) = false := by
    simp
  show _ = some (Value.bool (decide (i ≤ j ∧ j < i)))
  rw [e]
theorem Wb.at {w : World} {g n : Nat} {f : Nat → Bool} (h : Wb w g n f) (b : Nat) (hb : b < n) : w.cell? ⟨g, b, none⟩ = some (.bool (f b)) ∧ w.frozen? ⟨g, b, none⟩ = false := by
  obtain ⟨arr, h1, h2, h3⟩ := h
  exact ⟨heap_cl h1 (h3 b hb), heap_frozen h1⟩
theorem Wb.lt {w : World} {g n : Nat} {f : Nat → Bool} (h : Wb w g n f) : g < w.heap.size := by
  obtain ⟨arr, h1, _⟩ := h
  exact lt_heap h1
set_option maxHeartbeats 8000000 in
set_option maxRecDepth 10000 in
theorem chain_ref {w : World} (n : Nat) (hn : n = 2 ∨ n = 4) :
    Calls Tryz.prog 49 #[.int .i64 n] w fun r w' => Hid (Below w.heap.size w w') ∧ ∃ x, r = .returned x ∧ LatA w' (fun y => w.heap.size ≤ y ∧ y < w'.heap.size) x (chainP n) [] := by
  have hn4 : n ≤ 4 := by omega
  have HN : Hid (n = 2 ∨ n = 4) := hn
  have HLEN : Hid ((chainP n).length = n) := chain_len n
  clear hn
  obtain ⟨X, hX⟩ : ∃ X, X = w.heap.size := ⟨_, rfl⟩
  obtain ⟨W, hW⟩ : ∃ W, W = (w.alloc (.cells #[.int .i64 0, .slice none 0 0, .slice none 0 0] 47)).alloc (.cells #[.int .i64 n, .slice none 0 0, .slice none 0 0] 47) := ⟨_, rfl⟩
  have HBW : Hid (Below X w W) := by
    show Below _ _ _
    rw [hW, hX]
    exact ((Below.refl _ _).alloc (Nat.le_refl _) _).alloc (by rw [World.size_alloc]; omega) _
  have HXW : Hid (W.heap[X]? = some (.cells #[.int .i64 0, .slice none 0 0, .slice none 0 0] 47 (0, 0))) := by
    show _ = _
    rw [hW, hX]
    exact (Below.heap_alloc _ _ _ (by rw [World.size_alloc]; omega)).trans (new_blk _ _)
  have HYW : Hid (W.heap[X + 1]? = some (.cells #[.int .i64 n, .slice none 0 0, .slice none 0 0] 47 (0, 0))) := by
    show _ = _
    rw [hW, hX]
    exact al1 _ _ _
  rw [← hX]
  replace hX : Hid (X = w.heap.size) := hX
  obtain ⟨ti, hi0, hz0, hk0, hby0⟩ := info_parts Tryz.info4
  go_enter Tryz.func49, Tryz.ntmps49
  go_upto_region 2 with fail
  rw [← hW, ← hX.out]
  clear hW hX
  go_upto_region 3 with fail
  go_loopw [4] (fun iv wr => ∃ (i : Nat) (v : Value), i ≤ n ∧ iv = .int .i64 i ∧ Hid (Below X w wr) ∧ Hid (wr.heap[X]? = some (.cells #[.int .i64 0, .slice none 0 0, .slice none 0 0] 47 (0, 0))) ∧ Hid (wr.heap[X + 1]? = some (.cells #[.int .i64 n, v, .slice none 0 0] 47 (0, 0))) ∧ Hid (OwnN (EBl n) 68 (X + 2) (fun _ => False) wr v ((chainP n).take i))) (fun iv _ => n - (intOf iv).toNat)
  case atStart => exact ⟨0, _, by omega, by go_num, HBW.out, HXW.out, HYW.out, by rw [List.take_zero]; exact OwnN.nil _ _ _ _ _⟩
  case round =>
    clear HBW HXW HYW
    obtain ⟨i, v, hi, rfl, HB, HX, HY, HO⟩ := hrel
    by_cases hil : i < n
    · have i1 : (0 : Int) ≤ (i : Int) := by omega
      have i2 : (i : Int) < (n : Int) := by omega
      go_upto_region 5 with fail
      go_wp2_with (at_make; refine wpList_make_full _ rfl _ _ 68 rfl _ 4 ti _ 1 Tryz.underlying68 hi0 hz0 hk0 .i64 .i64 _ _ n rfl rfl rfl rfl (by rw [hby0]; omega) (by unfold maxLen; omega) (Nat.le_refl _) ?_; intro w2 ho2 hg2)
      have HB2 : Hid (Below wr.heap.size wr w2) := (Below.refl _ _).grown hg2 (Nat.le_refl _) (fun _ e => (by cases e))
      have HW2 : Hid (Wb w2 wr.heap.size n (fun j => decide (i ≤ j ∧ j < i))) := (Wb.made rfl ho2).start
      clear ho2 hg2
      obtain ⟨wo, hwo⟩ : ∃ wo, wo = wr := ⟨_, rfl⟩
      subst hwo
      obtain ⟨G, hG⟩ : ∃ G, G = wo.heap.size := ⟨_, rfl⟩
      rw [← hG] at HB2 HW2 ⊢
      replace hG : Hid (G = wo.heap.size) := hG
      go_loopw [6] (fun bv wi => ∃ b : Nat, i ≤ b ∧ b ≤ n ∧ bv = .int .i64 b ∧ Hid (Below G wo wi) ∧ Hid (Wb wi G n (fun j => decide (i ≤ j ∧ j < b)))) (fun bv _ => n - (intOf bv).toNat)
      case atStart => exact ⟨i, Nat.le_refl _, hi, by go_num, HB2.out, HW2.out⟩
      case round =>
        clear HB2 HW2
        obtain ⟨b, hb1, hb2, rfl, HB2, HW2⟩ := hrel
        by_cases hbl : b < n
        · have i3 : (0 : Int) ≤ (b : Int) := by omega
          have i4 : (b : Int) < (n : Int) := by omega
          obtain ⟨y1, y2⟩ := HW2.out.at b hbl
          go_upto_region 8 with fail
          replace HB2 : Hid (Below G wo (wr.setCell ⟨G, b, none⟩ (.bool true))) := HB2.out.setCell (show G ≤ (⟨G, b, none⟩ : Addr).block from Nat.le_refl _) _
          replace HW2 : Hid (Wb (wr.setCell ⟨G, b, none⟩ (.bool true)) G n (fun j => decide (i ≤ j ∧ j < b + 1))) := HW2.out.more hb1
          clear y1 y2
          generalize wr.setCell ⟨G, b, none⟩ (.bool true) = w3 at *
          go_wp2
          go_roundw
          case rel => exact ⟨b + 1, Nat.le_succ_of_le hb1, hbl, by go_num, HB2.out, HW2.out⟩
          case measure => simp [intOf]; omega
        · obtain rfl : n = b := by omega
          have hXY : X + 1 < G := by
            have := lt_heap HY.out
            have := hG.out
            omega
          have HXr : Hid (wr.heap[X]? = some (.cells #[.int .i64 0, .slice none 0 0, .slice none 0 0] 47 (0, 0))) := (HB2.out.block X (by omega)).trans HX.out
          have HYr : Hid (wr.heap[X + 1]? = some (.cells #[.int .i64 n, v, .slice none 0 0] 47 (0, 0))) := (HB2.out.block (X + 1) (by omega)).trans HY.out
          have y1 : wr.cell? ⟨X + 1, 1, none⟩ = some v := heap_cl HYr.out rfl
          have HC : Hid ((EBl n).C wr (Nwr (fun _ => False) (X + 2) wr v) [.slice (some ⟨G, 0, none⟩) n n] (2 ^ n - 2 ^ i)) := ⟨_, _, rfl, HW2.out.bts (.inr ⟨by omega, HW2.out.lt, fun e => by have := (HO.out.lt G e).2; have := hG.out; omega⟩) (fun j hj => chain_bitr n i HN.out hil j hj)⟩
          have HBO : Hid (X + 2 ≤ wo.heap.size) := by
            show _ ≤ _
            have := hG.out
            omega
          have HL1 : Hid (((chainP n).take (i + 1)).length = i + 1) := by
            show _ = _
            have := HLEN.out
            rw [List.length_take]
            omega
          have HBG : Hid (Below wo.heap.size wo wr) := by
            show Below _ _ _
            rw [← hG.out]
            exact HB2.out
          have HLN : Hid (((chainP n).take i).length + 1 ≤ 10000000) := by
            show _ ≤ _
            rw [List.length_take]
            omega
          go_upto_region 10 with fail
          go_wp2_with (at_builtin; refine wpList_append_N1 (E := EBl n) (w1 := wo) (w2 := wr) (cs := [.slice (some ⟨G, 0, none⟩) n n]) (p := 2 ^ n - 2 ^ i) (cap := 1) (Tryz.ty44 n) rfl _ _ rfl rfl HO.out (fun _ h => h.elim) HBO.out HBG.out rfl HC.out (Nat.le_refl _) HLN.out ?_; intro v4 w4 O4 B4 N4; rw [chain_next n i hil] at O4; obtain ⟨a4, c4, rfl⟩ := O4.len; rw [HL1.out] at O4 ⊢; have HX4 : Hid (w4.heap[X]? = some (.cells #[.int .i64 0, .slice none 0 0, .slice none 0 0] 47 (0, 0))) := (B4.block X (by omega)).trans HX.out; have HY4 : Hid (w4.heap[X + 1]? = some (.cells #[.int .i64 n, v, .slice none 0 0] 47 (0, 0))) := (B4.block (X + 1) (by omega)).trans HY.out; replace O4 : Hid _ := O4; replace B4 : Hid _ := B4; have y3 : w4.cell? ⟨X + 1, 1, none⟩ = some v := heap_cl HY4.out rfl; have y4 : w4.frozen? ⟨X + 1, 1, none⟩ = false := heap_frozen HY4.out)
          refine ⟨⟨i + 1, .slice a4 (i + 1) c4, hil, by go_num, (HB.out.trans (B4.out.mono (by omega))).setCell (show X ≤ X + 1 by omega) _, (Below.heap_setCell _ _ _ _ (by show X ≠ X + 1; omega)).trans HX4.out, setCell_block HY4.out, own_put (by omega) O4.out⟩, by simp [intOf]; omega⟩
    · obtain rfl : n = i := by omega
      replace HO : Hid (OwnN (EBl n) 68 (X + 2) (fun _ => False) wr v (chainP n)) := by
        have h := HO.out
        rwa [List.take_of_length_le (by rw [HLEN.out]; exact Nat.le_refl _)] at h
      obtain ⟨av, cv, rfl⟩ := HO.out.len
      rw [HLEN.out] at HO HY
      have y1 : wr.cell? ⟨X + 1, 0, none⟩ = some (.int .i64 n) := heap_cl HY.out rfl
      have y2 : wr.cell? ⟨X + 1, 1, none⟩ = some (.slice av n cv) := heap_cl HY.out rfl
      have y3 : wr.cell? ⟨X + 1, 2, none⟩ = some (.slice none 0 0) := heap_cl HY.out rfl
      have x1 : wr.cell? ⟨X, 0, none⟩ = some (.int .i64 0) := heap_cl HX.out rfl
      have x2 : wr.cell? ⟨X, 1, none⟩ = some (.slice none 0 0) := heap_cl HX.out rfl
      have x3 : wr.cell? ⟨X, 2, none⟩ = some (.slice none 0 0) := heap_cl HX.out rfl
      have z1 : wr.frozen? ⟨X, 0, none⟩ = false := heap_frozen HX.out
      have z2 : wr.frozen? ⟨X, 1, none⟩ = false := heap_frozen HX.out
      have z3 : wr.frozen? ⟨X, 2, none⟩ = false := heap_frozen HX.out
      go_upto_region 11 with fail
      go_wp2
      have HX5 : Hid ((((wr.setCell ⟨X, 0, none⟩ (.int .i64 n)).setCell ⟨X, 1, none⟩ (.slice av n cv)).setCell ⟨X, 2, none⟩ (.slice none 0 0)).heap[X]? = some (.cells #[.int .i64 n, .slice av n cv, .slice none 0 0] 47 (0, 0))) := setCell_block (setCell_block (setCell_block HX.out))
      replace HO : Hid (OwnN (EBl n) 68 (X + 2) (fun _ => False) (((wr.setCell ⟨X, 0, none⟩ (.int .i64 n)).setCell ⟨X, 1, none⟩ (.slice av n cv)).setCell ⟨X, 2, none⟩ (.slice none 0 0)) (.slice av n cv) (chainP n)) := own_put (by omega) (own_put (by omega) (own_put (by omega) HO.out))
      replace HB : Hid (Below X w (((wr.setCell ⟨X, 0, none⟩ (.int .i64 n)).setCell ⟨X, 1, none⟩ (.slice av n cv)).setCell ⟨X, 2, none⟩ (.slice none 0 0))) := ((HB.out.setCell (show X ≤ X from Nat.le_refl _) _).setCell (show X ≤ X from Nat.le_refl _) _).setCell (show X ≤ X from Nat.le_refl _) _
      clear x1 x2 x3 y1 y2 y3 z1 z2 z3 HX HY
      generalize ((wr.setCell ⟨X, 0, none⟩ (.int .i64 n)).setCell ⟨X, 1, none⟩ (.slice av n cv)).setCell ⟨X, 2, none⟩ (.slice none 0 0) = w5 at *
      have x1 : w5.cell? ⟨X, 0, none⟩ = some (.int .i64 n) := heap_cl HX5.out rfl
      have x2 : w5.cell? ⟨X, 1, none⟩ = some (.slice av n cv) := heap_cl HX5.out rfl
      have x3 : w5.cell? ⟨X, 2, none⟩ = some (.slice none 0 0) := heap_cl HX5.out rfl
      refine bodyPost_ret (v := .agg #[.int .i64 n, .slice av n cv, .slice none 0 0]) (by simp [results, Tryz.results49, go_sem, x1, x2, x3]) rfl ?_
      refine ⟨HB.out, _, rfl, _, _, by rw [HLEN.out], ?_, .inl ⟨rfl, none, 0, rfl⟩, ?_⟩
      · rw [HLEN.out]
        exact HO.out.rowE.on (fun _ _ => rfl) (fun _ _ => rfl) (fun _ h => ⟨Nat.le_trans (Nat.le_add_right _ _) h.1, h.2⟩) (fun _ h => h.elim (fun q => q.elim) fun q => ⟨Nat.le_trans (Nat.le_add_right _ _) q.1, q.2⟩)
      · intro e
        have h := HLEN.out
        rw [e] at h
        rcases HN.out with q | q <;> simp [q] at h
end Go.Proofs.YtgdflaapgfpdeaaGreatDoor

namespace Go.Proofs.YtgdflaapgfpdeaaGreatDoor
open Go.RowKit
set_option maxHeartbeats 8000000 in
theorem within_any {w : World} (n : Int) (s : Nat) (hs : 1 ≤ s) (hs2 : s ≤ 1000) : ∃ r : Nat, r < s ∧ Calls Tryz.prog 17 #[.int .i64 n, .int .i64 s] w fun r' w' => r' = .returned (.int .i64 r) ∧ w' = w := by
  obtain ⟨m, hm, hm2⟩ : ∃ m : Nat, bits BinOp.and IntKind.i64 n 1099511627775 = (m : Int) ∧ m ≤ 1099511627775 := by
    have h1 : (BitVec.ofInt IntKind.i64.bits n &&& BitVec.ofInt IntKind.i64.bits 1099511627775).toNat ≤ 1099511627775 := by
      rw [BitVec.toNat_and]
      have h2 : (BitVec.ofInt IntKind.i64.bits 1099511627775).toNat = 1099511627775 := by decide
      rw [h2]
      exact Nat.and_le_right
    refine ⟨_, ?_, h1⟩
    show IntKind.i64.wrap _ = _
    generalize (BitVec.ofInt IntKind.i64.bits n &&& BitVec.ofInt IntKind.i64.bits 1099511627775).toNat = k at *
    rw [IntKind.wrap_i64]
    omega
  refine ⟨m % s, Nat.mod_lt _ (by omega), ?_⟩
  have e0 : ¬ (s : Int) = 0 := by omega
  go_enter Tryz.func17, Tryz.ntmps17
  go_upto_region 1 with fail
  go_wp2
  go_ret
  exact ⟨rfl, rfl⟩
end Go.Proofs.YtgdflaapgfpdeaaGreatDoor

namespace Go.Proofs.YtgdflaapgfpdeaaGreatDoor
open Go.RowKit

/-- The results of functions' elements. -/
def rsD (D : OrdD) : List (List Nat) := match D.2 with
  | some p => resP p.1 p.2
  | none => []
def LtP (w w' : World) (x : Value) (ok : Bool) (od : Option OrdD) : Prop := (ok = true → ∃ D, od = some D ∧ LatA w' (fun y => w.heap.size ≤ y ∧ y < w'.heap.size) x D.1 (rsD D) ∧ Lat D.1) ∧ (ok = false → od = none)
/-- A lattice and whether there is one. -/
def OpPost (od : Option OrdD) (w : World) (r : Ending) (w' : World) : Prop := ∃ (n : Int) (a1 : Option Addr) (l1 c1 : Nat) (a2 : Option Addr) (l2 c2 : Nat) (ok : Bool), r = .returned (.tuple #[.agg #[.int .i64 n, .slice a1 l1 c1, .slice a2 l2 c2], .bool ok]) ∧ Hid (Below w.heap.size w w') ∧ Hid (LtP w w' (.agg #[.int .i64 n, .slice a1 l1 c1, .slice a2 l2 c2]) ok od)
theorem great_full {fa ta : List Nat} (ht : Lat ta) {i k : Nat} (hi : i < (resP fa ta).length) (hk : k < (resP fa ta).length) : underP ta ((resP fa ta).getD i []) ((resP fa ta).getD k []) = (greatQ ta (resP fa ta) i (resP fa ta).length).testBit k := by
  have h1 : Le (fnsP ta (resP fa ta)) i k ↔ underP ta ((resP fa ta).getD i []) ((resP fa ta).getD k []) = true := by
    rw [fns_le ht, under_iff]
    have h2 := ((res_mem fa ta _).1 (res_in hi)).1
    have h3 := ((res_mem fa ta _).1 (res_in hk)).1
    rw [h2, h3]
    exact ⟨fun h => ⟨rfl, h.2.2⟩, fun h => ⟨hi, hk, h.2⟩⟩
  unfold Le at h1
  rw [fns_get _ _ hi] at h1
  exact (Bool.eq_iff_iff.2 h1).symm
theorem Wb.step {w : World} {g n b : Nat} {u : Nat → Bool} {v : Bool} (h : Wb w g n (fun j => decide (j < b) && u j)) (hv : v = u b) : Wb (w.setCell ⟨g, b, none⟩ (.bool v)) g n (fun j => decide (j < b + 1) && u j) := by
  obtain ⟨arr, h1, h2, h3⟩ := h.set (b := b) (v := v)
  refine ⟨arr, h1, h2, fun j hj => (h3 j hj).trans ?_⟩
  congr 2
  by_cases e : j = b
  · subst e
    simp [hv]
  · simp only [e, if_false]
    rw [show decide (j < b) = decide (j < b + 1) from decide_eq_decide.2 (by omega)]
theorem Wb.zero {w : World} {g n : Nat} {u : Nat → Bool} (h : Wb w g n (fun _ => false)) : Wb w g n (fun j => decide (j < 0) && u j) := by
  obtain ⟨arr, h1, h2, h3⟩ := h
  refine ⟨arr, h1, h2, fun j hj => (h3 j hj).trans ?_⟩
  simp
/-- rows, asked of a beginning that is nothing. -/
theorem rows_all {w : World} {xa xb : Value} {fa ta : List Nat} {rsa rsb : List (List Nat)} (hxa : LatA w (fun y => y < w.heap.size) xa fa rsa) (hxb : LatA w (fun y => y < w.heap.size) xb ta rsb) (hla : Lat fa) (hlb : Lat ta) (rs : List (List Nat)) (hrs : rs = (resP fa ta).take 41) :
    Calls Tryz.prog 60 #[xa, xb, .slice none 0 0, .slice none 0 0] w fun r w' => ∃ af cf, r = .returned (.slice af rs.length cf) ∧ Hid (Below w.heap.size w w') ∧ Hid (RowE ERs w' (fun y => w.heap.size ≤ y ∧ y < w'.heap.size) (fun y => w.heap.size ≤ y ∧ y < w'.heap.size) (.slice af rs.length cf) rs) := by
  have h := rows_any hla hlb fa.length xa xb rsa rsb w.heap.size none 0 [] (.slice none 0 0) [] w hxa hxb (Nat.le_refl _) (OwnN.nil _ _ _ _ _) (by simp) (.inl ⟨rfl, none, 0, rfl⟩) (by simp) (fun x hx => by simp at hx)
  refine Calls.mono h fun r w' q => ?_
  obtain ⟨fv', h1, h2, h3⟩ := q.out
  rw [List.nil_append, ← show resP fa ta = allP fa ta fa.length [] from rfl, ← hrs] at h3
  obtain ⟨ad, cap, h4⟩ := h3.len
  subst h4
  refine ⟨ad, cap, h1, ⟨h2.os, h2.tape, h2.output, h2.size, fun y hy => h2.block y hy (by simp [Value.ownBlock])⟩, h3.rowE.on (Keeps.refl _ _) (Keeps.refl _ _) (fun y hy => hy) fun y hy => hy.elim (fun q => q.elim) id⟩
/-- One list of a row of lists. -/
theorem row_nts {w : World} {S : Nat → Prop} {af : Option Addr} {n cf : Nat} {rs : List (List Nat)} (h : RowE ERs w S S (.slice af n cf) rs) (i : Nat) (hi : i < rs.length) : ∃ g o, af = some ⟨g, o, none⟩ ∧ S g ∧ rs.length ≤ cf ∧ ∃ ai ci, w.cell? ⟨g, o + i, none⟩ = some (.slice ai (rs.getD i []).length ci) ∧ Nts w S (.slice ai (rs.getD i []).length ci) (rs.getD i []) := by
  rcases h with ⟨h, _⟩ | ⟨g, o, cap, h1, h2, h3, h4⟩
  · rw [h] at hi
    simp at hi
  · obtain ⟨rfl, rfl, rfl⟩ := Value.slice.inj h1
    obtain ⟨hz, cs, ⟨ad, c, rfl, h6⟩, h5⟩ := h4 i hi
    have := h5 0 (show 0 < 1 by decide)
    rw [show rs.getD i [] = rs[i] by simp [hi]]
    exact ⟨g, o, rfl, hz, h3, ad, c, by simpa [ERs] using this, h6⟩
set_option maxHeartbeats 8000000 in
set_option maxRecDepth 10000 in
theorem functions_ref {w : World} {xa xb : Value} {fa ta : List Nat} {rsa rsb : List (List Nat)} (hxa : LatA w (fun y => y < w.heap.size) xa fa rsa) (hxb : LatA w (fun y => y < w.heap.size) xb ta rsb) (hla : Lat fa) (hlb : Lat ta) :
    Calls Tryz.prog 50 #[xa, xb] w fun r w' => OpPost (fnD fa ta) w r w' := by
  obtain ⟨rs, hrs⟩ : ∃ rs, rs = (resP fa ta).take 41 := ⟨_, rfl⟩
  have HXA : Hid (LatA w (fun y => y < w.heap.size) xa fa rsa) := hxa
  have HXB : Hid (LatA w (fun y => y < w.heap.size) xb ta rsb) := hxb
  obtain ⟨a1, l1, c1, a2, l2, c2, rfl⟩ := latA_box hxa
  obtain ⟨b1, m1, d1, b2, m2, d2, rfl⟩ := latA_box hxb
  obtain ⟨X, hX⟩ : ∃ X, X = w.heap.size := ⟨_, rfl⟩
  obtain ⟨Y, hY⟩ : ∃ Y, Y = w.heap.size + 1 := ⟨_, rfl⟩
  obtain ⟨L, hL⟩ : ∃ L, L = w.heap.size + 1 + 1 := ⟨_, rfl⟩
  obtain ⟨W, hW, hBW, hsW, hXW, hYW, hLW⟩ := boxes3 w #[.int .i64 (fa.length : Int), .slice a1 l1 c1, .slice a2 l2 c2] #[.int .i64 (ta.length : Int), .slice b1 m1 d1, .slice b2 m2 d2] #[.int .i64 0, .slice none 0 0, .slice none 0 0] 47
  rw [← hX] at hXW
  rw [← hY] at hYW
  rw [show w.heap.size + 2 = L by omega] at hLW
  have hk : Keeps (fun y => y < w.heap.size) w W := Keeps.of hBW fun _ h => h
  have hup : ∀ y, y < w.heap.size → y < W.heap.size := fun y h => by omega
  have CR := rows_all (HXA.out.on hk hup) (HXB.out.on hk hup) hla hlb rs hrs
  have HXBW : Hid (LatA W (fun y => y < W.heap.size) (.agg #[.int .i64 (ta.length : Int), .slice b1 m1 d1, .slice b2 m2 d2]) ta rsb) := HXB.out.on hk hup
  have x0 : W.cell? ⟨X, 0, none⟩ = some (.int .i64 (fa.length : Int)) := heap_cl hXW rfl
  have x1 : W.cell? ⟨X, 1, none⟩ = some (.slice a1 l1 c1) := heap_cl hXW rfl
  have x2 : W.cell? ⟨X, 2, none⟩ = some (.slice a2 l2 c2) := heap_cl hXW rfl
  have y0 : W.cell? ⟨Y, 0, none⟩ = some (.int .i64 (ta.length : Int)) := heap_cl hYW rfl
  have y1 : W.cell? ⟨Y, 1, none⟩ = some (.slice b1 m1 d1) := heap_cl hYW rfl
  have y2 : W.cell? ⟨Y, 2, none⟩ = some (.slice b2 m2 d2) := heap_cl hYW rfl
  have HBW : Hid (Below w.heap.size w W) := hBW
  have HXW : Hid (W.heap[X]? = some (.cells #[.int .i64 (fa.length : Int), .slice a1 l1 c1, .slice a2 l2 c2] 47 (0, 0))) := hXW
  have HYW : Hid (W.heap[Y]? = some (.cells #[.int .i64 (ta.length : Int), .slice b1 m1 d1, .slice b2 m2 d2] 47 (0, 0))) := hYW
  have HLW : Hid (W.heap[L]? = some (.cells #[.int .i64 0, .slice none 0 0, .slice none 0 0] 47 (0, 0))) := hLW
  have HS : Hid (X = w.heap.size ∧ Y = w.heap.size + 1 ∧ L = w.heap.size + 1 + 1 ∧ W.heap.size = w.heap.size + 3) := ⟨hX, hY, hL, hsW⟩
  have HLB : Hid (Lat ta) := hlb
  have HFEW : Hid ((resP fa ta).length ≤ 40 → Lat (fnsP ta (resP fa ta)) ∧ fnD fa ta = some (fnsP ta (resP fa ta), some (fa, ta))) := fun h => ⟨fns_lat hlb h, by
    unfold fnD fnP
    rw [if_pos h]
    rfl⟩
  have HMANY : Hid (40 < (resP fa ta).length → fnD fa ta = none) := fun h => by
    show _ = _
    unfold fnD fnP
    rw [if_neg (by omega)]
    rfl
  have HFA : Hid (fa.length ≤ 1000) := by
    have := hla.few
    show _ ≤ _
    omega
  have HRS41 : Hid (rs = (resP fa ta).take 41) := hrs
  obtain ⟨ti, hi0, hz0, hk0, hby0⟩ := info_parts Tryz.info4
  clear hrs hxa hxb HXA HXB hBW hsW hXW hYW hLW hk hup hX hY hL hla hlb
  go_enter Tryz.func50, Tryz.ntmps50
  go_upto_region 1 with fail
  rw [← hW, ← HS.out.2.2.1, ← HS.out.2.1, ← HS.out.1]
  clear hW
  go_upto_region 2 with (first | (go_at_call 60; (with_reducible refine Calls.mono CR ?_); rintro e' w4 ⟨af, cf, rfl, HB4, HR4⟩))
  clear x0 x1 x2 y0 y1 y2 CR
  obtain ⟨Z, hZ⟩ : ∃ Z, Z = w4.heap.size := ⟨_, rfl⟩
  replace hZ : Hid (Z = w4.heap.size) := hZ
  go_upto_region 3 with fail
  obtain ⟨W6, hW6⟩ : ∃ W6, W6 = w4.alloc (.cells #[.int .i64 (rs.length : Int), .slice none 0 0, .slice af rs.length cf] 47) := ⟨_, rfl⟩
  have hZ6 : W6.heap[Z]? = some (.cells #[.int .i64 (rs.length : Int), .slice none 0 0, .slice af rs.length cf] 47 (0, 0)) := by rw [hW6, hZ.out]; exact new_blk _ _
  have hB6 : Below Z w4 W6 := by rw [hW6, hZ.out]; exact (Below.refl _ _).alloc (Nat.le_refl _) _
  rw [← hW6, ← hZ.out]
  clear hW6
  have z0 : W6.cell? ⟨Z, 0, none⟩ = some (.int .i64 (rs.length : Int)) := heap_cl hZ6 rfl
  have HZ6 : Hid (W6.heap[Z]? = some (.cells #[.int .i64 (rs.length : Int), .slice none 0 0, .slice af rs.length cf] 47 (0, 0))) := hZ6
  have HB6 : Hid (Below Z w4 W6) := hB6
  clear hZ6 hB6
  have HYZ : Hid (∀ wr, Below Z w4 wr → wr.heap[Y]? = some (.cells #[.int .i64 (ta.length : Int), .slice b1 m1 d1, .slice b2 m2 d2] 47 (0, 0)) ∧ wr.heap[L]? = some (.cells #[.int .i64 0, .slice none 0 0, .slice none 0 0] 47 (0, 0)) ∧ LatA wr (fun y => y < Z) (.agg #[.int .i64 (ta.length : Int), .slice b1 m1 d1, .slice b2 m2 d2]) ta rsb ∧ RowE ERs wr (fun y => W.heap.size ≤ y ∧ y < Z) (fun y => W.heap.size ≤ y ∧ y < Z) (.slice af rs.length cf) rs ∧ L < W.heap.size ∧ Y < Z ∧ L < Z ∧ Z ≤ wr.heap.size) := fun wr hwr => by
    obtain ⟨s1, s2, s3, s4⟩ := HS.out
    have s5 := HB4.out.size
    have s6 := hZ.out
    have s7 := hwr.size
    have hk : ∀ y, y < W.heap.size → wr.heap[y]? = W.heap[y]? := fun y hy => (hwr.block y (by omega)).trans (HB4.out.block y hy)
    refine ⟨(hk Y (by omega)).trans HYW.out, (hk L (by omega)).trans HLW.out, HXBW.out.on (fun y hy => hk y hy) (fun y hy => by show y < Z; have : y < W.heap.size := hy; omega), HR4.out.on (fun y hy => hwr.block y (by omega)) (fun y hy => hwr.block y (by omega)) (fun y hy => ⟨hy.1, by omega⟩) (fun y hy => ⟨hy.1, by omega⟩), by omega, by omega, by omega, by omega⟩
  have HBZ : Hid (∀ wr, Below Z w4 wr → Below w.heap.size w wr) := fun wr hwr => by
    have s5 := HB4.out.size
    have s6 := hZ.out
    have s8 := HBW.out.size
    exact (HBW.out.trans (HB4.out.mono s8)).trans (hwr.mono (by omega))
  clear HB4 HR4 HXBW HYW HXW HLW HBW
  by_cases hfew : (resP fa ta).length ≤ 40
  · obtain ⟨hlat, hfn⟩ := HFEW.out hfew
    have hrs2 : rs = resP fa ta := by rw [HRS41.out]; exact List.take_of_length_le (by omega)
    have HFN : Hid (fnD fa ta = some (fnsP ta (resP fa ta), some (fa, ta))) := hfn
    have HLAT : Hid (Lat (fnsP ta rs)) := by rw [hrs2]; exact hlat
    have HLEN : Hid ((fnsP ta rs).length = rs.length) := fns_len _ _
    have HGET : Hid (∀ i (h : i < rs.length), (fnsP ta rs).take i ++ [greatQ ta rs i rs.length] = (fnsP ta rs).take (i + 1)) := fun i h => by
      rw [List.take_succ_eq_append_getElem (by rw [fns_len]; exact h)]
      congr 2
      have := fns_get ta rs h
      rw [List.getD_eq_getElem?_getD, List.getElem?_eq_getElem (by rw [fns_len]; exact h)] at this
      exact this.symm
    have HBIT : Hid (∀ i j, i < rs.length → j < rs.length → underP ta (rs.getD i []) (rs.getD j []) = (greatQ ta rs i rs.length).testBit j) := fun i j h1 h2 => by
      rw [hrs2] at h1 h2 ⊢
      exact great_full HLB.out h1 h2
    have HRS : Hid (∀ i, i < rs.length → (rs.getD i []).length = fa.length ∧ ∀ x ∈ rs.getD i [], x < ta.length) := fun i hi => by
      rw [hrs2] at hi ⊢
      obtain ⟨h1, h2, _⟩ := (res_mem fa ta _).1 (res_in hi)
      refine ⟨h1, fun x hx => ?_⟩
      obtain ⟨j, hj, rfl⟩ := List.getElem_of_mem hx
      have := h2 j (by omega)
      rwa [List.getD_eq_getElem?_getD, List.getElem?_eq_getElem hj] at this
    have HEND : Hid (rsD (fnsP ta (resP fa ta), some (fa, ta)) = rs ∧ fnsP ta (resP fa ta) = fnsP ta rs) := ⟨hrs2.symm, by rw [hrs2]⟩
    have hn40 : rs.length ≤ 40 := by rw [hrs2]; exact hfew
    have HPOS : Hid (fnsP ta rs ≠ []) := fun e => by
      have := HLAT.out.pos
      rw [e] at this
      simp at this
    clear hrs2 hlat hfn hfew HFEW HMANY HRS41
    have i40 : ¬ (rs.length : Int) > 40 := by omega
    go_upto_region 6 with fail
    clear z0 i40
    go_loopw [7] (fun iv wr => ∃ (i : Nat) (v : Value), i ≤ rs.length ∧ iv = .int .i64 i ∧ Hid (Below Z w4 wr) ∧ Hid (wr.heap[Z]? = some (.cells #[.int .i64 (rs.length : Int), v, .slice af rs.length cf] 47 (0, 0))) ∧ Hid (OwnN (EBl rs.length) 68 (Z + 1) (fun _ => False) wr v ((fnsP ta rs).take i))) (fun iv _ => rs.length - (intOf iv).toNat)
    case atStart => exact ⟨0, _, by omega, by go_num, HB6.out, HZ6.out, by rw [List.take_zero]; exact OwnN.nil _ _ _ _ _⟩
    case round =>
      clear HB6 HZ6 W6
      obtain ⟨i, v, hi, rfl, HB, HZ, HO⟩ := hrel
      by_cases hil : i < rs.length
      · have i1 : (0 : Int) ≤ (i : Int) := by omega
        have i2 : (i : Int) < (rs.length : Int) := by omega
        have z0 : wr.cell? ⟨Z, 0, none⟩ = some (.int .i64 (rs.length : Int)) := heap_cl HZ.out rfl
        go_upto_region 8 with fail
        go_upto_region 9 with (at_make; refine wpList_make_full _ rfl _ _ 68 rfl _ 4 ti _ 1 Tryz.underlying68 hi0 hz0 hk0 .i64 .i64 _ _ rs.length rfl rfl rfl rfl (by rw [hby0]; omega) (by unfold maxLen; omega) (Nat.le_refl _) ?_; intro w7 ho7 hg7)
        have HB7 : Hid (Below wr.heap.size wr w7) := (Below.refl _ _).grown hg7 (Nat.le_refl _) (fun _ e => (by cases e))
        have HW7 : Hid (Wb w7 wr.heap.size rs.length (fun j => decide (j < 0) && underP ta (rs.getD i []) (rs.getD j []))) := (Wb.made rfl ho7).zero
        clear ho7 hg7 z0
        obtain ⟨wo, hwo⟩ : ∃ wo, wo = wr := ⟨_, rfl⟩
        subst hwo
        obtain ⟨G, hG⟩ : ∃ G, G = wo.heap.size := ⟨_, rfl⟩
        rw [← hG] at HB7 HW7 ⊢
        replace hG : Hid (G = wo.heap.size) := hG
        have HZG : Hid (Z < G) := by
          show _ < _
          have := lt_heap HZ.out
          have := hG.out
          omega
        go_upto_region 10 with fail
        go_loopw [9] (fun bv wi => ∃ b : Nat, b ≤ rs.length ∧ bv = .int .i64 b ∧ Hid (Below G wo wi) ∧ Hid (Wb wi G rs.length (fun j => decide (j < b) && underP ta (rs.getD i []) (rs.getD j [])))) (fun bv _ => rs.length - (intOf bv).toNat)
        case atStart => exact ⟨0, Nat.zero_le _, by go_num, HB7.out, HW7.out⟩
        case round =>
          clear HB7 HW7
          obtain ⟨b, hb, rfl, HB2, HW2⟩ := hrel
          by_cases hbl : b < rs.length
          · have i3 : (0 : Int) ≤ (b : Int) := by omega
            have i4 : (b : Int) < (rs.length : Int) := by omega
            have hbz : Below Z w4 wr.drew := (HB.out.trans (HB2.out.mono (Nat.le_of_lt HZG.out))).drew
            obtain ⟨p1, p2, p3, p4, p5, p6, p7, p8⟩ := HYZ.out wr.drew hbz
            obtain ⟨g, o, haf, hsg, hcf, ai, ci, q1, n1⟩ := row_nts p4 i hil
            obtain ⟨g', o', haf', -, -, ak, ck, q2, n2⟩ := row_nts p4 b hbl
            subst haf
            simp only [Option.some.injEq, Addr.mk.injEq, and_true] at haf'
            obtain ⟨rfl, rfl⟩ := haf'
            have hup : ∀ y, y < Z → y < wr.drew.heap.size := fun y hy => Nat.lt_of_lt_of_le hy p8
            have CU := under_ref (p3.on (Keeps.refl _ _) hup) HLB.out (n1.on (Keeps.refl _ _) fun y hy => hup y hy.2) (n2.on (Keeps.refl _ _) fun y hy => hup y hy.2) (by rw [(HRS.out i hil).1, (HRS.out b hbl).1]) (by rw [(HRS.out i hil).1]; exact HFA.out) (HRS.out i hil).2 (HRS.out b hbl).2
            have hZd : wr.drew.heap[Z]? = some (.cells #[.int .i64 (rs.length : Int), v, .slice (some ⟨g, o, none⟩) rs.length cf] 47 (0, 0)) := (HB2.out.drew.block Z HZG.out).trans HZ.out
            obtain ⟨li, hli⟩ : ∃ li, li = (rs.getD i []).length := ⟨_, rfl⟩
            obtain ⟨lk, hlk⟩ : ∃ lk, lk = (rs.getD b []).length := ⟨_, rfl⟩
            obtain ⟨ub, hub⟩ : ∃ ub, ub = underP ta (rs.getD i []) (rs.getD b []) := ⟨_, rfl⟩
            rw [← hub, ← hli, ← hlk] at CU
            rw [← hli] at q1
            rw [← hlk] at q2
            have HUB : Hid (ub = underP ta (rs.getD i []) (rs.getD b [])) := hub
            have hS0 : (fun w' : World => w'.cell? ⟨Y, 0, none⟩ = some (.int .i64 (ta.length : Int)) ∧ w'.cell? ⟨Y, 1, none⟩ = some (.slice b1 m1 d1) ∧ w'.cell? ⟨Y, 2, none⟩ = some (.slice b2 m2 d2) ∧ w'.cell? ⟨Z, 2, none⟩ = some (.slice (some ⟨g, o, none⟩) rs.length cf) ∧ w'.cell? ⟨g, o + i, none⟩ = some (.slice ai li ci) ∧ w'.cell? ⟨g, o + b, none⟩ = some (.slice ak lk ck)) wr.drew := ⟨heap_cl p1 rfl, heap_cl p1 rfl, heap_cl p1 rfl, heap_cl hZd rfl, q1, q2⟩
            have HKS : Hid (∀ w' : World, Below wr.drew.heap.size wr.drew w' → (fun w' : World => w'.cell? ⟨Y, 0, none⟩ = some (.int .i64 (ta.length : Int)) ∧ w'.cell? ⟨Y, 1, none⟩ = some (.slice b1 m1 d1) ∧ w'.cell? ⟨Y, 2, none⟩ = some (.slice b2 m2 d2) ∧ w'.cell? ⟨Z, 2, none⟩ = some (.slice (some ⟨g, o, none⟩) rs.length cf) ∧ w'.cell? ⟨g, o + i, none⟩ = some (.slice ai li ci) ∧ w'.cell? ⟨g, o + b, none⟩ = some (.slice ak lk ck)) w') := fun w' hb' => by
              have hz8 : Z < wr.drew.heap.size := lt_heap hZd
              have hgl : g < wr.drew.heap.size := hup g hsg.2
              exact ⟨(hb'.cell (p := ⟨Y, 0, none⟩) (Nat.lt_of_lt_of_le p6 p8)).trans hS0.1, (hb'.cell (p := ⟨Y, 1, none⟩) (Nat.lt_of_lt_of_le p6 p8)).trans hS0.2.1, (hb'.cell (p := ⟨Y, 2, none⟩) (Nat.lt_of_lt_of_le p6 p8)).trans hS0.2.2.1, (hb'.cell (p := ⟨Z, 2, none⟩) hz8).trans hS0.2.2.2.1, (hb'.cell (p := ⟨g, o + i, none⟩) hgl).trans hS0.2.2.2.2.1, (hb'.cell (p := ⟨g, o + b, none⟩) hgl).trans hS0.2.2.2.2.2⟩
            have z0 : wr.cell? ⟨Z, 0, none⟩ = some (.int .i64 (rs.length : Int)) := heap_cl ((HB2.out.block Z HZG.out).trans HZ.out) rfl
            clear p1 p2 p3 p4 p5 p6 p7 p8 n1 n2 hub hli hlk hZd hup hbz q1 q2 hsg
            go_upto_region 12 with fail
            clear z0
            refine wp_region_M (S := (fun w' : World => w'.cell? ⟨Y, 0, none⟩ = some (.int .i64 (ta.length : Int)) ∧ w'.cell? ⟨Y, 1, none⟩ = some (.slice b1 m1 d1) ∧ w'.cell? ⟨Y, 2, none⟩ = some (.slice b2 m2 d2) ∧ w'.cell? ⟨Z, 2, none⟩ = some (.slice (some ⟨g, o, none⟩) rs.length cf) ∧ w'.cell? ⟨g, o + i, none⟩ = some (.slice ai li ci) ∧ w'.cell? ⟨g, o + b, none⟩ = some (.slice ak lk ck))) (L := 15) (n := 16) (by kernel_rfl) rfl (by kernel_rfl) ?_
            refine wpAnyK_go (i := 0) (m' := 1) (some 37) (v := .slice (some ⟨G, 0, none⟩) rs.length rs.length) rfl rfl (by kernel_rfl) (by kernel_rfl) (by kernel_rfl) (by kernel_rfl) (by kernel_rfl) (fun _ _ _ h => h) (Or.inl ⟨by rfl, ?_⟩) hS0 ?_
            · intro w' hSw
              go_simp
            simp only [Act.put, List.setIfInBounds_toArray, List.set_cons_zero, List.set_cons_succ]
            refine wpAnyK_go (i := 1) (m' := 3) (some 38) (v := .int .i64 (b : Int)) rfl rfl (by kernel_rfl) (by kernel_rfl) (by kernel_rfl) (by kernel_rfl) (by kernel_rfl) (fun _ _ _ h => h) (Or.inl ⟨by rfl, ?_⟩) hS0 ?_
            · intro w' hSw
              go_simp
            simp only [Act.put, List.setIfInBounds_toArray, List.set_cons_zero, List.set_cons_succ]
            refine wpAnyK_go (i := 2) (m' := 7) (some 39) (v := .agg #[.int .i64 (ta.length : Int), .slice b1 m1 d1, .slice b2 m2 d2]) rfl rfl (by kernel_rfl) (by kernel_rfl) (by kernel_rfl) (by kernel_rfl) (by kernel_rfl) (fun _ _ _ h => h) (Or.inl ⟨by rfl, ?_⟩) hS0 ?_
            · intro w' hSw
              obtain ⟨s1, s2, s3, s4, s5, s6⟩ := hSw
              go_simp
            simp only [Act.put, List.setIfInBounds_toArray, List.set_cons_zero, List.set_cons_succ]
            refine wpAnyK_go (i := 3) (m' := 15) (some 40) (v := .pointer (some ⟨Z, 2, none⟩)) rfl rfl (by kernel_rfl) (by kernel_rfl) (by kernel_rfl) (by kernel_rfl) (by kernel_rfl) (fun _ _ _ h => h) (Or.inl ⟨by rfl, ?_⟩) hS0 ?_
            · intro w' hSw
              go_simp
            simp only [Act.put, List.setIfInBounds_toArray, List.set_cons_zero, List.set_cons_succ]
            refine wpAnyK_go (i := 4) (m' := 31) (some 41) (v := .slice (some ⟨g, o, none⟩) rs.length cf) rfl rfl (by kernel_rfl) (by kernel_rfl) (by kernel_rfl) (by kernel_rfl) (by kernel_rfl) (fun _ _ _ h => h) (Or.inl ⟨by rfl, ?_⟩) hS0 ?_
            · intro w' hSw
              obtain ⟨s1, s2, s3, s4, s5, s6⟩ := hSw
              go_simp
            simp only [Act.put, List.setIfInBounds_toArray, List.set_cons_zero, List.set_cons_succ]
            refine wpAnyK_go (i := 5) (m' := 63) (some 42) (v := .int .i64 (i : Int)) rfl rfl (by kernel_rfl) (by kernel_rfl) (by kernel_rfl) (by kernel_rfl) (by kernel_rfl) (fun _ _ _ h => h) (Or.inl ⟨by rfl, ?_⟩) hS0 ?_
            · intro w' hSw
              go_simp
            simp only [Act.put, List.setIfInBounds_toArray, List.set_cons_zero, List.set_cons_succ]
            refine wpAnyK_go (i := 6) (m' := 127) (some 43) (v := .pointer (some ⟨g, o + i, none⟩)) rfl rfl (by kernel_rfl) (by kernel_rfl) (by kernel_rfl) (by kernel_rfl) (by kernel_rfl) (fun _ _ _ h => h) (Or.inl ⟨by rfl, ?_⟩) hS0 ?_
            · intro w' hSw
              go_simp
            simp only [Act.put, List.setIfInBounds_toArray, List.set_cons_zero, List.set_cons_succ]
            refine wpAnyK_go (i := 7) (m' := 255) (some 44) (v := .slice ai li ci) rfl rfl (by kernel_rfl) (by kernel_rfl) (by kernel_rfl) (by kernel_rfl) (by kernel_rfl) (fun _ _ _ h => h) (Or.inl ⟨by rfl, ?_⟩) hS0 ?_
            · intro w' hSw
              obtain ⟨s1, s2, s3, s4, s5, s6⟩ := hSw
              go_simp
            simp only [Act.put, List.setIfInBounds_toArray, List.set_cons_zero, List.set_cons_succ]
            refine wpAnyK_go (i := 8) (m' := 511) (some 45) (v := .pointer (some ⟨Z, 2, none⟩)) rfl rfl (by kernel_rfl) (by kernel_rfl) (by kernel_rfl) (by kernel_rfl) (by kernel_rfl) (fun _ _ _ h => h) (Or.inl ⟨by rfl, ?_⟩) hS0 ?_
            · intro w' hSw
              go_simp
            simp only [Act.put, List.setIfInBounds_toArray, List.set_cons_zero, List.set_cons_succ]
            refine wpAnyK_go (i := 9) (m' := 1023) (some 46) (v := .slice (some ⟨g, o, none⟩) rs.length cf) rfl rfl (by kernel_rfl) (by kernel_rfl) (by kernel_rfl) (by kernel_rfl) (by kernel_rfl) (fun _ _ _ h => h) (Or.inl ⟨by rfl, ?_⟩) hS0 ?_
            · intro w' hSw
              obtain ⟨s1, s2, s3, s4, s5, s6⟩ := hSw
              go_simp
            simp only [Act.put, List.setIfInBounds_toArray, List.set_cons_zero, List.set_cons_succ]
            refine wpAnyK_go (i := 10) (m' := 2047) (some 47) (v := .int .i64 (b : Int)) rfl rfl (by kernel_rfl) (by kernel_rfl) (by kernel_rfl) (by kernel_rfl) (by kernel_rfl) (fun _ _ _ h => h) (Or.inl ⟨by rfl, ?_⟩) hS0 ?_
            · intro w' hSw
              go_simp
            simp only [Act.put, List.setIfInBounds_toArray, List.set_cons_zero, List.set_cons_succ]
            refine wpAnyK_go (i := 11) (m' := 4095) (some 48) (v := .pointer (some ⟨g, o + b, none⟩)) rfl rfl (by kernel_rfl) (by kernel_rfl) (by kernel_rfl) (by kernel_rfl) (by kernel_rfl) (fun _ _ _ h => h) (Or.inl ⟨by rfl, ?_⟩) hS0 ?_
            · intro w' hSw
              go_simp
            simp only [Act.put, List.setIfInBounds_toArray, List.set_cons_zero, List.set_cons_succ]
            refine wpAnyK_go (i := 12) (m' := 8191) (some 49) (v := .slice ak lk ck) rfl rfl (by kernel_rfl) (by kernel_rfl) (by kernel_rfl) (by kernel_rfl) (by kernel_rfl) (fun _ _ _ h => h) (Or.inl ⟨by rfl, ?_⟩) hS0 ?_
            · intro w' hSw
              obtain ⟨s1, s2, s3, s4, s5, s6⟩ := hSw
              go_simp
            simp only [Act.put, List.setIfInBounds_toArray, List.set_cons_zero, List.set_cons_succ]
            refine wpAnyK_only (i := 13) (m' := 16383) (by kernel_rfl) rfl (by kernel_rfl) fun K hK => ?_
            go_simp
            (with_reducible refine Calls.mono CU ?_)
            rintro e' w8 ⟨rfl, HB8⟩
            have hS8 := HKS.out w8 HB8.out
            go_simp
            refine hK.out _ _ (fun _ => hS8) ?_
            clear hK K CU
            refine wpAnyK_only (i := 14) (m' := 32767) (by kernel_rfl) rfl (by kernel_rfl) fun K hK => ?_
            go_simp
            refine hK.out _ _ (fun _ => hS8) ?_
            clear hK K hS8 hS0 HKS
            have HW8 : Hid (Wb w8 G rs.length (fun j => decide (j < b) && underP ta (rs.getD i []) (rs.getD j []))) := HW2.out.on (HB8.out.block G HW2.out.lt)
            obtain ⟨y1, y2⟩ := HW8.out.at b hbl
            refine wpAnyK_only (i := 15) (m' := 65535) (by kernel_rfl) rfl (by kernel_rfl) fun K hK => ?_
            go_simp
            refine hK.out _ _ (fun h => absurd rfl h) ?_
            clear hK K
            refine wpAnyK_done (by kernel_rfl) ?_ _
            have HB9 : Hid (Below G wo (w8.setCell ⟨G, b, none⟩ (.bool ub))) := ((HB2.out.drew).trans (HB8.out.mono (Nat.le_of_lt HW2.out.lt))).setCell (show G ≤ (⟨G, b, none⟩ : Addr).block from Nat.le_refl _) _
            have HW9 : Hid (Wb (w8.setCell ⟨G, b, none⟩ (.bool ub)) G rs.length (fun j => decide (j < b + 1) && underP ta (rs.getD i []) (rs.getD j []))) := HW8.out.step HUB.out
            clear y1 y2 HW8 HB8 HW2 HB2 HUB
            generalize w8.setCell ⟨G, b, none⟩ (.bool ub) = w9 at *
            go_wp2
            go_roundw
            case rel => exact ⟨b + 1, hbl, by go_num, HB9.out, HW9.out⟩
            case measure => simp [intOf]; omega
          · obtain rfl : b = rs.length := by omega
            have hb4 : Below Z w4 wr := HB.out.trans (HB2.out.mono (Nat.le_of_lt HZG.out))
            have hZr : wr.heap[Z]? = some (.cells #[.int .i64 (rs.length : Int), v, .slice af rs.length cf] 47 (0, 0)) := (HB2.out.block Z HZG.out).trans HZ.out
            have z0 : wr.cell? ⟨Z, 0, none⟩ = some (.int .i64 (rs.length : Int)) := heap_cl hZr rfl
            have z1 : wr.cell? ⟨Z, 1, none⟩ = some v := heap_cl hZr rfl
            have HZr : Hid (wr.heap[Z]? = some (.cells #[.int .i64 (rs.length : Int), v, .slice af rs.length cf] 47 (0, 0))) := hZr
            have HC : Hid ((EBl rs.length).C wr (Nwr (fun _ => False) (Z + 1) wr v) [.slice (some ⟨G, 0, none⟩) rs.length rs.length] (greatQ ta rs i rs.length)) := ⟨_, _, rfl, HW2.out.bts (.inr ⟨by have := HZG.out; omega, HW2.out.lt, fun e => by have := (HO.out.lt G e).2; have := hG.out; omega⟩) (fun j hj => by rw [decide_eq_true hj, Bool.true_and]; exact HBIT.out i j hil hj)⟩
            have HBO : Hid (Z + 1 ≤ wo.heap.size) := by
              show _ ≤ _
              have := hG.out
              have := HZG.out
              omega
            have HL1 : Hid (((fnsP ta rs).take (i + 1)).length = i + 1) := by
              show _ = _
              have := HLEN.out
              rw [List.length_take]
              omega
            have HBG : Hid (Below wo.heap.size wo wr) := by
              show Below _ _ _
              rw [← hG.out]
              exact HB2.out
            have HLN : Hid (((fnsP ta rs).take i).length + 1 ≤ 10000000) := by
              show _ ≤ _
              rw [List.length_take]
              omega
            have HGi : Hid ((fnsP ta rs).take i ++ [greatQ ta rs i rs.length] = (fnsP ta rs).take (i + 1)) := HGET.out i hil
            clear hb4 hZr
            go_upto_region 13 with fail
            clear z0
            go_wp2_with (at_builtin; refine wpList_append_N1 (E := EBl rs.length) (w1 := wo) (w2 := wr) (cs := [.slice (some ⟨G, 0, none⟩) rs.length rs.length]) (p := greatQ ta rs i rs.length) (cap := 1) (Tryz.ty44 rs.length) rfl _ _ rfl rfl HO.out (fun _ h => h.elim) HBO.out HBG.out rfl HC.out (Nat.le_refl _) HLN.out ?_; intro v4 w10 O4 B4 N4; rw [HGi.out] at O4; obtain ⟨a4, c4, rfl⟩ := O4.len; rw [HL1.out] at O4 ⊢; have HZ4 : Hid (w10.heap[Z]? = some (.cells #[.int .i64 (rs.length : Int), v, .slice af rs.length cf] 47 (0, 0))) := (B4.block Z (by have := HZG.out; have := hG.out; omega)).trans HZ.out; replace O4 : Hid _ := O4; replace B4 : Hid _ := B4; have y3 : w10.cell? ⟨Z, 1, none⟩ = some v := heap_cl HZ4.out rfl; have y4 : w10.frozen? ⟨Z, 1, none⟩ = false := heap_frozen HZ4.out)
            have hzg := HZG.out
            have hgg := hG.out
            refine ⟨⟨i + 1, .slice a4 (i + 1) c4, hil, by go_num, (HB.out.trans (B4.out.mono (by omega))).setCell (show Z ≤ Z by omega) _, setCell_block HZ4.out, own_put (by omega) O4.out⟩, by simp [intOf]; omega⟩
      · obtain rfl : i = rs.length := by omega
        obtain ⟨p1, p2, p3, p4, p5, p6, p7, p8⟩ := HYZ.out wr HB.out
        replace HO : Hid (OwnN (EBl rs.length) 68 (Z + 1) (fun _ => False) wr v (fnsP ta rs)) := by
          have h := HO.out
          rwa [List.take_of_length_le (by rw [HLEN.out]; exact Nat.le_refl _)] at h
        obtain ⟨av, cv, rfl⟩ := HO.out.len
        rw [HLEN.out] at HO HZ
        have z0 : wr.cell? ⟨Z, 0, none⟩ = some (.int .i64 (rs.length : Int)) := heap_cl HZ.out rfl
        have z1 : wr.cell? ⟨Z, 1, none⟩ = some (.slice av rs.length cv) := heap_cl HZ.out rfl
        have z2 : wr.cell? ⟨Z, 2, none⟩ = some (.slice af rs.length cf) := heap_cl HZ.out rfl
        have x0 : wr.cell? ⟨L, 0, none⟩ = some (.int .i64 0) := heap_cl p2 rfl
        have x1 : wr.cell? ⟨L, 1, none⟩ = some (.slice none 0 0) := heap_cl p2 rfl
        have x2 : wr.cell? ⟨L, 2, none⟩ = some (.slice none 0 0) := heap_cl p2 rfl
        have f0 : wr.frozen? ⟨L, 0, none⟩ = false := heap_frozen p2
        have f1 : wr.frozen? ⟨L, 1, none⟩ = false := heap_frozen p2
        have f2 : wr.frozen? ⟨L, 2, none⟩ = false := heap_frozen p2
        have HLr : Hid (wr.heap[L]? = some (.cells #[.int .i64 0, .slice none 0 0, .slice none 0 0] 47 (0, 0))) := p2
        have HRr : Hid (RowE ERs wr (fun y => W.heap.size ≤ y ∧ y < Z) (fun y => W.heap.size ≤ y ∧ y < Z) (.slice af rs.length cf) rs) := p4
        have HLs : Hid (L < W.heap.size ∧ L < Z ∧ Z ≤ wr.heap.size) := ⟨p5, p7, p8⟩
        have HBw : Hid (Below w.heap.size w wr) := HBZ.out wr HB.out
        have HLw : Hid (w.heap.size ≤ L) := by
          show _ ≤ _
          have := HS.out.2.2.1
          omega
        clear p1 p2 p3 p4 p5 p6 p7 p8
        go_upto_region 14 with fail
        go_wp2
        have HL5 : Hid ((((wr.setCell ⟨L, 0, none⟩ (.int .i64 rs.length)).setCell ⟨L, 1, none⟩ (.slice av rs.length cv)).setCell ⟨L, 2, none⟩ (.slice af rs.length cf)).heap[L]? = some (.cells #[.int .i64 rs.length, .slice av rs.length cv, .slice af rs.length cf] 47 (0, 0))) := setCell_block (setCell_block (setCell_block HLr.out))
        have hl := HLs.out
        replace HO : Hid (OwnN (EBl rs.length) 68 (Z + 1) (fun _ => False) (((wr.setCell ⟨L, 0, none⟩ (.int .i64 rs.length)).setCell ⟨L, 1, none⟩ (.slice av rs.length cv)).setCell ⟨L, 2, none⟩ (.slice af rs.length cf)) (.slice av rs.length cv) (fnsP ta rs)) := own_put (by omega) (own_put (by omega) (own_put (by omega) HO.out))
        have HKL : Hid (Keeps (fun y => W.heap.size ≤ y ∧ y < Z) wr (((wr.setCell ⟨L, 0, none⟩ (.int .i64 rs.length)).setCell ⟨L, 1, none⟩ (.slice av rs.length cv)).setCell ⟨L, 2, none⟩ (.slice af rs.length cf))) := fun y hy => by
          have hy : W.heap.size ≤ y ∧ y < Z := hy
          rw [Below.heap_setCell _ _ _ _ (by show y ≠ L; omega), Below.heap_setCell _ _ _ _ (by show y ≠ L; omega), Below.heap_setCell _ _ _ _ (by show y ≠ L; omega)]
        have HSz : Hid (wr.heap.size = (((wr.setCell ⟨L, 0, none⟩ (.int .i64 rs.length)).setCell ⟨L, 1, none⟩ (.slice av rs.length cv)).setCell ⟨L, 2, none⟩ (.slice af rs.length cf)).heap.size) := by
          show _ = _
          rw [World.size_setCell, World.size_setCell, World.size_setCell]
        replace HBw : Hid (Below w.heap.size w (((wr.setCell ⟨L, 0, none⟩ (.int .i64 rs.length)).setCell ⟨L, 1, none⟩ (.slice av rs.length cv)).setCell ⟨L, 2, none⟩ (.slice af rs.length cf))) := ((HBw.out.setCell (show w.heap.size ≤ L from HLw.out) _).setCell (show w.heap.size ≤ L from HLw.out) _).setCell (show w.heap.size ≤ L from HLw.out) _
        clear x0 x1 x2 z0 z1 z2 f0 f1 f2 HZ HLr
        generalize ((wr.setCell ⟨L, 0, none⟩ (.int .i64 rs.length)).setCell ⟨L, 1, none⟩ (.slice av rs.length cv)).setCell ⟨L, 2, none⟩ (.slice af rs.length cf) = w5 at *
        have x0 : w5.cell? ⟨L, 0, none⟩ = some (.int .i64 rs.length) := heap_cl HL5.out rfl
        have x1 : w5.cell? ⟨L, 1, none⟩ = some (.slice av rs.length cv) := heap_cl HL5.out rfl
        have x2 : w5.cell? ⟨L, 2, none⟩ = some (.slice af rs.length cf) := heap_cl HL5.out rfl
        refine bodyPost_ret (v := .tuple #[.agg #[.int .i64 rs.length, .slice av rs.length cv, .slice af rs.length cf], .bool true]) (by simp [results, Tryz.results50, go_sem, x0, x1, x2]) rfl ?_
        have hz2 := HSz.out
        rw [HFN.out]
        have hsw := HS.out.2.2.2
        have hsl := HS.out.2.2.1
        refine ⟨_, _, _, _, _, _, _, _, rfl, HBw.out, fun _ => ⟨_, rfl, ?_, ?_⟩, fun h => by cases h⟩
        · rw [HEND.out.1]
          show LatA _ _ _ (fnsP ta (resP fa ta)) _
          rw [HEND.out.2]
          refine ⟨_, _, by rw [HLEN.out], ?_, HRr.out.on HKL.out HKL.out (fun y hy => ⟨by have := hy.1; omega, by have := hy.2; omega⟩) (fun y hy => ⟨by have := hy.1; omega, by have := hy.2; omega⟩), HPOS.out⟩
          rw [HLEN.out]
          exact HO.out.rowE.on (fun _ _ => rfl) (fun _ _ => rfl) (fun _ h => ⟨by have := h.1; omega, h.2⟩) (fun _ h => h.elim (fun q => q.elim) fun q => ⟨by have := q.1; omega, q.2⟩)
        · show Lat (fnsP ta (resP fa ta))
          rw [HEND.out.2]
          exact HLAT.out
  · have hr41 : rs.length = 41 := by
      rw [HRS41.out, List.length_take]
      omega
    have HFN : Hid (fnD fa ta = none) := HMANY.out (by omega)
    have i40 : (rs.length : Int) > 40 := by omega
    obtain ⟨p1, p2, p3, p4, p5, p6, p7, p8⟩ := HYZ.out W6 HB6.out
    have HB : Hid (Below w.heap.size w W6) := HBZ.out W6 HB6.out
    have HLw : Hid (w.heap.size ≤ L) := by
      show _ ≤ _
      have := HS.out.2.2.1
      omega
    have HLr : Hid (W6.heap[L]? = some (.cells #[.int .i64 0, .slice none 0 0, .slice none 0 0] 47 (0, 0))) := p2
    have x0 : W6.cell? ⟨L, 0, none⟩ = some (.int .i64 0) := heap_cl p2 rfl
    have x1 : W6.cell? ⟨L, 1, none⟩ = some (.slice none 0 0) := heap_cl p2 rfl
    have x2 : W6.cell? ⟨L, 2, none⟩ = some (.slice none 0 0) := heap_cl p2 rfl
    have f0 : W6.frozen? ⟨L, 0, none⟩ = false := heap_frozen p2
    have f1 : W6.frozen? ⟨L, 1, none⟩ = false := heap_frozen p2
    have f2 : W6.frozen? ⟨L, 2, none⟩ = false := heap_frozen p2
    clear p1 p2 p3 p4 p5 p6 p7 p8 hfew hr41
    go_upto_region 4 with fail
    go_wp2
    have HL5 : Hid ((((W6.setCell ⟨L, 0, none⟩ (.int .i64 0)).setCell ⟨L, 1, none⟩ (.slice none 0 0)).setCell ⟨L, 2, none⟩ (.slice none 0 0)).heap[L]? = some (.cells #[.int .i64 0, .slice none 0 0, .slice none 0 0] 47 (0, 0))) := setCell_block (setCell_block (setCell_block HLr.out))
    replace HB : Hid (Below w.heap.size w (((W6.setCell ⟨L, 0, none⟩ (.int .i64 0)).setCell ⟨L, 1, none⟩ (.slice none 0 0)).setCell ⟨L, 2, none⟩ (.slice none 0 0))) := ((HB.out.setCell (show w.heap.size ≤ L from HLw.out) _).setCell (show w.heap.size ≤ L from HLw.out) _).setCell (show w.heap.size ≤ L from HLw.out) _
    clear x0 x1 x2 f0 f1 f2 HLr z0
    generalize ((W6.setCell ⟨L, 0, none⟩ (.int .i64 0)).setCell ⟨L, 1, none⟩ (.slice none 0 0)).setCell ⟨L, 2, none⟩ (.slice none 0 0) = w5 at *
    have x0 : w5.cell? ⟨L, 0, none⟩ = some (.int .i64 0) := heap_cl HL5.out rfl
    have x1 : w5.cell? ⟨L, 1, none⟩ = some (.slice none 0 0) := heap_cl HL5.out rfl
    have x2 : w5.cell? ⟨L, 2, none⟩ = some (.slice none 0 0) := heap_cl HL5.out rfl
    refine bodyPost_ret (v := .tuple #[.agg #[.int .i64 0, .slice none 0 0, .slice none 0 0], .bool false]) (by simp [results, Tryz.results50, go_sem, x0, x1, x2]) rfl ?_
    rw [HFN.out]
    exact ⟨_, _, _, _, _, _, _, _, rfl, HB.out, (fun h => (by cases h)), fun _ => rfl⟩
end Go.Proofs.YtgdflaapgfpdeaaGreatDoor

namespace Go.Proofs.YtgdflaapgfpdeaaGreatDoor
open Go.RowKit

def ClosedC (d : Nat) : Prop := ∀ (x : Value) (t : Tn d) (w : World), TyAt w w.heap.size d x t → (flat d t).length ≤ 4194304 → Calls Tryz.prog 46 #[x] w fun r w' => r = .returned (.bool (noVarB (flat d t))) ∧ Hid (Below w.heap.size w w')
theorem noVarB_false {l : List Nd} (h : ¬ NoVar l) : noVarB l = false := by
  cases hq : noVarB l with
  | false => rfl
  | true => exact absurd (noVarB_iff.1 hq) h
set_option maxHeartbeats 8000000 in
set_option maxRecDepth 10000 in
theorem closed_step (d : Nat) (ih : ClosedC d) : ClosedC (d + 1) := by
  intro x t w hx hN
  obtain ⟨u, rfl, hn1, hn2, hrow⟩ := hx
  obtain ⟨ad, cap, rfl, hcs⟩ := RowP.cells hrow
  obtain ⟨X, hX⟩ : ∃ X, X = w.heap.size := ⟨_, rfl⟩
  obtain ⟨W, hW⟩ : ∃ W, W = w.alloc (.cells #[.int .i64 t.1.1, .string ⟨t.1.2.toArray⟩, .slice ad t.2.length cap] 24) := ⟨_, rfl⟩
  have hBW : Below w.heap.size w W := by rw [hW]; exact (Below.refl _ _).alloc (Nat.le_refl _) _
  have hXW : W.heap[X]? = some (.cells #[.int .i64 t.1.1, .string ⟨t.1.2.toArray⟩, .slice ad t.2.length cap] 24 (0, 0)) := by rw [hW, hX]; exact new_blk _ _
  have e : flat (d + 1) t = (t.1.1, t.1.2, t.2.length) :: flats d t.2 := rfl
  have HNV : Hid (NoVar (flat (d + 1) t) ↔ t.1.1 ≠ 2 ∧ NoVar (flats d t.2)) := by
    rw [e]
    constructor
    · intro h
      exact ⟨h _ (List.mem_cons_self), fun y hy => h y (List.mem_cons_of_mem _ hy)⟩
    · rintro ⟨h1, h2⟩ y hy
      rcases List.mem_cons.1 hy with rfl | hy
      · exact h1
      · exact h2 y hy
  have HTK : Hid (∀ i (h : i < t.2.length), flats d (t.2.take (i + 1)) = flats d (t.2.take i) ++ flat d t.2[i]) := fun i h => by
    rw [List.take_succ_eq_append_getElem h, flats_app, flats_cons, flats_nil, List.append_nil]
  have HALL : Hid (flats d (t.2.take t.2.length) = flats d t.2) := by show _ = _; rw [List.take_length]
  have HSUB : Hid (∀ i (h : i < t.2.length), NoVar (flats d t.2) → NoVar (flat d t.2[i])) := fun i h hv y hy => hv y (by
    unfold flats
    exact List.mem_flatten.2 ⟨_, List.mem_map.2 ⟨t.2[i], List.getElem_mem h, rfl⟩, hy⟩)
  have HLEN : Hid (∀ i (h : i < t.2.length), (flat d t.2[i]).length ≤ 4194304) := fun i h => by
    have h1 : (flat d t.2[i]).length ≤ (flats d t.2).length := by
      have e1 : t.2 = t.2.take i ++ t.2[i] :: t.2.drop (i + 1) := by
        rw [List.getElem_cons_drop, List.take_append_drop]
      conv => rhs; rw [e1]
      rw [flats_app, flats_cons, List.length_append, List.length_append]
      omega
    rw [e, List.length_cons] at hN
    omega
  have HN2 : Hid (t.2.length ≤ 4194304) := by
    have := flats_ge d t.2
    rw [e, List.length_cons] at hN
    show _ ≤ _
    omega
  have HEL : Hid (∀ wr : World, Below W.heap.size W wr → wr.cell? ⟨X, 2, none⟩ = some (.slice ad t.2.length cap) ∧ ∀ i (h : i < t.2.length), ∃ g o k n a l c, ad = some ⟨g, o, none⟩ ∧ t.2.length ≤ cap ∧ wr.cell? ⟨g, o + i * 3, none⟩ = some (.int .i64 k) ∧ wr.cell? ⟨g, o + i * 3 + 1, none⟩ = some (.string n) ∧ wr.cell? ⟨g, o + i * 3 + 2, none⟩ = some (.slice a l c) ∧ Calls Tryz.prog 46 #[.agg #[.int .i64 k, .string n, .slice a l c]] wr fun r w' => r = .returned (.bool (noVarB (flat d t.2[i]))) ∧ Hid (Below wr.heap.size wr w')) := fun wr hwr => by
    have hbb : Below w.heap.size w wr := hBW.trans (hwr.mono hBW.size)
    refine ⟨heap_cl ((hwr.block X (lt_heap hXW)).trans hXW) rfl, fun i h => ?_⟩
    obtain ⟨g, o, h1, h2, h3, h4⟩ := hcs (fun q => by rw [q] at h; simp at h)
    obtain ⟨k, n, a, l, c, h5, h6⟩ := h4 i h
    obtain ⟨q0, q1, q2⟩ := h5 wr hbb
    exact ⟨g, o, k, n, a, l, c, h1, h2, q0, q1, q2, ih _ _ wr (TyAt.below hbb hbb.size _ _ _ h6) (HLEN.out i h)⟩
  have c0 : W.cell? ⟨X, 0, none⟩ = some (.int .i64 t.1.1) := heap_cl hXW rfl
  have HBW : Hid (Below w.heap.size w W) := hBW
  have HXE : Hid (X = w.heap.size) := hX
  clear hn1 hn2 hrow hcs hX hXW hBW hN e ih
  by_cases hk : t.1.1 = 2
  · have i0 : (t.1.1 == 2) = true := by simp [hk]
    have HE : Hid (noVarB (flat (d + 1) t) = false) := noVarB_false fun h => (HNV.out.1 h).1 hk
    clear hk
    go_enter Tryz.func46, Tryz.ntmps46
    go_upto_region 1 with fail
    rw [← hW, ← HXE.out]
    clear hW
    go_wp2
    go_ret
    exact ⟨by rw [HE.out]; rfl, HBW.out⟩
  · have i0 : (t.1.1 == 2) = false := by simp [hk]
    have HK : Hid (t.1.1 ≠ 2) := hk
    have hn2 := HN2.out
    clear hk
    go_enter Tryz.func46, Tryz.ntmps46
    go_upto_region 1 with fail
    rw [← hW, ← HXE.out]
    clear hW
    go_upto_region 4 with fail
    clear c0
    go_loopw [3] (fun iv wr => ∃ i : Nat, i ≤ t.2.length ∧ iv = .int .i64 i ∧ Hid (Below W.heap.size W wr) ∧ Hid (NoVar (flats d (t.2.take i)))) (fun iv _ => t.2.length - (intOf iv).toNat)
    case atStart => exact ⟨0, by omega, by go_num, Below.refl _ _, fun y hy => by simp [flats] at hy⟩
    case round =>
      obtain ⟨i, hi, rfl, HB, HI⟩ := hrel
      obtain ⟨q9, hel⟩ := HEL.out wr HB.out
      by_cases hil : i < t.2.length
      · obtain ⟨g, o, k2, n2, a2, l2, c2, rfl, hcap, q0, q1, q2, CC⟩ := hel i hil
        have i1 : (0 : Int) ≤ (i : Int) := by omega
        have i2 : (i : Int) < (t.2.length : Int) := by omega
        have HT1 := HTK.out i hil
        have HS1 := HSUB.out i hil
        replace HT1 : Hid (flats d (t.2.take (i + 1)) = flats d (t.2.take i) ++ flat d t.2[i]) := HT1
        replace HS1 : Hid (NoVar (flats d t.2) → NoVar (flat d t.2[i])) := HS1
        clear hel
        cases hb : noVarB (flat d t.2[i]) with
        | true =>
          rw [hb] at CC
          have HI2 : Hid (NoVar (flats d (t.2.take (i + 1)))) := by
            show NoVar _
            rw [HT1.out]
            exact NoVar.app.2 ⟨HI.out, noVarB_iff.1 hb⟩
          clear hb
          go_wp2_with (first | (go_at_call 46; (with_reducible refine Calls.mono CC ?_); rintro e' w2 ⟨rfl, HB2⟩))
          have HB3 : Hid (Below W.heap.size W w2) := HB.out.trans (HB2.out.mono HB.out.size)
          go_roundw
          case rel => exact ⟨i + 1, hil, by go_num, HB3.out, HI2.out⟩
          case measure => simp [intOf]; omega
        | false =>
          rw [hb] at CC
          have HE : Hid (noVarB (flat (d + 1) t) = false) := noVarB_false fun h => by
            have h2 := noVarB_iff.2 (HS1.out (HNV.out.1 h).2)
            rw [hb] at h2
            cases h2
          clear hb
          go_wp2_with (first | (go_at_call 46; (with_reducible refine Calls.mono CC ?_); rintro e' w2 ⟨rfl, HB2⟩))
          go_ret
          exact ⟨by rw [HE.out]; rfl, HBW.out.trans ((HB.out.trans (HB2.out.mono HB.out.size)).mono HBW.out.size)⟩
      · obtain rfl : i = t.2.length := by omega
        have HE : Hid (noVarB (flat (d + 1) t) = true) := noVarB_iff.2 (HNV.out.2 ⟨HK.out, by have h := HI.out; rw [HALL.out] at h; exact h⟩)
        clear hel
        go_wp2
        go_ret
        exact ⟨by rw [HE.out]; rfl, HBW.out.trans (HB.out.mono HBW.out.size)⟩
theorem closed_any : ∀ d, ClosedC d
  | 0 => fun _ _ _ h _ => h.elim
  | d + 1 => closed_step d (closed_any d)
end Go.Proofs.YtgdflaapgfpdeaaGreatDoor
