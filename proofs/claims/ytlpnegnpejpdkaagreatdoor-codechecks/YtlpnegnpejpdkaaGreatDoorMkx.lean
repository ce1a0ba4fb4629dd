/- textWriter: the lines that tell a constructor or a global, and a number of an instruction. opOf, operatorOf. textWriter: a number of an instruction. textWriter: the numbers of an instruction. textWriter: an instruction's line. textWriter: a table's text. -/
import Derived.Test.YtlpnegnpejpdkaaGreatDoorTc
import Derived.Test.YtlpnegnpejpdkaaGreatDoorKp
import Derived.Test.YtlpnegnpejpdkaaGreatDoorMgx
namespace Go.Proofs.YtlpnegnpejpdkaaGreatDoor
open Go.RowKit

def toldT (word name : Byt) (n : Int) : Byt := word ++ (nameT name ++ (numT n ++ [10]))
theorem nameT_len (s : Byt) : (nameT s).length ≤ 2 * s.length + 3 := by
  have := quot_len s
  unfold nameT
  rw [List.length_append, List.length_append]
  have h1 : ([32, 34] : Byt).length = 2 := rfl
  have h2 : ([34] : Byt).length = 1 := rfl
  omega
theorem toldT_len {word name : Byt} {n : Int} (hw : word.length ≤ 10) (hn : name.length ≤ 4096) (hi : i64 n) : (toldT word name n).length ≤ 8300 := by
  unfold toldT
  have := nameT_len name
  have := numT_len hi
  rw [List.length_append, List.length_append, List.length_append]
  have h2 : ([10] : Byt).length = 1 := rfl
  omega
set_option maxHeartbeats 8000000 in
set_option maxRecDepth 10000 in
theorem told_any {w : World} {P : Nat} {sv gv : Value} {l : Byt} {O : Option Nat} (h : TX w P sv gv l O) (hl : l.length ≤ 50000000) (hT : ∀ w', Below P w w' → Pt w') {word name : Byt} (hw : word.length ≤ 10) (hn : name.length ≤ 4096) {n : Int} (hi : i64 n) : Calls Tryz.prog 80 #[.pointer (some ⟨P, 0, none⟩), .string ⟨word.toArray⟩, .string ⟨name.toArray⟩, .int .i64 n] w fun r w' => TP w P sv gv l O (toldT word name n) r w' := by
  have C1 := put_any h word (by omega)
  have hnl := nameT_len name
  have hnu := numT_len hi
  have C2 : ∀ W l' O', TX W P sv gv l' O' → l'.length ≤ 60000000 → Calls Tryz.prog 107 #[.pointer (some ⟨P, 0, none⟩), .string ⟨name.toArray⟩] W fun r w' => TP W P sv gv l' O' (nameT name) r w' := fun W l' O' h1 h2 => tname_any h1 h2 hn
  have C3 : ∀ W l' O', Below P w W → TX W P sv gv l' O' → l'.length ≤ 70000000 → Calls Tryz.prog 108 #[.pointer (some ⟨P, 0, none⟩), .int .i64 n] W fun r w' => TP W P sv gv l' O' (numT n) r w' := fun W l' O' h0 h1 h2 => tnum_any h1 h2 (fun w' hb => hT w' (h0.trans hb)) hi
  have HE : Hid (toldT word name n = word ++ (nameT name ++ (numT n ++ [10]))) := rfl
  generalize toldT word name n = Z at *
  generalize nameT name = N at *
  generalize numT n = M at *
  clear h hT
  go_enter Tryz.func80, Tryz.ntmps80
  go_upto_region 1 with (go_at_call 106; (with_reducible refine Calls.mono C1 ?_); rintro e2 w2 ⟨rfl, H2⟩)
  obtain ⟨O2, k1, k2⟩ := H2.out
  have C2' := C2 w2 _ O2 k1 (by rw [List.length_append]; omega)
  have HK2 : Hid (TO w P O w2 O2) := k2
  clear C1 C2 k1 k2 H2
  go_upto_region 2 with (go_at_call 107; (with_reducible refine Calls.mono C2' ?_); rintro e3 w3 ⟨rfl, H3⟩)
  obtain ⟨O3, k1, k2⟩ := H3.out
  have HK3 : Hid (TO w P O w3 O3) := HK2.out.trans k2
  have C3' := C3 w3 _ O3 HK3.out.bel k1 (by rw [List.length_append, List.length_append]; omega)
  clear C2' C3 k1 k2 H3 HK2
  go_upto_region 3 with (go_at_call 108; (with_reducible refine Calls.mono C3' ?_); rintro e4 w4 ⟨rfl, H4⟩)
  obtain ⟨O4, k1, k2⟩ := H4.out
  have HK4 : Hid (TO w P O w4 O4) := HK3.out.trans k2
  have C4 := put_any k1 [10] (by rw [List.length_append, List.length_append, List.length_append]; have h2 : ([10] : Byt).length = 1 := rfl; omega)
  clear C3' k1 k2 H4 HK3
  go_wp2_with (go_at_call 106; (with_reducible refine Calls.mono C4 ?_); rintro e5 w5 ⟨rfl, H5⟩)
  refine bodyPost_end (v := .tuple #[]) (by simp [results, Tryz.results80, go_sem]) rfl ?_
  obtain ⟨O5, k1, k2⟩ := H5.out
  refine ⟨rfl, O5, ?_, HK4.out.trans k2⟩
  rw [HE.out]
  simp only [List.append_assoc] at k1 ⊢
  exact k1

/-! What the writer may ask of memory, whenever. -/
def opsP : List Byt := [[], [43], [45], [42], [47], [37], [61, 61], [47, 61], [60], [60, 61], [62], [62, 61]]
structure OpsAt (w : World) (od : Option Addr) (ocap : Nat) : Prop where
  cell : w.cell? ⟨2, 0, none⟩ = some (.slice od 12 ocap)
  row : ∀ i, i < 12 → ∃ g o, od = some ⟨g, o, none⟩ ∧ 12 ≤ ocap ∧ g < w.heap.size ∧ w.cell? ⟨g, o + i, none⟩ = some (.string ⟨(opsP.getD i []).toArray⟩)
theorem OpsAt.below {w w' : World} {od : Option Addr} {ocap : Nat} (h : OpsAt w od ocap) (hb : Below w.heap.size w w') : OpsAt w' od ocap := by
  refine ⟨(hb.cell (p := ⟨2, 0, none⟩) (World.block_lt_of_cell? w _ h.cell)).trans h.cell, fun i hi => ?_⟩
  obtain ⟨g, o, e, hc, hg, q1⟩ := h.row i hi
  exact ⟨g, o, e, hc, Nat.lt_of_lt_of_le hg hb.size, (hb.cell (p := ⟨g, o + i, none⟩) hg).trans q1⟩
theorem Tryz.powG : Tryz.prog.globalNamed "internal/strconv.uint64pow10" = some 6 := by kernel_rfl
theorem Pt.below {w w' : World} (h : Pt w) (hb : Below w.heap.size w w') : Pt w' := Go.Joins.tab_stays Tryz.powG h hb (Nat.le_refl _)
structure PB (w : World) (sv gv : Value) (t : Tab) : Prop where
  ck : CkIn w sv gv t
  ops : ∃ od ocap, OpsAt w od ocap
  pt : Pt w
theorem PB.below {w w' : World} {sv gv : Value} {t : Tab} (h : PB w sv gv t) (hb : Below w.heap.size w w') : PB w' sv gv t := by
  obtain ⟨od, ocap, ho⟩ := h.ops
  exact ⟨h.ck.below hb, ⟨od, ocap, ho.below hb⟩, h.pt.below hb⟩
/-- The same, whatever is written from P on. -/
def PIn (w : World) (P : Nat) (sv gv : Value) (t : Tab) : Prop := ∃ w0, w0.heap.size ≤ P ∧ Below w0.heap.size w0 w ∧ PB w0 sv gv t
theorem PIn.on {w w' : World} {P : Nat} {sv gv : Value} {t : Tab} (h : PIn w P sv gv t) (hb : Below P w w') : PIn w' P sv gv t := by
  obtain ⟨w0, h1, h2, h3⟩ := h
  exact ⟨w0, h1, h2.trans (hb.mono h1), h3⟩
theorem PIn.pb {w : World} {P : Nat} {sv gv : Value} {t : Tab} (h : PIn w P sv gv t) : PB w sv gv t := by
  obtain ⟨w0, h1, h2, h3⟩ := h
  exact h3.below h2
end Go.Proofs.YtlpnegnpejpdkaaGreatDoor

namespace Go.Proofs.YtlpnegnpejpdkaaGreatDoor
open Go.RowKit

def seekF (L : List Byt) : Nat → Nat → Byt → Nat
  | 0, _, _ => 0
  | n + 1, i, a => if L.getD i [] = a ∧ a ≠ [] then i else seekF L n (i + 1) a
def opOfP (a : Byt) : Nat := seekF wordsP 18 0 a
def oprOfP (a : Byt) : Nat := seekF opsP 12 0 a
set_option maxHeartbeats 8000000 in
set_option maxRecDepth 10000 in
theorem opOf_any {w : World} {rd : Option Addr} {rcap : Nat} (hR : RowsAt w rd rcap) (a : Byt) : Calls Tryz.prog 115 #[.string ⟨a.toArray⟩] w fun r w' => r = .returned (.int .i64 (opOfP a : Nat)) ∧ Hid (Below w.heap.size w w') := by
  obtain ⟨Z, hZ⟩ : ∃ Z, Z = opOfP a := ⟨_, rfl⟩
  rw [← hZ]
  have HZ : Hid (seekF wordsP (18 - 0) 0 a = Z) := hZ.symm
  have HR : Hid (∀ w2, Below w.heap.size w w2 → RowsAt w2 rd rcap) := fun w2 hb => hR.below hb
  have r0 := hR.cell
  clear hZ hR
  go_enter Tryz.func115, Tryz.ntmps115
  go_upto_region 2 with fail
  go_loopw [7] (fun iv wr => ∃ j : Nat, j ≤ 18 ∧ iv = .int .i64 j ∧ Hid (Below w.heap.size w wr) ∧ Hid (seekF wordsP (18 - j) j a = Z)) (fun iv _ => 18 - (intOf iv).toNat)
  case atStart => exact ⟨0, by omega, by go_num, Below.refl _ _, HZ.out⟩
  case round =>
    clear HZ r0
    obtain ⟨j, hj, rfl, HB, HT⟩ := hrel
    by_cases hlt : j < 18
    · obtain ⟨g, o, rfl, hc, hg, c0, c1, c2⟩ := (HR.out wr HB.out).row j hlt
      have i1 : (0 : Int) ≤ (j : Int) := by omega
      have i2 : (j : Int) < 18 := by omega
      have HS : Hid (seekF wordsP (18 - j) j a = if wordsP.getD j [] = a ∧ a ≠ [] then j else seekF wordsP (18 - (j + 1)) (j + 1) a) := by
        show _ = _
        rw [show 18 - j = (18 - (j + 1)) + 1 by omega]
        rfl
      obtain ⟨wd, hwd⟩ : ∃ wd, wd = wordsP.getD j [] := ⟨_, rfl⟩
      rw [← hwd] at c0 HS
      have HB2 : Hid (Below w.heap.size w wr) := HB.out
      clear hwd
      by_cases he : wd = a
      · by_cases hn : a = []
        · have HE : Hid (seekF wordsP (18 - (j + 1)) (j + 1) a = Z) := by show _ = _; rw [← HT.out, HS.out, if_neg (fun h => h.2 hn)]
          subst hn
          subst he
          clear HS HT
          go_wp2
          go_roundw
          case rel => exact ⟨j + 1, by omega, by go_num, HB2.out.trans ((Below.refl _ _).alloc HB2.out.size _), HE.out⟩
          case measure => simp [intOf]; omega
        · have HE : Hid (Z = j) := by show _ = _; rw [← HT.out, HS.out, if_pos ⟨he, hn⟩]
          subst he
          clear HS HT
          have qn : wd.isEmpty = false := by
            cases wd with
            | nil => exact absurd rfl hn
            | cons _ _ => rfl
          go_wp2
          go_ret
          exact ⟨by rw [HE.out]; rfl, HB2.out.trans ((Below.refl _ _).alloc HB2.out.size _)⟩
      · have HE : Hid (seekF wordsP (18 - (j + 1)) (j + 1) a = Z) := by show _ = _; rw [← HT.out, HS.out, if_neg (fun h => he h.1)]
        have qe : (wd == a) = false := beq_eq_false_iff_ne.2 he
        clear HS HT
        go_wp2
        go_roundw
        case rel => exact ⟨j + 1, by omega, by go_num, HB2.out.trans ((Below.refl _ _).alloc HB2.out.size _), HE.out⟩
        case measure => simp [intOf]; omega
    · have e3 : ¬ ((j : Int) < 18) := by omega
      have HE : Hid (Z = 0) := by
        have := HT.out
        rw [show 18 - j = 0 by omega] at this
        exact this.symm
      go_wp2
      go_ret
      exact ⟨by rw [HE.out]; rfl, HB.out⟩
set_option maxHeartbeats 8000000 in
set_option maxRecDepth 10000 in
theorem oprOf_any {w : World} {rd : Option Addr} {rcap : Nat} (hR : OpsAt w rd rcap) (a : Byt) : Calls Tryz.prog 134 #[.string ⟨a.toArray⟩] w fun r w' => r = .returned (.int .i64 (oprOfP a : Nat)) ∧ Hid (Below w.heap.size w w') := by
  obtain ⟨Z, hZ⟩ : ∃ Z, Z = oprOfP a := ⟨_, rfl⟩
  rw [← hZ]
  have HZ : Hid (seekF opsP (12 - 0) 0 a = Z) := hZ.symm
  have HR : Hid (∀ w2, Below w.heap.size w w2 → OpsAt w2 rd rcap) := fun w2 hb => hR.below hb
  have r0 := hR.cell
  clear hZ hR
  go_enter Tryz.func134, Tryz.ntmps134
  go_upto_region 2 with fail
  go_loopw [7] (fun iv wr => ∃ j : Nat, j ≤ 12 ∧ iv = .int .i64 j ∧ Hid (Below w.heap.size w wr) ∧ Hid (seekF opsP (12 - j) j a = Z)) (fun iv _ => 12 - (intOf iv).toNat)
  case atStart => exact ⟨0, by omega, by go_num, Below.refl _ _, HZ.out⟩
  case round =>
    clear HZ r0
    obtain ⟨j, hj, rfl, HB, HT⟩ := hrel
    by_cases hlt : j < 12
    · obtain ⟨g, o, rfl, hc, hg, c0⟩ := (HR.out wr HB.out).row j hlt
      have i1 : (0 : Int) ≤ (j : Int) := by omega
      have i2 : (j : Int) < 12 := by omega
      have HS : Hid (seekF opsP (12 - j) j a = if opsP.getD j [] = a ∧ a ≠ [] then j else seekF opsP (12 - (j + 1)) (j + 1) a) := by
        show _ = _
        rw [show 12 - j = (12 - (j + 1)) + 1 by omega]
        rfl
      obtain ⟨wd, hwd⟩ : ∃ wd, wd = opsP.getD j [] := ⟨_, rfl⟩
      rw [← hwd] at c0 HS
      have HB2 : Hid (Below w.heap.size w wr) := HB.out
      clear hwd
      by_cases he : wd = a
      · by_cases hn : a = []
        · have HE : Hid (seekF opsP (12 - (j + 1)) (j + 1) a = Z) := by show _ = _; rw [← HT.out, HS.out, if_neg (fun h => h.2 hn)]
          subst hn
          subst he
          clear HS HT
          go_wp2
          go_roundw
          case rel => exact ⟨j + 1, by omega, by go_num, HB2.out, HE.out⟩
          case measure => simp [intOf]; omega
        · have HE : Hid (Z = j) := by show _ = _; rw [← HT.out, HS.out, if_pos ⟨he, hn⟩]
          subst he
          clear HS HT
          have qn : wd.isEmpty = false := by
            cases wd with
            | nil => exact absurd rfl hn
            | cons _ _ => rfl
          go_wp2
          go_ret
          exact ⟨by rw [HE.out]; rfl, HB2.out⟩
      · have HE : Hid (seekF opsP (12 - (j + 1)) (j + 1) a = Z) := by show _ = _; rw [← HT.out, HS.out, if_neg (fun h => he h.1)]
        have qe : (wd == a) = false := beq_eq_false_iff_ne.2 he
        clear HS HT
        go_wp2
        go_roundw
        case rel => exact ⟨j + 1, by omega, by go_num, HB2.out, HE.out⟩
        case measure => simp [intOf]; omega
    · have e3 : ¬ ((j : Int) < 12) := by omega
      have HE : Hid (Z = 0) := by
        have := HT.out
        rw [show 12 - j = 0 by omega] at this
        exact this.symm
      go_wp2
      go_ret
      exact ⟨by rw [HE.out]; rfl, HB.out⟩
end Go.Proofs.YtlpnegnpejpdkaaGreatDoor

namespace Go.Proofs.YtlpnegnpejpdkaaGreatDoor
open Go.RowKit

/-- How a number of an instruction is written. -/
def pargT (t : Tab) (k : Nat) (n : Int) : Byt :=
  if k = 4 then nameT (t.1.getD n.toNat ([], 0)).1 else if k = 5 then nameT (t.2.getD n.toNat ([], 0, [])).1 else if k = 6 then [32] ++ opsP.getD n.toNat [] else numT n
/-- Numbers that can be written. -/
structure POk (t : Tab) (k : Nat) (n : Int) : Prop where
  shp : k = 4 → 0 ≤ n ∧ n < t.1.length
  glb : k = 5 → 0 ≤ n ∧ n < t.2.length
  ops : k = 6 → 1 ≤ n ∧ n ≤ 11
  num : i64 n
/-- Names that can be written. -/
def NmOk (t : Tab) : Prop := (∀ s ∈ t.1, s.1.length ≤ 4096) ∧ ∀ g ∈ t.2, g.1.length ≤ 4096
theorem parg_len {t : Tab} (hn : NmOk t) {k : Nat} {n : Int} (h : POk t k n) : (pargT t k n).length ≤ 8200 := by
  unfold pargT
  split
  · rename_i hk
    obtain ⟨h1, h2⟩ := h.shp hk
    have hl : n.toNat < t.1.length := by omega
    have := nameT_len (t.1.getD n.toNat ([], 0)).1
    have h3 : (t.1.getD n.toNat ([], 0)).1.length ≤ 4096 := by
      rw [List.getD_eq_getElem?_getD, List.getElem?_eq_getElem hl]
      exact hn.1 _ (List.getElem_mem hl)
    omega
  · split
    · rename_i hk
      obtain ⟨h1, h2⟩ := h.glb hk
      have hl : n.toNat < t.2.length := by omega
      have := nameT_len (t.2.getD n.toNat ([], 0, [])).1
      have h3 : (t.2.getD n.toNat ([], 0, [])).1.length ≤ 4096 := by
        rw [List.getD_eq_getElem?_getD, List.getElem?_eq_getElem hl]
        exact hn.2 _ (List.getElem_mem hl)
      omega
    · split
      · rename_i hk
        obtain ⟨h1, h2⟩ := h.ops hk
        have : ∀ i, i < 12 → (opsP.getD i []).length ≤ 2 := by decide
        have := this n.toNat (by omega)
        rw [List.length_append]
        have h3 : ([32] : Byt).length = 1 := rfl
        omega
      · have := numT_len h.num
        omega
set_option maxHeartbeats 16000000 in
set_option maxRecDepth 10000 in
theorem targ_any {w : World} {P : Nat} {sv gv : Value} {t : Tab} {l : Byt} {O : Option Nat} (h : TX w P sv gv l O) (hI : PIn w P sv gv t) (hl : l.length ≤ 50000000) (hnm : NmOk t) {k : Nat} {n : Int} (hk : POk t k n) : Calls Tryz.prog 109 #[.pointer (some ⟨P, 0, none⟩), .int .i64 (k : Int), .int .i64 n] w fun r w' => TP w P sv gv l O (pargT t k n) r w' := by
  obtain ⟨v, hP, O1, hO⟩ := id h
  have p0 : w.cell? ⟨P, 0, none⟩ = some sv := heap_cl hP rfl
  have p1 : w.cell? ⟨P, 1, none⟩ = some gv := heap_cl hP rfl
  by_cases h4 : k = 4
  · obtain ⟨a1, a2⟩ := hk.shp h4
    obtain ⟨m, rfl⟩ : ∃ m : Nat, n = (m : Int) := ⟨n.toNat, by omega⟩
    have hm : m < t.1.length := by omega
    obtain ⟨ad, cap, rfl, hat⟩ := shp_at hI.pb.ck.tab.shp
    obtain ⟨g, o, rfl, hg, hc, c0, c1, _⟩ := hat m hm
    have CN := tname_any h (by omega) (hnm.1 _ (List.getElem_mem hm))
    have HE : Hid (pargT t k (m : Int) = nameT t.1[m].1) := by
      show _ = _
      unfold pargT
      rw [if_pos h4, Int.toNat_natCast, List.getD_eq_getElem?_getD, List.getElem?_eq_getElem hm]
      rfl
    have i1 : (0 : Int) ≤ (m : Int) := by omega
    have i2 : (m : Int) < (t.1.length : Int) := by omega
    rw [HE.out]
    subst h4
    generalize t.1[m].1 = nm at *
    clear h hI hk hat hnm HE hP O1 c1
    go_enter Tryz.func109, Tryz.ntmps109
    go_wp2_with (go_at_call 107; (with_reducible refine Calls.mono CN ?_); rintro e2 w2 ⟨rfl, H2⟩)
    refine bodyPost_end (v := .tuple #[]) (by simp [results, Tryz.results109, go_sem]) rfl ?_
    exact ⟨rfl, H2.out⟩
  · by_cases h5 : k = 5
    · obtain ⟨a1, a2⟩ := hk.glb h5
      obtain ⟨m, rfl⟩ : ∃ m : Nat, n = (m : Int) := ⟨n.toNat, by omega⟩
      have hm : m < t.2.length := by omega
      obtain ⟨ad, cap, rfl, hat⟩ := glb_at hI.pb.ck.tab.glb
      obtain ⟨g, o, cv, rfl, hg, hc, c0, c1, _⟩ := hat m hm
      have CN := tname_any h (by omega) (hnm.2 _ (List.getElem_mem hm))
      have HE : Hid (pargT t k (m : Int) = nameT t.2[m].1) := by
        show _ = _
        unfold pargT
        rw [if_neg h4, if_pos h5, Int.toNat_natCast, List.getD_eq_getElem?_getD, List.getElem?_eq_getElem hm]
        rfl
      have i1 : (0 : Int) ≤ (m : Int) := by omega
      have i2 : (m : Int) < (t.2.length : Int) := by omega
      rw [HE.out]
      subst h5
      generalize t.2[m].1 = nm at *
      clear h hI hk hat hnm HE hP O1 c1 h4
      go_enter Tryz.func109, Tryz.ntmps109
      go_wp2_with (go_at_call 107; (with_reducible refine Calls.mono CN ?_); rintro e2 w2 ⟨rfl, H2⟩)
      refine bodyPost_end (v := .tuple #[]) (by simp [results, Tryz.results109, go_sem]) rfl ?_
      exact ⟨rfl, H2.out⟩
    · by_cases h6 : k = 6
      · obtain ⟨a1, a2⟩ := hk.ops h6
        obtain ⟨m, rfl⟩ : ∃ m : Nat, n = (m : Int) := ⟨n.toNat, by omega⟩
        have C1 := put_any h [32] (by show _ + 1 ≤ _; omega)
        have HE : Hid (pargT t k (m : Int) = [32] ++ opsP.getD m []) := by
          show _ = _
          unfold pargT
          rw [if_neg h4, if_neg h5, if_pos h6, Int.toNat_natCast]
        have hol : (opsP.getD m []).length ≤ 2 := by
          have : ∀ i, i < 12 → (opsP.getD i []).length ≤ 2 := by decide
          exact this m (by omega)
        have i1 : (0 : Int) ≤ (m : Int) := by omega
        have i2 : (m : Int) < 12 := by omega
        have HIN : Hid (PIn w P sv gv t) := hI
        rw [HE.out]
        subst h6
        obtain ⟨nm, hnmE⟩ : ∃ nm, nm = opsP.getD m [] := ⟨_, rfl⟩
        rw [← hnmE] at hol ⊢
        have HNE : Hid (nm = opsP.getD m []) := hnmE
        clear hnmE
        clear h hI hk hnm HE hP O1 h4 h5 p0 p1
        go_enter Tryz.func109, Tryz.ntmps109
        go_upto_region 8 with (go_at_call 106; (with_reducible refine Calls.mono C1 ?_); rintro e2 w2 ⟨rfl, H2⟩)
        obtain ⟨O2, k1, k2⟩ := H2.out
        obtain ⟨od, ocap, hops⟩ := (HIN.out.on k2.bel).pb.ops
        have r0 := hops.cell
        obtain ⟨g, o, rfl, hc, hg, c0⟩ := hops.row m (by omega)
        rw [← HNE.out] at c0
        have C2 := put_any k1 nm (by rw [List.length_append]; have h1 : ([32] : Byt).length = 1 := rfl; omega)
        have HK : Hid (TO w P O w2 O2) := k2
        clear k1 k2 hops H2 C1
        go_wp2_with (go_at_call 106; (with_reducible refine Calls.mono C2 ?_); rintro e3 w3 ⟨rfl, H3⟩)
        refine bodyPost_end (v := .tuple #[]) (by simp [results, Tryz.results109, go_sem]) rfl ?_
        exact TP.step HK.out ⟨rfl, H3.out⟩
      · have CN := tnum_any h (by omega) (fun w' hb => (hI.on hb).pb.pt) hk.num
        have HE : Hid (pargT t k n = numT n) := by
          show _ = _
          unfold pargT
          rw [if_neg h4, if_neg h5, if_neg h6]
        have e4 : ((k : Int) == 4) = false := by simp; omega
        have e5 : ((k : Int) == 5) = false := by simp; omega
        have e6 : ((k : Int) == 6) = false := by simp; omega
        rw [HE.out]
        clear h hI hk hnm HE hP O1 h4 h5 h6 p0 p1
        go_enter Tryz.func109, Tryz.ntmps109
        go_wp2_with (go_at_call 108; (with_reducible refine Calls.mono CN ?_); rintro e2 w2 ⟨rfl, H2⟩)
        refine bodyPost_end (v := .tuple #[]) (by simp [results, Tryz.results109, go_sem]) rfl ?_
        exact ⟨rfl, H2.out⟩
end Go.Proofs.YtlpnegnpejpdkaaGreatDoor

namespace Go.Proofs.YtlpnegnpejpdkaaGreatDoor
open Go.RowKit

def restT (t : Tab) (x : Ins) : Byt := if kindB x.1 ≠ 0 then pargT t (kindA x.1) x.2.1 ++ pargT t (kindB x.1) x.2.2 else if kindA x.1 ≠ 0 then pargT t (kindA x.1) x.2.1 else []
/-- Instructions that can be written. -/
structure IOk (t : Tab) (x : Ins) : Prop where
  op : isOpP x.1 = true
  a : kindA x.1 ≠ 0 → POk t (kindA x.1) x.2.1
  b : kindB x.1 ≠ 0 → POk t (kindB x.1) x.2.2
theorem kindB_A (i : Nat) (h : kindB (i : Int) ≠ 0) : kindA (i : Int) ≠ 0 := by
  have h2 : ∀ j, j < 18 → (kindsP.getD j (0, 0)).2 ≠ 0 → (kindsP.getD j (0, 0)).1 ≠ 0 := by decide
  by_cases hi : i < 18
  · exact h2 i hi h
  · exfalso
    apply h
    show (kindsP.getD i (0, 0)).2 = 0
    rw [List.getD_eq_getElem?_getD, List.getElem?_eq_none (by show 18 ≤ i; omega)]
    rfl
set_option maxHeartbeats 16000000 in
set_option maxRecDepth 10000 in
theorem teach_any {w : World} {P : Nat} {sv gv : Value} {t : Tab} {l : Byt} {O : Option Nat} (h : TX w P sv gv l O) (hI : PIn w P sv gv t) (hl : l.length ≤ 40000000) (hnm : NmOk t) (x : Ins) (hx : IOk t x) :
    Calls Tryz.prog 94 #[.agg #[.int .i64 x.1, .int .i64 x.2.1, .int .i64 x.2.2], .func (.func 109) #[.pointer (some ⟨P, 0, none⟩)] #[]] w fun r w' => TP w P sv gv l O (restT t x) r w' := by
  obtain ⟨op, a, b⟩ := x
  obtain ⟨hop, oa, ob⟩ := hx
  have hop2 := op_range hop
  simp only at hop oa ob
  obtain ⟨i, rfl⟩ : ∃ i : Nat, op = (i : Int) := ⟨op.toNat, by omega⟩
  obtain ⟨X, hX⟩ : ∃ X, X = w.heap.size := ⟨_, rfl⟩
  obtain ⟨W, hW⟩ : ∃ W, W = w.alloc (.cells #[.int .i64 (i : Int), .int .i64 a, .int .i64 b] 53) := ⟨_, rfl⟩
  have hBW : Below w.heap.size w W := by rw [hW]; exact (Below.refl _ _).alloc (Nat.le_refl _) _
  have hXW : W.heap[X]? = some (.cells #[.int .i64 (i : Int), .int .i64 a, .int .i64 b] 53 (0, 0)) := by rw [hW, hX]; exact new_blk _ _
  have hPX : P < X := by rw [hX]; exact h.lt.1
  have hOX : O ≠ some X := fun e => by have := (h.lt.2 X e).2; omega
  have HM : Hid (manyP (i : Int) = if kindB (i : Int) ≠ 0 then 2 else if kindA (i : Int) ≠ 0 then 1 else 0) := rfl
  obtain ⟨R, hRR⟩ : ∃ R, R = restT t ((i : Int), a, b) := ⟨_, rfl⟩
  rw [← hRR]
  have HRW : Hid (R = if kindB (i : Int) ≠ 0 then pargT t (kindA (i : Int)) a ++ pargT t (kindB (i : Int)) b else if kindA (i : Int) ≠ 0 then pargT t (kindA (i : Int)) a else []) := hRR
  clear hRR
  obtain ⟨k1, k2⟩ := kinds_at (i := i) rfl
  obtain ⟨rd0, rcap0, hr0⟩ := hI.pb.ck.rows
  have hrd : ∀ w2 : World, Below P w w2 → RowsAt w2 rd0 rcap0 := fun w2 hb => by
    obtain ⟨w0, h1, h2, h3⟩ := hI
    obtain ⟨rd, rcap, hr⟩ := h3.ck.rows
    have e1 := (hr.below h2).cell
    have e2 := hr0.cell
    rw [e1] at e2
    have e3 := Option.some.inj e2
    obtain ⟨rfl, -, rfl⟩ := Value.slice.inj e3
    exact hr.below (h2.trans (hb.mono h1))
  have HALL : Hid (∀ w2 : World, Below P w w2 → w2.heap[X]? = some (.cells #[.int .i64 (i : Int), .int .i64 a, .int .i64 b] 53 (0, 0)) →
      w2.cell? ⟨X, 0, none⟩ = some (.int .i64 (i : Int)) ∧ w2.cell? ⟨X, 1, none⟩ = some (.int .i64 a) ∧ w2.cell? ⟨X, 2, none⟩ = some (.int .i64 b) ∧ w2.cell? ⟨1, 0, none⟩ = some (.slice rd0 18 rcap0) ∧ (∃ g o, rd0 = some ⟨g, o, none⟩ ∧ 18 ≤ rcap0 ∧ w2.cell? ⟨g, o + i * 3 + 1, none⟩ = some (.int .i64 (kindA (i : Int) : Nat)) ∧ w2.cell? ⟨g, o + i * 3 + 2, none⟩ = some (.int .i64 (kindB (i : Int) : Nat))) ∧ Calls Tryz.prog 118 #[.int .i64 (i : Int)] w2 fun r w' => r = .returned (.int .i64 (manyP (i : Int))) ∧ w' = w2) := fun w2 hb hx => by
    have hr := hrd w2 hb
    obtain ⟨g, o, e1, e2, _, _, e3, e4⟩ := hr.row i (by omega)
    rw [← k1] at e3
    rw [← k2] at e4
    exact ⟨heap_cl hx rfl, heap_cl hx rfl, heap_cl hx rfl, hr.cell, ⟨g, o, e1, e2, e3, e4⟩, numbers_any hr _ hop⟩
  have hTW := h.on hBW
  have hTD := hTW.1.on ((Below.refl W.heap.size W).drew)
  have HST : Hid (TX W.drew P sv gv l O ∧ TO w P O W.drew O ∧ W.drew.heap[X]? = some (.cells #[.int .i64 (i : Int), .int .i64 a, .int .i64 b] 53 (0, 0))) := ⟨hTD.1, hTW.2.trans hTD.2, hXW⟩
  have HPI : Hid (∀ w2 : World, Below P w w2 → PIn w2 P sv gv t) := fun w2 hb => hI.on hb
  obtain ⟨x0, x1, x2, r0, ⟨g, o, rfl, hc, q1, q2⟩, CN0⟩ := HALL.out W hTW.2.bel hXW
  obtain ⟨y0, y1, y2, s0, _, CN⟩ := HALL.out W.drew HST.out.2.1.bel HST.out.2.2
  have HXE : Hid (X = w.heap.size) := hX
  have i1 : (0 : Int) ≤ (i : Int) := by omega
  have i2 : (i : Int) < 18 := by omega
  have HOA : Hid (kindA (i : Int) ≠ 0 → POk t (kindA (i : Int)) a) := oa
  have HOB : Hid (kindB (i : Int) ≠ 0 → POk t (kindB (i : Int)) b) := ob
  have HBA : Hid (kindB (i : Int) ≠ 0 → kindA (i : Int) ≠ 0) := kindB_A i
  have HNM : Hid (NmOk t) := hnm
  clear hX hXW hBW hI h k1 k2 hop hop2 CN0 oa ob hnm hTW hTD hrd hr0
  go_enter Tryz.func94, Tryz.ntmps94
  go_upto_region 1 with fail
  rw [← hW, ← HXE.out]
  clear hW
  go_region
  all_goals
    go_upto_region 3 with (go_at_call 118; (with_reducible refine Calls.mono CN ?_); rintro e2 w2 ⟨rfl, hw⟩; obtain rfl := hw.symm; clear hw)
    have HAR : Hid (∀ (w1 : World) (l1 : Byt) (O1 : Option Nat), kindA (i : Int) ≠ 0 → TX w1 P sv gv l1 O1 → Below P w w1 → l1.length ≤ 50000000 → Calls Tryz.prog 109 #[.pointer (some ⟨P, 0, none⟩), .int .i64 (kindA (i : Int) : Nat), .int .i64 a] w1 fun r w' => TP w1 P sv gv l1 O1 (pargT t (kindA (i : Int)) a) r w') := fun w1 l1 O1 h0 h1 h2 h3 => targ_any h1 (HPI.out w1 h2) h3 HNM.out (HOA.out h0)
    have HBR : Hid (∀ (w1 : World) (l1 : Byt) (O1 : Option Nat), kindB (i : Int) ≠ 0 → TX w1 P sv gv l1 O1 → Below P w w1 → l1.length ≤ 50000000 → Calls Tryz.prog 109 #[.pointer (some ⟨P, 0, none⟩), .int .i64 (kindB (i : Int) : Nat), .int .i64 b] w1 fun r w' => TP w1 P sv gv l1 O1 (pargT t (kindB (i : Int)) b) r w') := fun w1 l1 O1 h0 h1 h2 h3 => targ_any h1 (HPI.out w1 h2) h3 HNM.out (HOB.out h0)
    have HAL : Hid (kindA (i : Int) ≠ 0 → (pargT t (kindA (i : Int)) a).length ≤ 8200) := fun h0 => parg_len HNM.out (HOA.out h0)
    clear HOA HOB CN q1 q2 x0 x1 x2 r0 y0 y1 y2 s0 HPI HNM
    generalize W.drew = V at *
    clear W
    generalize pargT t (kindA (i : Int)) a = la at *
    generalize pargT t (kindB (i : Int)) b = lb at *
    generalize manyP (i : Int) = M at *
    generalize kindA (i : Int) = ka at *
    generalize kindB (i : Int) = kb at *
    by_cases hb : kb = 0
    · by_cases ha : ka = 0
      · have hM : M = 0 := by rw [HM.out, if_neg (by simp [hb]), if_neg (by simp [ha])]
        have HRE : Hid (R = []) := by show _ = _; rw [HRW.out, if_neg (by simp [hb]), if_neg (by simp [ha])]
        subst hM
        clear HM HRW
        go_wp2
        refine bodyPost_end (v := .tuple #[]) (by simp [results, Tryz.results94, go_sem]) rfl ?_
        rw [HRE.out]
        exact ⟨rfl, O, by rw [List.append_nil]; exact HST.out.1, HST.out.2.1⟩
      · have hM : M = 1 := by rw [HM.out, if_neg (by simp [hb]), if_pos ha]
        have HRE : Hid (R = la) := by show _ = _; rw [HRW.out, if_neg (by simp [hb]), if_pos ha]
        have CA := HAR.out V l O ha HST.out.1 HST.out.2.1.bel (by omega)
        subst hM
        clear HM HRW
        go_wp2_with (go_at_call 109; (with_reducible refine Calls.mono CA ?_); rintro e3 w3 ⟨rfl, HH⟩)
        refine bodyPost_end (v := .tuple #[]) (by simp [results, Tryz.results94, go_sem]) rfl ?_
        rw [HRE.out]
        obtain ⟨O3, k1, k2⟩ := HH.out
        exact ⟨rfl, O3, k1, HST.out.2.1.trans k2⟩
    · have hM : M = 2 := by rw [HM.out, if_pos hb]
      have ha := HBA.out hb
      have HRE : Hid (R = la ++ lb) := by show _ = _; rw [HRW.out, if_pos hb]
      have CA := HAR.out V l O ha HST.out.1 HST.out.2.1.bel (by omega)
      subst hM
      clear HM HRW
      go_upto_region 6 with (go_at_call 109; (with_reducible refine Calls.mono CA ?_); rintro e3 w3 ⟨rfl, HH⟩)
      obtain ⟨O3, k1, k2⟩ := HH.out
      have hX3 : w3.heap[X]? = some (.cells #[.int .i64 (i : Int), .int .i64 a, .int .i64 b] 53 (0, 0)) := (k2.kept X (lt_heap HST.out.2.2) (by omega) hOX).trans HST.out.2.2
      have hb3 := HST.out.2.1.trans k2
      have hd3 := k1.on ((Below.refl w3.heap.size w3).drew)
      have hb4 := hb3.trans hd3.2
      obtain ⟨x0, x1, x2, r0, ⟨g2, o2, e, _, q1, q2⟩, _⟩ := HALL.out w3 hb3.bel hX3
      obtain ⟨rfl, rfl⟩ : g = g2 ∧ o = o2 := by simpa using e
      have CB := HBR.out w3.drew (l ++ la) O3 hb hd3.1 hb4.bel (by have := HAL.out ha; rw [List.length_append]; omega)
      have HF : Hid (TO w P O w3.drew O3) := hb4
      clear hX3 hb3 hb4 hd3 HALL HST CA e HAR HBR k1 k2 HH
      go_region
      all_goals
        go_wp2_with (go_at_call 109; (with_reducible refine Calls.mono CB ?_); rintro e4 w4 ⟨rfl, H4⟩)
        refine bodyPost_end (v := .tuple #[]) (by simp [results, Tryz.results94, go_sem]) rfl ?_
        rw [HRE.out]
        exact TP.step HF.out ⟨rfl, H4.out⟩
end Go.Proofs.YtlpnegnpejpdkaaGreatDoor

namespace Go.Proofs.YtlpnegnpejpdkaaGreatDoor
open Go.RowKit

def insT (t : Tab) (x : Ins) : Byt := [32, 32] ++ (wordsP.getD x.1.toNat [] ++ (restT t x ++ [10]))
theorem rest_len {t : Tab} (hn : NmOk t) {x : Ins} (h : IOk t x) : (restT t x).length ≤ 16400 := by
  unfold restT
  obtain ⟨i, hi⟩ : ∃ i : Nat, x.1 = (i : Int) := ⟨x.1.toNat, by have := op_range h.op; omega⟩
  split
  · rename_i hb
    have ha : kindA x.1 ≠ 0 := by rw [hi] at hb ⊢; exact kindB_A i hb
    rw [List.length_append]
    have := parg_len hn (h.a ha)
    have := parg_len hn (h.b hb)
    omega
  · split
    · rename_i ha
      have := parg_len hn (h.a ha)
      omega
    · simp
theorem word_len (i : Nat) : (wordsP.getD i []).length ≤ 8 := by
  by_cases hi : i < wordsP.length
  · have h : ∀ j, j < wordsP.length → (wordsP.getD j []).length ≤ 8 := by decide
    exact h i hi
  · rw [List.getD_eq_getElem?_getD, List.getElem?_eq_none (by omega)]
    exact Nat.zero_le _
theorem insT_len {t : Tab} (hn : NmOk t) {x : Ins} (h : IOk t x) : (insT t x).length ≤ 16500 := by
  unfold insT
  have := rest_len hn h
  have := word_len x.1.toNat
  rw [List.length_append, List.length_append, List.length_append]
  have h1 : ([32, 32] : Byt).length = 2 := rfl
  have h2 : ([10] : Byt).length = 1 := rfl
  omega
set_option maxRecDepth 10000 in
theorem full_any {w : World} {P : Nat} {sv gv : Value} {l : Byt} {O : Option Nat} (h : TX w P sv gv l O) : Calls Tryz.prog 41 #[.pointer (some ⟨P, 0, none⟩)] w fun r w' => r = .returned (.bool (decide (8388608 < l.length))) ∧ w' = w := by
  obtain ⟨v, hP, hO, _⟩ := h
  obtain ⟨ad, cap, rfl⟩ := hO.len
  have p2 : w.cell? ⟨P, 2, none⟩ = some (.slice ad l.length cap) := heap_cl hP rfl
  clear hP hO
  by_cases hf : 8388608 < l.length
  · have e1 : ((l.length : Int) > 8388608) := by omega
    rw [decide_eq_true hf]
    clear hf
    go_enter Tryz.func41, Tryz.ntmps41
    go_wp2
    go_ret
    exact ⟨rfl, rfl⟩
  · have e1 : ¬ ((l.length : Int) > 8388608) := by omega
    rw [decide_eq_false hf]
    clear hf
    go_enter Tryz.func41, Tryz.ntmps41
    go_wp2
    go_ret
    exact ⟨rfl, rfl⟩
set_option maxHeartbeats 16000000 in
set_option maxRecDepth 10000 in
theorem tins_any {w : World} {P : Nat} {sv gv : Value} {t : Tab} {l : Byt} {O : Option Nat} (h : TX w P sv gv l O) (hI : PIn w P sv gv t) (hl : l.length ≤ 80000000) (hnm : NmOk t) (x : Ins) (hx : IOk t x) :
    Calls Tryz.prog 81 #[.pointer (some ⟨P, 0, none⟩), .agg #[.int .i64 x.1, .int .i64 x.2.1, .int .i64 x.2.2]] w fun r w' => TP w P sv gv l O (if 8388608 < l.length then [] else insT t x) r w' := by
  obtain ⟨X, hX⟩ : ∃ X, X = w.heap.size := ⟨_, rfl⟩
  obtain ⟨W, hW⟩ : ∃ W, W = w.alloc (.cells #[.int .i64 x.1, .int .i64 x.2.1, .int .i64 x.2.2] 53) := ⟨_, rfl⟩
  have hBW : Below w.heap.size w W := by rw [hW]; exact (Below.refl _ _).alloc (Nat.le_refl _) _
  have hXW : W.heap[X]? = some (.cells #[.int .i64 x.1, .int .i64 x.2.1, .int .i64 x.2.2] 53 (0, 0)) := by rw [hW, hX]; exact new_blk _ _
  have hPX : P < X := by rw [hX]; exact h.lt.1
  have hOX : O ≠ some X := fun e => by have := (h.lt.2 X e).2; omega
  have hTW := h.on hBW
  have CF := full_any hTW.1
  have HXE : Hid (X = w.heap.size) := hX
  by_cases hf : 8388608 < l.length
  · rw [if_pos hf]
    rw [decide_eq_true hf] at CF
    have HF : Hid (TX W P sv gv l O ∧ TO w P O W O) := hTW
    clear hTW hXW h hI hX hBW
    go_enter Tryz.func81, Tryz.ntmps81
    go_upto_region 1 with fail
    rw [← hW, ← HXE.out]
    clear hW
    go_wp2_with (go_at_call 41; (with_reducible refine Calls.mono CF ?_); rintro e2 w2 ⟨rfl, hw⟩; obtain rfl := hw.symm; clear hw)
    refine bodyPost_ret (v := .tuple #[]) (by simp [results, Tryz.results81, go_sem]) rfl ?_
    exact ⟨rfl, O, by rw [List.append_nil]; exact HF.out.1, HF.out.2⟩
  · rw [if_neg hf]
    rw [decide_eq_false hf] at CF
    have hop2 := op_range hx.op
    obtain ⟨i, hi⟩ : ∃ i : Nat, x.1 = (i : Int) := ⟨x.1.toNat, by omega⟩
    have C1 := put_any hTW.1 [32, 32] (by show _ + 2 ≤ _; omega)
    have HTO : Hid (TO w P O W O) := hTW.2
    have HPI : Hid (∀ w2 : World, Below P w w2 → PIn w2 P sv gv t) := fun w2 hb => hI.on hb
    have HXW : Hid (W.heap[X]? = some (.cells #[.int .i64 (i : Int), .int .i64 x.2.1, .int .i64 x.2.2] 53 (0, 0))) := by rw [← hi]; exact hXW
    have HE : Hid (insT t x = [32, 32] ++ (wordsP.getD i [] ++ (restT t x ++ [10]))) := by show _ = _; unfold insT; rw [hi, Int.toNat_natCast]
    have hrl := rest_len hnm hx
    have hwl := word_len i
    have CE : ∀ w2 l2 O2, Below P w w2 → TX w2 P sv gv l2 O2 → l2.length ≤ 40000000 → Calls Tryz.prog 94 #[.agg #[.int .i64 (i : Int), .int .i64 x.2.1, .int .i64 x.2.2], .func (.func 109) #[.pointer (some ⟨P, 0, none⟩)] #[]] w2 fun r w' => TP w2 P sv gv l2 O2 (restT t x) r w' := fun w2 l2 O2 h0 h1 h2 => by
      rw [← hi]
      exact teach_any h1 (hI.on h0) h2 hnm x hx
    have i1 : (0 : Int) ≤ (i : Int) := by omega
    have i2 : (i : Int) < 18 := by omega
    rw [hi] at hW ⊢
    generalize insT t x = Z at *
    generalize restT t x = R at *
    obtain ⟨wd, hwd⟩ : ∃ wd, wd = wordsP.getD i [] := ⟨_, rfl⟩
    rw [← hwd] at HE hwl
    have HWD : Hid (wd = wordsP.getD i []) := hwd
    clear hTW hXW h hI hX hBW hx hwd
    go_enter Tryz.func81, Tryz.ntmps81
    go_upto_region 1 with fail
    rw [← hW, ← HXE.out]
    clear hW
    go_upto_region 3 with (first | (go_at_call 41; (with_reducible refine Calls.mono CF ?_); rintro e2 w2 ⟨rfl, hw⟩; obtain rfl := hw.symm; clear hw) | (go_at_call 106; (with_reducible refine Calls.mono C1 ?_); rintro e3 w3 ⟨rfl, H3⟩))
    obtain ⟨O3, k1, k2⟩ := H3.out
    have hb3 := HTO.out.trans k2
    have hX3 := (k2.kept X (lt_heap HXW.out) (by omega) hOX).trans HXW.out
    obtain ⟨rd, rcap, hr⟩ := (HPI.out w3 hb3.bel).pb.ck.rows
    have r0 := hr.cell
    obtain ⟨g, o, rfl, hc, hg, c0, _, _⟩ := hr.row i (by omega)
    rw [← HWD.out] at c0
    have x0 : w3.cell? ⟨X, 0, none⟩ = some (.int .i64 (i : Int)) := heap_cl hX3 rfl
    have C2 := put_any k1 wd (by rw [List.length_append]; have h1 : ([32, 32] : Byt).length = 2 := rfl; omega)
    have HB3 : Hid (TO w P O w3 O3 ∧ w3.heap[X]? = some (.cells #[.int .i64 (i : Int), .int .i64 x.2.1, .int .i64 x.2.2] 53 (0, 0)) ∧ O3 ≠ some X) := ⟨hb3, hX3, fun e => by
      rcases k2.own with e2 | ⟨g, e2, hg⟩
      · rw [e2] at e; exact hOX e
      · rw [e2] at e
        injection e with e
        have := lt_heap HXW.out
        omega⟩
    clear k1 k2 hb3 hX3 hr H3 C1 CF HPI HWD HTO hOX HXW
    go_upto_region 4 with (go_at_call 106; (with_reducible refine Calls.mono C2 ?_); rintro e4 w4 ⟨rfl, H4⟩)
    obtain ⟨O4, k1, k2⟩ := H4.out
    have hX4 := (k2.kept X (lt_heap HB3.out.2.1) (by omega) HB3.out.2.2).trans HB3.out.2.1
    have x0 : w4.cell? ⟨X, 0, none⟩ = some (.int .i64 (i : Int)) := heap_cl hX4 rfl
    have x1 : w4.cell? ⟨X, 1, none⟩ = some (.int .i64 x.2.1) := heap_cl hX4 rfl
    have x2 : w4.cell? ⟨X, 2, none⟩ = some (.int .i64 x.2.2) := heap_cl hX4 rfl
    have hb4 := HB3.out.1.trans k2
    have C3 := CE w4 _ O4 hb4.bel k1 (by rw [List.length_append, List.length_append]; have h1 : ([32, 32] : Byt).length = 2 := rfl; omega)
    have HB4 : Hid (TO w P O w4 O4) := hb4
    clear k1 k2 hb4 hX4 H4 C2 CE HB3 c0 r0
    go_upto_region 5 with (go_at_call 94; (with_reducible refine Calls.mono C3 ?_); rintro e5 w5 ⟨rfl, H5⟩)
    obtain ⟨O5, k1, k2⟩ := H5.out
    have HB5 : Hid (TO w P O w5 O5) := HB4.out.trans k2
    have C4 := put_any k1 [10] (by rw [List.length_append, List.length_append, List.length_append]; have h1 : ([32, 32] : Byt).length = 2 := rfl; have h2 : ([10] : Byt).length = 1 := rfl; omega)
    clear k1 k2 H5 C3 HB4
    go_wp2_with (go_at_call 106; (with_reducible refine Calls.mono C4 ?_); rintro e6 w6 ⟨rfl, H6⟩)
    refine bodyPost_end (v := .tuple #[]) (by simp [results, Tryz.results81, go_sem]) rfl ?_
    obtain ⟨O6, k1, k2⟩ := H6.out
    refine ⟨rfl, O6, ?_, HB5.out.trans k2⟩
    rw [HE.out]
    simp only [List.append_assoc] at k1 ⊢
    exact k1
end Go.Proofs.YtlpnegnpejpdkaaGreatDoor

namespace Go.Proofs.YtlpnegnpejpdkaaGreatDoor
open Go.RowKit

def shapeW : Byt := [115, 104, 97, 112, 101]
def globalW : Byt := [103, 108, 111, 98, 97, 108]
def shpT (s : Shp) : Byt := toldT shapeW s.1 s.2
def glbT (t : Tab) (g : Glb) : Byt := toldT globalW g.1 g.2.1 ++ (g.2.2.map (insT t)).flatten
/-- A table's text. -/
def textT (t : Tab) : Byt := (t.1.map shpT).flatten ++ (t.2.map (glbT t)).flatten
/-- Where the writer stands: behind what it has written, or past all that may be. -/
def Wst (T l rest : Byt) (k : Nat) : Prop := (l ++ rest = T ∨ (8388608 < l.length ∧ 8388608 < T.length)) ∧ l.length ≤ 8405108 + 8300 * k
theorem Wst.told {T l s rest : Byt} {k : Nat} (h : Wst T l (s ++ rest) k) (hs : s.length ≤ 8300) : Wst T (l ++ s) rest (k + 1) := by
  obtain ⟨h1, h2⟩ := h
  refine ⟨h1.imp (fun e => by rw [List.append_assoc]; exact e) fun e => ⟨by rw [List.length_append]; omega, e.2⟩, by rw [List.length_append]; omega⟩
theorem Wst.ins {T l s rest : Byt} {k : Nat} (h : Wst T l (s ++ rest) k) (hs : s.length ≤ 16500) : Wst T (l ++ if 8388608 < l.length then [] else s) rest k := by
  obtain ⟨h1, h2⟩ := h
  by_cases hf : 8388608 < l.length
  · rw [if_pos hf, List.append_nil]
    refine ⟨.inr ⟨hf, ?_⟩, h2⟩
    rcases h1 with e | e
    · rw [← e, List.length_append]; omega
    · exact e.2
  · rw [if_neg hf]
    refine ⟨.inl ?_, by rw [List.length_append]; omega⟩
    rcases h1 with e | e
    · rw [List.append_assoc]; exact e
    · exact absurd e.1 hf
theorem Wst.le {T l rest : Byt} {k : Nat} (h : Wst T l rest k) (hk : k ≤ 4001) : l.length ≤ 50000000 := by
  have := h.2
  omega
theorem Wst.fin {T l : Byt} {k : Nat} (h : Wst T l [] k) : (8388608 < l.length ↔ 8388608 < T.length) ∧ (¬ 8388608 < l.length → l = T) := by
  obtain ⟨h1, _⟩ := h
  rcases h1 with e | e
  · rw [List.append_nil] at e
    rw [e]
    exact ⟨Iff.rfl, fun _ => rfl⟩
  · exact ⟨⟨fun _ => e.2, fun _ => e.1⟩, fun h => absurd e.1 h⟩
structure TxOk (t : Tab) : Prop where
  nm : NmOk t
  shp : ∀ s ∈ t.1, i64 s.2
  glb : ∀ g ∈ t.2, i64 g.2.1
  ins : ∀ g ∈ t.2, ∀ x ∈ g.2.2, IOk t x
  cl : ∀ g ∈ t.2, g.2.2.length ≤ 8000
  n1 : t.1.length ≤ 2000
  n2 : t.2.length ≤ 2000
theorem shpsT_next {l : List Shp} {i : Nat} (h : i < l.length) (r : Byt) : ((l.drop i).map shpT).flatten ++ r = shpT l[i] ++ (((l.drop (i + 1)).map shpT).flatten ++ r) := by
  rw [List.drop_eq_getElem_cons h, List.map_cons, List.flatten_cons, List.append_assoc]
theorem glbsT_next {t : Tab} {l : List Glb} {i : Nat} (h : i < l.length) : ((l.drop i).map (glbT t)).flatten = toldT globalW l[i].1 l[i].2.1 ++ ((l[i].2.2.map (insT t)).flatten ++ ((l.drop (i + 1)).map (glbT t)).flatten) := by
  rw [List.drop_eq_getElem_cons h, List.map_cons, List.flatten_cons]
  show (toldT globalW l[i].1 l[i].2.1 ++ _) ++ _ = _
  rw [List.append_assoc]
theorem inssT_next {t : Tab} {l : List Ins} {i : Nat} (h : i < l.length) (r : Byt) : ((l.drop i).map (insT t)).flatten ++ r = insT t l[i] ++ (((l.drop (i + 1)).map (insT t)).flatten ++ r) := by
  rw [List.drop_eq_getElem_cons h, List.map_cons, List.flatten_cons, List.append_assoc]
set_option maxHeartbeats 32000000 in
set_option maxRecDepth 10000 in
theorem ttab_any {w : World} {P : Nat} {sv gv : Value} {t : Tab} {O : Option Nat} (h : TX w P sv gv [] O) (hI : PIn w P sv gv t) (ok : TxOk t) :
    Calls Tryz.prog 40 #[.pointer (some ⟨P, 0, none⟩)] w fun r w' => r = .returned (.tuple #[]) ∧ Hid (∃ l O' k, TX w' P sv gv l O' ∧ Below P w w' ∧ Wst (textT t) l [] k) := by
  obtain ⟨T, hT⟩ : ∃ T, T = textT t := ⟨_, rfl⟩
  rw [← hT]
  obtain ⟨F, hF⟩ : ∃ F : Ending → World → Prop, F = fun r w' => r = .returned (.tuple #[]) ∧ Hid (∃ l O' k, TX w' P sv gv l O' ∧ Below P w w' ∧ Wst T l [] k) := ⟨_, rfl⟩
  rw [← hF]
  have HFE : Hid (∀ w' l O' k, TX w' P sv gv l O' → Below P w w' → Wst T l [] k → F (.returned (.tuple #[])) w') := fun w' l O' k h1 h2 h3 => by rw [hF]; exact ⟨rfl, l, O', k, h1, h2, h3⟩
  clear hF
  have HPI : Hid (∀ w2 : World, Below P w w2 → PIn w2 P sv gv t) := fun w2 hb => hI.on hb
  have HOK : Hid (TxOk t) := ok
  obtain ⟨sa, scap, hsv, _⟩ := shp_at hI.pb.ck.tab.shp
  obtain ⟨ga, gcap, hgv, _⟩ := glb_at hI.pb.ck.tab.glb
  subst hsv
  subst hgv
  have k1 := ok.n1
  have k2 := ok.n2
  have HS : Hid (∀ i (hi : i < t.1.length) (w2 : World), Below P w w2 → ∃ g o, sa = some ⟨g, o, none⟩ ∧ t.1.length ≤ scap ∧ w2.cell? ⟨g, o + i * 2, none⟩ = some (.string ⟨t.1[i].1.toArray⟩) ∧ w2.cell? ⟨g, o + i * 2 + 1, none⟩ = some (.int .i64 t.1[i].2)) := fun i hi w2 hb => by
    obtain ⟨ad, cap, e, hat⟩ := shp_at (HPI.out w2 hb).pb.ck.tab.shp
    obtain ⟨rfl, -, rfl⟩ := Value.slice.inj e
    obtain ⟨g, o, e1, _, e2, e3, e4, _⟩ := hat i hi
    exact ⟨g, o, e1, e2, e3, e4⟩
  have HG : Hid (∀ i (hi : i < t.2.length), ∃ g o ca cc, ga = some ⟨g, o, none⟩ ∧ t.2.length ≤ gcap ∧ (∀ w2, Below P w w2 → w2.cell? ⟨g, o + i * 3, none⟩ = some (.string ⟨t.2[i].1.toArray⟩) ∧ w2.cell? ⟨g, o + i * 3 + 1, none⟩ = some (.int .i64 t.2[i].2.1) ∧ w2.cell? ⟨g, o + i * 3 + 2, none⟩ = some (.slice ca t.2[i].2.2.length cc)) ∧
      ∀ k (hk : k < t.2[i].2.2.length), ∃ g2 o2, ca = some ⟨g2, o2, none⟩ ∧ t.2[i].2.2.length ≤ cc ∧ ∀ w2, Below P w w2 → w2.cell? ⟨g2, o2 + k * 3, none⟩ = some (.int .i64 t.2[i].2.2[k].1) ∧ w2.cell? ⟨g2, o2 + k * 3 + 1, none⟩ = some (.int .i64 t.2[i].2.2[k].2.1) ∧ w2.cell? ⟨g2, o2 + k * 3 + 2, none⟩ = some (.int .i64 t.2[i].2.2[k].2.2)) := fun i hi => by
    obtain ⟨w0, b1, b2, b3⟩ := hI
    obtain ⟨ad, cap, e, hat⟩ := glb_at b3.ck.tab.glb
    obtain ⟨rfl, -, rfl⟩ := Value.slice.inj e
    obtain ⟨g, o, cv, e1, hg, e2, e3, e4, e5, _, _, e6⟩ := hat i hi
    obtain ⟨ca, cc, rfl, hin⟩ := ins_at e6
    have hbb : ∀ w2, Below P w w2 → Below w0.heap.size w0 w2 := fun w2 hb => b2.trans (hb.mono b1)
    refine ⟨g, o, ca, cc, e1, e2, fun w2 hb => ⟨((hbb w2 hb).cell (p := ⟨g, o + i * 3, none⟩) hg).trans e3, ((hbb w2 hb).cell (p := ⟨g, o + i * 3 + 1, none⟩) hg).trans e4, ((hbb w2 hb).cell (p := ⟨g, o + i * 3 + 2, none⟩) hg).trans e5⟩, fun k hk => ?_⟩
    obtain ⟨g2, o2, q1, q2, q3, q4, q5, q6⟩ := hin k hk
    exact ⟨g2, o2, q1, q3, fun w2 hb => ⟨((hbb w2 hb).cell (p := ⟨g2, o2 + k * 3, none⟩) q2).trans q4, ((hbb w2 hb).cell (p := ⟨g2, o2 + k * 3 + 1, none⟩) q2).trans q5, ((hbb w2 hb).cell (p := ⟨g2, o2 + k * 3 + 2, none⟩) q2).trans q6⟩⟩
  obtain ⟨v, hP, hO, hOe⟩ := id h
  have p0 : w.cell? ⟨P, 0, none⟩ = some (.slice sa t.1.length scap) := heap_cl hP rfl
  have HT0 : Hid (Wst T [] (((t.1.drop 0).map shpT).flatten ++ (t.2.map (glbT t)).flatten) 0) := ⟨.inl (by rw [hT]; rfl), by simp⟩
  have HX : Hid (TX w P (.slice sa t.1.length scap) (.slice ga t.2.length gcap) [] O) := h
  have HTD : Hid (∀ (w2 : World) (l : Byt) (O2 : Option Nat) (word name : Byt) (n : Int), Below P w w2 → TX w2 P (.slice sa t.1.length scap) (.slice ga t.2.length gcap) l O2 → l.length ≤ 50000000 → word.length ≤ 10 → name.length ≤ 4096 → i64 n → Calls Tryz.prog 80 #[.pointer (some ⟨P, 0, none⟩), .string ⟨word.toArray⟩, .string ⟨name.toArray⟩, .int .i64 n] w2 fun r w' => TP w2 P (.slice sa t.1.length scap) (.slice ga t.2.length gcap) l O2 (toldT word name n) r w') := fun w2 l O2 word name n h0 h1 h2 h3 h4 h5 => told_any h1 h2 (fun w' hb => ((HPI.out w2 h0).on hb).pb.pt) h3 h4 h5
  clear h hI ok hT hP hO hOe
  go_enter Tryz.func40, Tryz.ntmps40
  go_upto_region 1 with fail
  go_loopw [13] (fun iv wr => ∃ (i : Nat) (l : Byt) (O1 : Option Nat), i ≤ t.1.length ∧ iv = .int .i64 i ∧ Hid (TX wr P (.slice sa t.1.length scap) (.slice ga t.2.length gcap) l O1 ∧ Below P w wr) ∧ Hid (Wst T l (((t.1.drop i).map shpT).flatten ++ (t.2.map (glbT t)).flatten) i)) (fun iv _ => t.1.length - (intOf iv).toNat)
  case atStart => exact ⟨0, [], O, by omega, by go_num, ⟨HX.out, Below.refl _ _⟩, HT0.out⟩
  case round =>
    clear HX HT0 p0
    obtain ⟨i, l, O1, hi, rfl, HW, HTT⟩ := hrel
    by_cases hil : i < t.1.length
    · obtain ⟨g, o, rfl, hsc, c0, c1⟩ := HS.out i hil wr HW.out.2
      have i1 : (0 : Int) ≤ (i : Int) := by omega
      have i2 : (i : Int) < (t.1.length : Int) := by omega
      obtain ⟨Y, hYe⟩ : ∃ Y, Y = wr.heap.size := ⟨_, rfl⟩
      obtain ⟨W2, hW2⟩ : ∃ W2, W2 = wr.alloc (.cells #[.string ⟨t.1[i].1.toArray⟩, .int .i64 t.1[i].2] 48) := ⟨_, rfl⟩
      have hb2 : Below wr.heap.size wr W2 := by rw [hW2]; exact (Below.refl _ _).alloc (Nat.le_refl _) _
      have hYW : W2.heap[Y]? = some (.cells #[.string ⟨t.1[i].1.toArray⟩, .int .i64 t.1[i].2] 48 (0, 0)) := by rw [hW2, hYe]; exact new_blk _ _
      have hTX := HW.out.1.on hb2
      have hll : l.length ≤ 50000000 := by have := HTT.out.2; omega
      have hmem := List.getElem_mem hil
      have CT : Calls Tryz.prog 80 #[.pointer (some ⟨P, 0, none⟩), .string ⟨#[115, 104, 97, 112, 101]⟩, .string ⟨t.1[i].1.toArray⟩, .int .i64 t.1[i].2] W2 fun r w' => TP W2 P _ _ l O1 (toldT shapeW t.1[i].1 t.1[i].2) r w' := HTD.out W2 l O1 shapeW t.1[i].1 t.1[i].2 (HW.out.2.trans hTX.2.bel) hTX.1 hll (by decide) (HOK.out.nm.1 _ hmem) (HOK.out.shp _ hmem)
      have HNX : Hid (Wst T (l ++ shpT t.1[i]) (((t.1.drop (i + 1)).map shpT).flatten ++ (t.2.map (glbT t)).flatten) (i + 1)) := Wst.told (by rw [← shpsT_next hil]; exact HTT.out) (toldT_len (by decide) (HOK.out.nm.1 _ hmem) (HOK.out.shp _ hmem))
      have HB2 : Hid (Below P w W2) := HW.out.2.trans hTX.2.bel
      have hz : shpT t.1[i] = toldT shapeW t.1[i].1 t.1[i].2 := rfl
      rw [hz] at HNX
      have n0 : W2.cell? ⟨Y, 0, none⟩ = some (.string ⟨t.1[i].1.toArray⟩) := heap_cl hYW rfl
      have n1 : W2.cell? ⟨Y, 1, none⟩ = some (.int .i64 t.1[i].2) := heap_cl hYW rfl
      have HYE : Hid (Y = wr.heap.size) := hYe
      clear hYe hYW hTX hb2 HW HTT hz hmem
      generalize toldT shapeW t.1[i].1 t.1[i].2 = Z at *
      generalize t.1[i].1 = nm at *
      generalize t.1[i].2 = fl at *
      go_upto_region 3 with fail
      rw [← hW2, ← HYE.out]
      clear hW2 c0 c1
      go_wp2_with (go_at_call 80; (with_reducible refine Calls.mono CT ?_); rintro e3 w3 ⟨rfl, H3⟩)
      go_roundw
      case rel =>
        obtain ⟨O3, m1, m2⟩ := H3.out
        exact ⟨i + 1, l ++ Z, O3, hil, by go_num, ⟨m1, HB2.out.trans m2.bel⟩, HNX.out⟩
      case measure => simp [intOf]; omega
    · have e3 : ¬ ((i : Int) < (t.1.length : Int)) := by omega
      have HT1 : Hid (Wst T l (((t.2.drop 0).map (glbT t)).flatten) (i + 0)) := by
        have := HTT.out
        rw [show t.1.drop i = [] from List.drop_eq_nil_of_le (by omega)] at this
        exact this
      obtain ⟨v, hP, _⟩ := HW.out.1
      have p1 : wr.cell? ⟨P, 1, none⟩ = some (.slice ga t.2.length gcap) := heap_cl hP rfl
      clear HTT hP HS
      go_upto_region 6 with fail
      go_loopw [29] (fun jv wr => ∃ (j : Nat) (l : Byt) (O1 : Option Nat), j ≤ t.2.length ∧ jv = .int .i64 j ∧ Hid (TX wr P (.slice sa t.1.length scap) (.slice ga t.2.length gcap) l O1 ∧ Below P w wr) ∧ Hid (Wst T l (((t.2.drop j).map (glbT t)).flatten) (i + j))) (fun jv _ => t.2.length - (intOf jv).toNat)
      case atStart => exact ⟨0, l, O1, by omega, by go_num, HW.out, HT1.out⟩
      case round =>
        clear HT1 HW p1
        obtain ⟨j, l, O2, hj, rfl, HW, HTT⟩ := hrel
        by_cases hjl : j < t.2.length
        · obtain ⟨g, o, ca, cc, rfl, hgc, hcc, hin⟩ := HG.out j hjl
          obtain ⟨c0, c1, c2⟩ := hcc wr HW.out.2
          have HIN : Hid (∀ k (hk : k < t.2[j].2.2.length), ∃ g2 o2, ca = some ⟨g2, o2, none⟩ ∧ t.2[j].2.2.length ≤ cc ∧ ∀ w2, Below P w w2 → w2.cell? ⟨g2, o2 + k * 3, none⟩ = some (.int .i64 t.2[j].2.2[k].1) ∧ w2.cell? ⟨g2, o2 + k * 3 + 1, none⟩ = some (.int .i64 t.2[j].2.2[k].2.1) ∧ w2.cell? ⟨g2, o2 + k * 3 + 2, none⟩ = some (.int .i64 t.2[j].2.2[k].2.2)) := hin
          have j1 : (0 : Int) ≤ (j : Int) := by omega
          have j2 : (j : Int) < (t.2.length : Int) := by omega
          obtain ⟨Y, hYe⟩ : ∃ Y, Y = wr.heap.size := ⟨_, rfl⟩
          obtain ⟨W2, hW2⟩ : ∃ W2, W2 = wr.alloc (.cells #[.string ⟨t.2[j].1.toArray⟩, .int .i64 t.2[j].2.1, .slice ca t.2[j].2.2.length cc] 51) := ⟨_, rfl⟩
          have hb2 : Below wr.heap.size wr W2 := by rw [hW2]; exact (Below.refl _ _).alloc (Nat.le_refl _) _
          have hYW : W2.heap[Y]? = some (.cells #[.string ⟨t.2[j].1.toArray⟩, .int .i64 t.2[j].2.1, .slice ca t.2[j].2.2.length cc] 51 (0, 0)) := by rw [hW2, hYe]; exact new_blk _ _
          have hTX := HW.out.1.on hb2
          have hll : l.length ≤ 50000000 := by have := HTT.out.2; omega
          have hmem := List.getElem_mem hjl
          have CT : Calls Tryz.prog 80 #[.pointer (some ⟨P, 0, none⟩), .string ⟨#[103, 108, 111, 98, 97, 108]⟩, .string ⟨t.2[j].1.toArray⟩, .int .i64 t.2[j].2.1] W2 fun r w' => TP W2 P _ _ l O2 (toldT globalW t.2[j].1 t.2[j].2.1) r w' := HTD.out W2 l O2 globalW t.2[j].1 t.2[j].2.1 (HW.out.2.trans hTX.2.bel) hTX.1 hll (by decide) (HOK.out.nm.2 _ hmem) (HOK.out.glb _ hmem)
          have HNX : Hid (Wst T (l ++ toldT globalW t.2[j].1 t.2[j].2.1) (((t.2[j].2.2.drop 0).map (insT t)).flatten ++ ((t.2.drop (j + 1)).map (glbT t)).flatten) (i + j + 1)) := Wst.told (by have := HTT.out; rw [glbsT_next hjl] at this; exact this) (toldT_len (by decide) (HOK.out.nm.2 _ hmem) (HOK.out.glb _ hmem))
          have HB2 : Hid (Below P w W2) := HW.out.2.trans hTX.2.bel
          have hPY : P ≠ Y := by have := HW.out.1.lt.1; omega
          have hOY : O2 ≠ some Y := fun e => by have := (HW.out.1.lt.2 Y e).2; omega
          have HIS : Hid (∀ x ∈ t.2[j].2.2, IOk t x) := HOK.out.ins _ hmem
          have hcl := HOK.out.cl _ hmem
          have hij : i + j + 1 ≤ 4001 := by omega
          have n0 : W2.cell? ⟨Y, 0, none⟩ = some (.string ⟨t.2[j].1.toArray⟩) := heap_cl hYW rfl
          have n1 : W2.cell? ⟨Y, 1, none⟩ = some (.int .i64 t.2[j].2.1) := heap_cl hYW rfl
          have HYW : Hid (W2.heap[Y]? = some (.cells #[.string ⟨t.2[j].1.toArray⟩, .int .i64 t.2[j].2.1, .slice ca t.2[j].2.2.length cc] 51 (0, 0))) := hYW
          have HTX2 : Hid (TO wr P O2 W2 O2) := hTX.2
          have HYE : Hid (Y = wr.heap.size) := hYe
          clear hYe hYW hTX hb2 HW HTT hmem hin hcc
          obtain ⟨RR, hRR⟩ : ∃ RR, RR = ((t.2.drop (j + 1)).map (glbT t)).flatten := ⟨_, rfl⟩
          rw [← hRR] at HNX
          have HRR : Hid (RR = ((t.2.drop (j + 1)).map (glbT t)).flatten) := hRR
          clear hRR
          generalize toldT globalW t.2[j].1 t.2[j].2.1 = Z at *
          generalize t.2[j].1 = nm at *
          generalize t.2[j].2.1 = ar at *
          generalize t.2[j].2.2 = code at *
          go_upto_region 8 with fail
          rw [← hW2, ← HYE.out]
          clear hW2 c0 c1 c2
          go_upto_region 9 with (go_at_call 80; (with_reducible refine Calls.mono CT ?_); rintro e3 w3 ⟨rfl, H3⟩)
          obtain ⟨O3, m1, m2⟩ := H3.out
          have hY3 := (m2.kept Y (lt_heap HYW.out) (fun e => hPY e.symm) hOY).trans HYW.out
          have y2 : w3.cell? ⟨Y, 2, none⟩ = some (.slice ca code.length cc) := heap_cl hY3 rfl
          have HW3 : Hid (TX w3 P (.slice sa t.1.length scap) (.slice (some ⟨g, o, none⟩) t.2.length gcap) (l ++ Z) O3 ∧ Below P w w3) := ⟨m1, HB2.out.trans m2.bel⟩
          clear m1 m2 hY3 H3 CT HB2 HYW HTX2 n0 n1
          go_upto_region 10 with fail
          go_loopw [42] (fun kv wr => ∃ (k : Nat) (l : Byt) (O1 : Option Nat), k ≤ code.length ∧ kv = .int .i64 k ∧ Hid (TX wr P (.slice sa t.1.length scap) (.slice (some ⟨g, o, none⟩) t.2.length gcap) l O1 ∧ Below P w wr) ∧ Hid (Wst T l (((code.drop k).map (insT t)).flatten ++ RR) (i + j + 1))) (fun kv _ => code.length - (intOf kv).toNat)
          case atStart => exact ⟨0, l ++ Z, O3, by omega, by go_num, HW3.out, HNX.out⟩
          case round =>
            clear HNX HW3 y2
            obtain ⟨k, l, O4, hk, rfl, HW, HTT⟩ := hrel
            by_cases hkl : k < code.length
            · obtain ⟨g2, o2, rfl, hcc2, hcs⟩ := HIN.out k hkl
              obtain ⟨q0, q1, q2⟩ := hcs wr HW.out.2
              have l1 : (0 : Int) ≤ (k : Int) := by omega
              have l2 : (k : Int) < (code.length : Int) := by omega
              have hxo := HIS.out _ (List.getElem_mem hkl)
              have hl8 : l.length ≤ 80000000 := Nat.le_trans (HTT.out.le hij) (by decide)
              have HNX : Hid (Wst T (l ++ if 8388608 < l.length then [] else insT t code[k]) (((code.drop (k + 1)).map (insT t)).flatten ++ RR) (i + j + 1)) := Wst.ins (s := insT t code[k]) (rest := ((code.drop (k + 1)).map (insT t)).flatten ++ RR) (by rw [← inssT_next hkl]; exact HTT.out) (insT_len HOK.out.nm hxo)
              obtain ⟨V, hVe⟩ : ∃ V, V = wr.heap.size := ⟨_, rfl⟩
              obtain ⟨W3, hW3⟩ : ∃ W3, W3 = wr.alloc (.cells #[.int .i64 code[k].1, .int .i64 code[k].2.1, .int .i64 code[k].2.2] 53) := ⟨_, rfl⟩
              have hb3 : Below wr.heap.size wr W3 := by rw [hW3]; exact (Below.refl _ _).alloc (Nat.le_refl _) _
              have hVW : W3.heap[V]? = some (.cells #[.int .i64 code[k].1, .int .i64 code[k].2.1, .int .i64 code[k].2.2] 53 (0, 0)) := by rw [hW3, hVe]; exact new_blk _ _
              have hTX := HW.out.1.on hb3
              have CI := tins_any hTX.1 (HPI.out W3 (HW.out.2.trans hTX.2.bel)) hl8 HOK.out.nm code[k] hxo
              have HB3 : Hid (Below P w W3) := HW.out.2.trans hTX.2.bel
              have v0 : W3.cell? ⟨V, 0, none⟩ = some (.int .i64 code[k].1) := heap_cl hVW rfl
              have v1 : W3.cell? ⟨V, 1, none⟩ = some (.int .i64 code[k].2.1) := heap_cl hVW rfl
              have v2 : W3.cell? ⟨V, 2, none⟩ = some (.int .i64 code[k].2.2) := heap_cl hVW rfl
              have HVE : Hid (V = wr.heap.size) := hVe
              clear hVe hVW hTX hb3 HW HTT hxo hcs
              generalize (if 8388608 < l.length then [] else insT t code[k]) = Z2 at *
              generalize code[k] = x at *
              obtain ⟨xo, xa, xb⟩ := x
              simp only at q0 q1 q2 v0 v1 v2 CI hW3
              go_upto_region 12 with fail
              rw [← hW3, ← HVE.out]
              clear hW3 q0 q1 q2
              go_wp2_with (go_at_call 81; (with_reducible refine Calls.mono CI ?_); rintro e5 w5 ⟨rfl, H5⟩)
              go_roundw
              case rel =>
                obtain ⟨O5, m1, m2⟩ := H5.out
                exact ⟨k + 1, l ++ Z2, O5, hkl, by go_num, ⟨m1, HB3.out.trans m2.bel⟩, HNX.out⟩
              case measure => simp [intOf]; omega
            · have e5 : ¬ ((k : Int) < (code.length : Int)) := by omega
              have HT3 : Hid (Wst T l RR (i + (j + 1))) := by
                have := HTT.out
                rw [show code.drop k = [] from List.drop_eq_nil_of_le (by omega)] at this
                exact this
              clear HTT
              go_wp2
              go_roundw
              case rel => exact ⟨j + 1, l, O4, hjl, by go_num, HW.out, by rw [← HRR.out]; exact HT3.out⟩
              case measure => simp [intOf]; omega
        · have e4 : ¬ ((j : Int) < (t.2.length : Int)) := by omega
          have HT2 : Hid (Wst T l [] (i + j)) := by
            have := HTT.out
            rw [show t.2.drop j = [] from List.drop_eq_nil_of_le (by omega)] at this
            exact this
          clear HTT
          go_wp2
          refine bodyPost_end (v := .tuple #[]) (by simp [results, Tryz.results40, go_sem]) rfl ?_
          exact HFE.out _ l O2 (i + j) HW.out.1 HW.out.2 HT2.out
end Go.Proofs.YtlpnegnpejpdkaaGreatDoor
