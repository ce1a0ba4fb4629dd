/- The contract of LexSkips: it answers true, whatever it is handed. -/
import Derived.Test.YtkfhdmkdkphmoaaDoorAp
import Derived.Test.YtkfhdmkdkphmoaaDoorAw
namespace Go.Proofs.YtkfhdmkdkphmoaaDoor
open Go.RowKit

theorem deep_ok (deep : Int) (hd1 : -9223372036854775808 ≤ deep) (hd2 : deep ≤ 9223372036854775807) :
    ∃ (dd : Int) (d : Nat), (if deep < 0 then -(deep + 1) else deep) = dd ∧ dd.tmod 40 = d ∧ d < 40 := by
  refine ⟨_, ((if deep < 0 then -(deep + 1) else deep).toNat % 40), rfl, ?_, ?_⟩
  · have : 0 ≤ (if deep < 0 then -(deep + 1) else deep) := by split <;> omega
    generalize (if deep < 0 then -(deep + 1) else deep) = x at this
    rw [Int.tmod_eq_emod_of_nonneg this]
    omega
  · exact Nat.mod_lt _ (by omega)

theorem rest0 (s : ByteArray) : rest s 0 = s.data.toList := by simp [rest]
theorem skipN {a b C V : ByteArray} {l m : List Tk} {D : Nat} (ha : lexL 0 (rest a 0) 0 = .ok l) (hb : lexL 0 (rest b 0) 0 = .ok m) (hk : ∀ x ∈ C.data.toList, keepB x.toNat = true) (hD : 1 ≤ D) (hV : V.data.toList = wrapL D C.data.toList) (hs : a.size + b.size ≤ 20000) :
    lexL 0 (rest (a ++ ⟨#[10]⟩ ++ V ++ b) 0) 0 = .ok (l ++ m.map (mvT (a.size + 1 + V.size))) := by
  obtain ⟨n, rfl⟩ : ∃ n, D = n + 1 := ⟨D - 1, by omega⟩
  rw [rest0] at ha hb ⊢
  have hVs : V.size = (wrapL (n + 1) C.data.toList).length := by rw [← hV]; simp
  have := skips_block n ha hb hk (by simpa using hs)
  rw [bytes_app, bytes_app, bytes_app, hV, hVs]
  simpa using this
theorem skipO {a b C V : ByteArray} {l m : List Tk} (ha : lexL 0 (rest a 0) 0 = .ok l) (hb : lexL 0 (rest b 0) 0 = .ok m) (hV : V.data.toList = lineL C.data.toList) (hs : a.size + b.size ≤ 20000) :
    lexL 0 (rest (a ++ ⟨#[10]⟩ ++ V ++ ⟨#[10]⟩ ++ b) 0) 0 = .ok (l ++ m.map (mvT (a.size + 2 + V.size))) := by
  rw [rest0] at ha hb ⊢
  have hVs : V.size = (lineL C.data.toList).length := by rw [← hV]; simp
  have := skips_line (c := C.data.toList) ha hb (by simpa using hs)
  rw [bytes_app, bytes_app, bytes_app, bytes_app, hV, hVs]
  simpa using this

theorem line_ten {C : ByteArray} {k : Nat} (h : k < C.size) (h10 : C[k].toNat = 10) : lineL (C.data.toList.take (k + 1)) = lineL (C.data.toList.take k) := by
  have e : C[k] = 10 := UInt8.toNat_inj.1 h10
  rw [take_in C k h, e]
  simp [lineL, List.flatMap_append]
theorem line_put {C : ByteArray} {k : Nat} (h : k < C.size) (h10 : ¬ C[k].toNat = 10) : lineL (C.data.toList.take (k + 1)) = lineL (C.data.toList.take k) ++ [32, C[k]] := by
  have e : ¬ C[k] = 10 := fun e => h10 (by rw [e]; rfl)
  rw [take_in C k h]
  simp [lineL, List.flatMap_append, e]
theorem extract_one {C : ByteArray} {k : Nat} (h : k < C.size) : (C.extract k (k + 1)).data.toList = [C[k]] := by
  have h' : k < C.data.toList.length := by simpa using h
  rw [ByteArray.data_extract, Array.toList_extract, List.extract_eq_take_drop, show k + 1 - k = 1 by omega, List.drop_eq_getElem_cons h']
  rfl

set_option maxHeartbeats 4000000 in
set_option maxRecDepth 10000 in
theorem skips_any (a c b : ByteArray) (deep : Int) (w : World) (hCl : Cl w) (h1 : 1 < w.heap.size) (hd1 : -9223372036854775808 ≤ deep) (hd2 : deep ≤ 9223372036854775807)
    (ha : a.size ≤ 140737488351232) (hb : b.size ≤ 140737488351232) (hc : c.size ≤ 140737488351232) :
    Calls Tryd.prog 7 #[.string a, .string c, .int .i64 deep, .string b] w fun e w' => e = .returned (.bool true) ∧ Below w.heap.size w w' := by
  have AW := awake_any w hCl h1
  obtain ⟨C, hC⟩ : ∃ C : ByteArray, C = ⟨(plainL c.data.toList).toArray⟩ := ⟨_, rfl⟩
  have PL : ∀ W, Calls Tryd.prog 17 #[.string c] W fun e w' => e = .returned (.string C) ∧ Below W.heap.size W w' := fun W => by rw [hC]; exact plain_any c W hc
  have HK : Hid (∀ x ∈ C.data.toList, keepB x.toNat = true) := by
    show ∀ x ∈ C.data.toList, keepB x.toNat = true
    rw [hC]
    intro x hx
    simp [plainL] at hx
    exact hx.2
  have hpl : C.size ≤ 140737488351232 := by
    have : (plainL c.data.toList).length ≤ c.data.toList.length := List.length_filter_le _ _
    rw [hC]
    simp at this
    show (plainL c.data.toList).toArray.size ≤ _
    simp
    omega
  obtain ⟨dd, d, hdd, hdm, hd⟩ := deep_ok deep hd1 hd2
  clear hC hc
  go_enter Tryd.func7, Tryd.ntmps7
  go_upto_if 30 with (first | (go_at_call 8; refine Calls.mono AW ?_; rintro e w1 ⟨rfl, hb1⟩) | (go_at_call 17; refine Calls.mono (PL _) ?_; rintro e w2 ⟨rfl, hb2⟩))
  go_cut [2] from 26 (fun v wc => v = .int .i64 dd ∧ wc = w2)
  case first =>
    by_cases hneg : deep < 0
    · rw [if_pos hneg] at hdd
      have HD : Hid (-(deep + 1) = dd) := hdd
      clear hdd hdm
      go_wp2
      go_meet
      exact ⟨by rw [← HD.out], rfl⟩
    · rw [if_neg hneg] at hdd
      have HD : Hid (deep = dd) := hdd
      clear hdd hdm
      go_wp2
      go_meet
      exact ⟨by rw [← HD.out], rfl⟩
  case rest =>
    obtain ⟨rfl, rfl⟩ := hcut
    have HB : Hid (Below w.heap.size w wc) := hb1.trans (hb2.mono hb1.size)
    clear hdd AW PL hb1 hb2 hd1 hd2
    go_upto_region 5 with fail
    obtain ⟨D, hD⟩ : ∃ D : Nat, D = d + 1 := ⟨_, rfl⟩
    have hD' : 1 + (d : Int) = (D : Int) := by omega
    have hD1 : 1 ≤ D := by omega
    have hD2 : D ≤ 40 := by omega
    go_cut [2] from 26 (fun v wx => v = .int .i64 (D : Int) ∧ wx = wc)
    case first =>
      clear hb ha hpl hD hD1 hD2
      go_wp2
      go_meet
      exact ⟨by first | rfl | rw [hD'], rfl⟩
    case rest =>
      obtain ⟨rfl, rfl⟩ := hcut
      clear hdm hd hD' hD
      go_upto_region 6 with fail
      go_cut [49] from 26 (fun v wx => v = .bool (decide (20000 < a.size + b.size + C.size + 4 * D + 10)) ∧ wx = wc)
      case first =>
        go_wp2
        go_meet
        refine ⟨congrArg Value.bool (decide_eq_decide.2 ?_), rfl⟩
        omega
      case rest =>
        obtain ⟨rfl, rfl⟩ := hcut
        generalize hbd : decide (20000 < a.size + b.size + C.size + 4 * D + 10) = bd
        cases bd with
        | true =>
          clear hbd
          go_wp2
          go_ret
          exact ⟨rfl, HB.out⟩
        | false =>
          have hsz : a.size + b.size + C.size + 4 * D + 10 ≤ 20000 := by have := of_decide_eq_false hbd; omega
          clear hbd ha hb hpl
          have hwc : 1 < wc.heap.size := by have := HB.out.size; omega
          have hclw : Cl wc := hCl.below HB.out h1
          have hbel : ∀ W, Below wc.heap.size wc W → Below w.heap.size w W := fun W h => HB.out.trans (h.mono HB.out.size)
          cases hla : lexL 0 (rest a 0) 0 with
          | error x =>
            obtain ⟨ca, pa⟩ := x
            have LA := lex_bad a wc (by omega) hclw hwc hla
            clear hla
            cases hlb : lexL 0 (rest b 0) 0 with
            | error y =>
              obtain ⟨cb, pb⟩ := y
              have LB := fun W (h : Below wc.heap.size wc W) => lex_bad b W (by omega) (hCl.below (hbel W h) h1) (Nat.lt_of_lt_of_le h1 (hbel W h).size) hlb
              clear hlb hCl h1 hclw hwc
              go_wp2_with (first | (go_at_call 12; with_reducible refine Calls.mono LA ?_; rintro e w3 ⟨⟨ba, _, rfl, _⟩, hb3⟩) | (go_at_call 12; with_reducible refine Calls.mono (LB _ hb3) ?_; rintro e w4 ⟨⟨bb, _, rfl, _⟩, hb4⟩))
              go_ret
              exact ⟨rfl, hbel _ (hb3.trans (hb4.mono hb3.size))⟩
            | ok m =>
              have LB := fun W (h : Below wc.heap.size wc W) => lex_ok b W (by omega) (hCl.below (hbel W h) h1) (Nat.lt_of_lt_of_le h1 (hbel W h).size) hlb
              clear hlb hCl h1 hclw hwc
              go_wp2_with (first | (go_at_call 12; with_reducible refine Calls.mono LA ?_; rintro e w3 ⟨⟨ba, _, rfl, _⟩, hb3⟩) | (go_at_call 12; with_reducible refine Calls.mono (LB _ hb3) ?_; rintro e w4 ⟨⟨tk, rfl, _⟩, hb4⟩))
              go_ret
              exact ⟨rfl, hbel _ (hb3.trans (hb4.mono hb3.size))⟩
          | ok l =>
            have LA := lex_ok a wc (by omega) hclw hwc hla
            cases hlb : lexL 0 (rest b 0) 0 with
            | error y =>
              obtain ⟨cb, pb⟩ := y
              have LB := fun W (h : Below wc.heap.size wc W) => lex_bad b W (by omega) (hCl.below (hbel W h) h1) (Nat.lt_of_lt_of_le h1 (hbel W h).size) hlb
              clear hla hlb hCl h1 hclw hwc
              go_wp2_with (first | (go_at_call 12; with_reducible refine Calls.mono LA ?_; rintro e w3 ⟨⟨tk, rfl, _⟩, hb3⟩) | (go_at_call 12; with_reducible refine Calls.mono (LB _ hb3) ?_; rintro e w4 ⟨⟨bb, _, rfl, _⟩, hb4⟩))
              go_ret
              exact ⟨rfl, hbel _ (hb3.trans (hb4.mono hb3.size))⟩
            | ok m =>
              have LB := fun W (h : Below wc.heap.size wc W) => lex_ok b W (by omega) (hCl.below (hbel W h) h1) (Nat.lt_of_lt_of_le h1 (hbel W h).size) hlb
              have HA : Hid (lexL 0 (rest a 0) 0 = .ok l) := hla
              have HBb : Hid (lexL 0 (rest b 0) 0 = .ok m) := hlb
              clear hla hlb hclw hwc
              go_wp2_with (first | (go_at_call 12; with_reducible refine Calls.mono LA ?_; rintro e w3 ⟨⟨tl, rfl, OL⟩, hb3⟩) | (go_at_call 12; with_reducible refine Calls.mono (LB _ hb3) ?_; rintro e w4 ⟨⟨tm, rfl, OM⟩, hb4⟩))
              have OL4 := own_below OL hb4
              have B4 := hb3.trans (hb4.mono hb3.size)
              clear LA LB OL hb3 hb4
              go_loopw [14, 16] (fun v i wr => ∃ (j : Nat) (V : ByteArray), j ≤ D ∧ v = .string V ∧ V.size = C.size + 4 * j ∧ i = .int .i64 j ∧ wr = w4 ∧ Hid (V.data.toList = wrapL j C.data.toList)) (fun _ i _ => D - (intOf i).toNat)
              case atStart => exact ⟨0, C, by omega, rfl, by omega, by go_num, rfl, rfl⟩
              case round =>
                obtain ⟨j, V, hj, rfl, hVs, rfl, rfl, HV⟩ := hrel
                by_cases hlt : j < D
                · have HN : Hid (((⟨#[123, 45]⟩ : ByteArray) ++ V ++ ⟨#[45, 125]⟩).data.toList = wrapL (j + 1) C.data.toList) := by
                    show ((⟨#[123, 45]⟩ : ByteArray) ++ V ++ ⟨#[45, 125]⟩).data.toList = wrapL (j + 1) C.data.toList
                    rw [bytes_app, bytes_app, HV.out]
                    rfl
                  have hns : ((⟨#[123, 45]⟩ : ByteArray) ++ V ++ ⟨#[45, 125]⟩).size = C.size + 4 * (j + 1) := by
                    rw [ByteArray.size_append, ByteArray.size_append, hVs]
                    show 2 + (C.size + 4 * j) + 2 = _
                    omega
                  clear OL4 OM B4
                  go_wp2
                  go_roundw
                  case rel => exact ⟨j + 1, _, by omega, rfl, hns, by go_num, by first | rfl | trivial, HN⟩
                  case measure => simp [intOf]; omega
                · obtain rfl : j = D := by omega
                  clear hlt hj
                  go_wp2
                  go_loopw [15, 17] (fun v i wx => ∃ (k : Nat) (L : ByteArray), k ≤ C.size ∧ v = .string L ∧ L.size ≤ 2 + 2 * k ∧ i = .int .i64 k ∧ wx = wr ∧ Hid (L.data.toList = lineL (C.data.toList.take k))) (fun _ i _ => C.size - (intOf i).toNat)
                  case atStart => exact ⟨0, ⟨#[45, 45]⟩, by omega, rfl, by decide, by go_num, rfl, rfl⟩
                  case round =>
                    obtain ⟨k, L, hk, rfl, hLs, rfl, rfl, HL⟩ := hrel
                    by_cases hkl : k < C.size
                    · by_cases hten : C[k].toNat = 10
                      · have HN : Hid (L.data.toList = lineL (C.data.toList.take (k + 1))) := HL.out.trans (line_ten hkl hten).symm
                        have hten' : (C[k].toNat : Int) = 10 := by omega
                        clear OL4 OM B4 HL hten
                        go_wp2
                        go_roundw
                        case rel => exact ⟨k + 1, L, by omega, rfl, by omega, by go_num, by first | rfl | trivial, HN⟩
                        case measure => simp [intOf]; omega
                      · have HN : Hid ((L ++ ⟨#[32]⟩ ++ C.extract k (k + 1)).data.toList = lineL (C.data.toList.take (k + 1))) := by
                          show (L ++ ⟨#[32]⟩ ++ C.extract k (k + 1)).data.toList = lineL (C.data.toList.take (k + 1))
                          rw [bytes_app, bytes_app, extract_one hkl, HL.out, line_put hkl hten]
                          simp
                        have hns : (L ++ ⟨#[32]⟩ ++ C.extract k (k + 1)).size ≤ 2 + 2 * (k + 1) := by
                          have e : (C.extract k (k + 1)).size = 1 := by
                            rw [← ByteArray.size_data, ← Array.length_toList, extract_one hkl]
                            rfl
                          rw [ByteArray.size_append, ByteArray.size_append, e]
                          show L.size + 1 + 1 ≤ _
                          omega
                        have hten' : ((C[k].toNat : Int) != 10) = true := by simp; omega
                        clear OL4 OM B4 HL hten
                        go_wp2
                        go_roundw
                        case rel => exact ⟨k + 1, _, by omega, rfl, hns, by go_num, by first | rfl | trivial, HN⟩
                        case measure => simp [intOf]; omega
                    · have hLL : L.data.toList = lineL C.data.toList := by
                        rw [HL.out, List.take_of_length_le (by simp; omega)]
                      have hLs' : L.size ≤ 2 + 2 * C.size := by omega
                      have hN := skipN HA.out HBb.out HK.out hD1 HV.out (by omega)
                      have hO := skipO HA.out HBb.out hLL (by omega)
                      have hll := lexL_count _ _ _ _ _ (Nat.le_refl _) HA.out
                      have hml := lexL_count _ _ _ _ _ (Nat.le_refl _) HBb.out
                      have hlat := lexL_at _ _ _ _ _ (Nat.le_refl _) HA.out
                      have hmat := lexL_at _ _ _ _ _ (Nat.le_refl _) HBb.out
                      rw [rest_len] at hll hml hlat hmat
                      have hsN : (a ++ ⟨#[10]⟩ ++ V ++ b).size ≤ 65536 := by
                        rw [ByteArray.size_append, ByteArray.size_append, ByteArray.size_append, hVs]
                        show a.size + 1 + (C.size + 4 * j) + b.size ≤ 65536
                        omega
                      have hsO : (a ++ ⟨#[10]⟩ ++ L ++ ⟨#[10]⟩ ++ b).size ≤ 65536 := by
                        rw [ByteArray.size_append, ByteArray.size_append, ByteArray.size_append, ByteArray.size_append]
                        show a.size + 1 + L.size + 1 + b.size ≤ 65536
                        omega
                      have B4' := hbel _ B4
                      have LN := lex_ok _ _ hsN (hCl.below B4' h1) (Nat.lt_of_lt_of_le h1 B4'.size) hN
                      have LO := fun W (h : Below wr.heap.size wr W) => lex_ok _ W hsO (hCl.below (B4'.trans (h.mono B4'.size)) h1) (Nat.lt_of_lt_of_le h1 (B4'.trans (h.mono B4'.size)).size) hO
                      have M1 : ∀ W, W.ownsRow wc.heap.size 28 4 tl l.length (rowCells l) → Calls Tryd.prog 16 #[tl, .int .i64 0] W fun e w' => (∃ v', e = .returned v' ∧ w'.ownsRow W.heap.size 28 4 v' l.length (rowCells l)) ∧ Below W.heap.size W w' := fun W h => by
                        have := moved_any tl l 0 _ W h (by omega) (by omega) (fun t ht => by have := hlat t ht; omega)
                        rw [mv0] at this
                        exact this
                      have M2 : ∀ W, W.ownsRow w3.heap.size 28 4 tm m.length (rowCells m) → Calls Tryd.prog 16 #[tm, .int .i64 ((a.size : Int) + 1 + V.size)] W fun e w' => (∃ v', e = .returned v' ∧ w'.ownsRow W.heap.size 28 4 v' (m.map (mvT (a.size + 1 + V.size))).length (rowCells (m.map (mvT (a.size + 1 + V.size))))) ∧ Below W.heap.size W w' := fun W h => by
                        rw [List.length_map]
                        exact moved_any tm m (a.size + 1 + V.size) _ W h (by omega) (by omega) (fun t ht => by have := hmat t ht; omega)
                      have M3 : ∀ W, W.ownsRow w3.heap.size 28 4 tm m.length (rowCells m) → Calls Tryd.prog 16 #[tm, .int .i64 ((a.size : Int) + 2 + L.size)] W fun e w' => (∃ v', e = .returned v' ∧ w'.ownsRow W.heap.size 28 4 v' (m.map (mvT (a.size + 2 + L.size))).length (rowCells (m.map (mvT (a.size + 2 + L.size))))) ∧ Below W.heap.size W w' := fun W h => by
                        rw [List.length_map]
                        exact moved_any tm m (a.size + 2 + L.size) _ W h (by omega) (by omega) (fun t ht => by have := hmat t ht; omega)
                      have SM : ∀ (X : List Tk) W v u, X.length ≤ 20000 → RowAt W v X → RowAt W u X → Calls Tryd.prog 11 #[v, u] W fun e w' => e = .returned (.bool true) ∧ ∃ n, w' = W.drewN n := fun X W v u hX h h' => by
                        have := same_any v u X X W h h' hX hX
                        rw [show decide (X = X) = true by simp] at this
                        exact this
                      have HL2 : Hid (l.length + m.length ≤ 20000) := by show l.length + m.length ≤ 20000; omega
                      have qV : V.size ≤ 20000 := by omega
                      have qL : L.size ≤ 60000 := by omega
                      have qa : a.size ≤ 20000 := by omega
                      have qb : b.size ≤ 20000 := by omega
                      have HB4 : Hid (Below w.heap.size w wr) := B4'
                      clear hN hO HL HV HA HBb hbel HK hVs hLs hLs' hlat hmat hll hml hsN hsO hLL hk hsz hD1 hD2 hCl h1 HB B4 B4'
                      go_wp2_with (first
                        | (go_at_call 12; with_reducible refine Calls.mono LN ?_; rintro e w5 ⟨⟨tn, rfl, ON⟩, hb5⟩; have OL5 := own_below OL4 hb5; have OM5 := own_below OM hb5)
                        | (go_at_call 12; with_reducible refine Calls.mono (LO w5 hb5) ?_; rintro e w6 ⟨⟨tO, rfl, OO⟩, hb6⟩; have OL6 := own_below OL5 hb6; have OM6 := own_below OM5 hb6; have ON6 := own_below ON hb6)
                        | (go_at_call 16; with_reducible refine Calls.mono (M1 w6 OL6) ?_; rintro e w7 ⟨⟨v1, rfl, P1⟩, hb7⟩; have OM7 := own_below OM6 hb7)
                        | (go_at_call 16; with_reducible refine Calls.mono (M2 w7 OM7) ?_; rintro e w8 ⟨⟨v2, rfl, P2⟩, hb8⟩; have P18 := own_below P1 hb8)
                        | (at_builtin; refine wpList_append_rows rfl _ _ rfl w6.heap.size w7.heap.size v1 v2 l _ rfl rfl P18 P2 (by rw [List.length_map]; have := HL2.out; omega) (Nat.le_trans hb7.size hb8.size) ?_; intro v3 w9 P3 hb9; have B9 := (hb7.trans (hb8.mono hb7.size)).trans hb9; have OL9 := own_below OL6 B9; have OM9 := own_below OM6 B9; have ON9 := own_below ON6 B9; have OO9 := own_below OO B9)
                        | (go_at_call 16; with_reducible refine Calls.mono (M1 w9 OL9) ?_; rintro e w10 ⟨⟨v4, rfl, P4⟩, hb10⟩; have OM10 := own_below OM9 hb10)
                        | (go_at_call 16; with_reducible refine Calls.mono (M3 w10 OM10) ?_; rintro e w11 ⟨⟨v5, rfl, P5⟩, hb11⟩; have P411 := own_below P4 hb11)
                        | (at_builtin; refine wpList_append_rows rfl _ _ rfl w9.heap.size w10.heap.size v4 v5 l _ rfl rfl P411 P5 (by rw [List.length_map]; have := HL2.out; omega) (Nat.le_trans hb10.size hb11.size) ?_; intro v6 w12 P6 hb12; have B12 := (hb10.trans (hb11.mono hb10.size)).trans hb12; have ON12 := own_below ON9 B12; have OO12 := own_below OO9 B12; have P312 := own_below P3 B12)
                        | (go_at_call 11; with_reducible refine Calls.mono (SM _ w12 tn v3 (by rw [List.length_append, List.length_map]; exact HL2.out) (RowAt.of_own ON12) (RowAt.of_own P312)) ?_; rintro e w13 ⟨rfl, n1, rfl⟩)
                        | (go_at_call 11; have RO : RowAt (w12.drewN n1) tO (l ++ m.map (mvT (a.size + 2 + L.size))) := RowAt.of_own (w := w12) OO12; have R6 : RowAt (w12.drewN n1) v6 (l ++ m.map (mvT (a.size + 2 + L.size))) := RowAt.of_own (w := w12) P6; with_reducible refine Calls.mono (SM _ (w12.drewN n1) tO v6 (by rw [List.length_append, List.length_map]; exact HL2.out) RO R6) ?_; rintro e w14 ⟨rfl, n2, rfl⟩))
                      go_ret
                      have B6 := hb5.trans (hb6.mono hb5.size)
                      have B69 := B6.trans (B9.mono B6.size)
                      have B612 := B69.trans (B12.mono B69.size)
                      exact ⟨rfl, below_drewN (HB4.out.trans (B612.mono HB4.out.size)) _⟩
end Go.Proofs.YtkfhdmkdkphmoaaDoor
