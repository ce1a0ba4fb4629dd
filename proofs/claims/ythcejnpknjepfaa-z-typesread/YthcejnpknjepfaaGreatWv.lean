/- What is wrong with the first of some types: the contract of wrong. -/
import Derived.Test.YthcejnpknjepfaaGreatWu
namespace Go.Proofs.YthcejnpknjepfaaGreat
open Go.RowKit

/-- What is wrong with the first of some trees with which something is. -/
def wrongs : List Un → Int
  | [] => 0
  | u :: us => if wrongT u.1 u.2 = 0 then wrongs us else wrongT u.1 u.2
/-- An element of a stack by its parts. -/
theorem Stk.at {w : World} {B j : Nat} {es : List El} {us : List Un} (h : Stk w B es us) (hj : j < es.length) (hj' : j < us.length) : ∃ (k : Int) (n : ByteArray) (ad : Option Addr) (len cap : Nat), es[j] = (k, n, .slice ad len cap) ∧ TyAt w B us[j].1 (.agg #[.int .i64 k, .string n, .slice ad len cap]) us[j].2 := by
  have hT := h.each j hj hj'
  generalize es[j] = e at hT
  obtain ⟨k, n, v⟩ := e
  obtain ⟨ad, len, cap, rfl⟩ := hT.slice
  exact ⟨k, n, ad, len, cap, rfl, hT⟩
set_option maxHeartbeats 8000000 in
set_option maxRecDepth 10000 in
theorem wrong_list (es : List El) (us : List Un) (g cap : Nat) (w : World) (B : Nat) (hB : B ≤ w.heap.size) (hg : g < w.heap.size) (hc : ∀ j u, (es.flatMap elCells)[j]? = some u → w.cell? ⟨g, j, none⟩ = some u) (hS : Stk w B es us) (hN : ∀ u ∈ us, (flat u.1 u.2).length ≤ 4194304) (hl : es.length ≤ 1000) :
    Calls Tryz.prog 31 #[.slice (some ⟨g, 0, none⟩) es.length cap] w fun r w' => r = .returned (.int .i64 (wrongs us)) ∧ Below w.heap.size w w' := by
  generalize hR : wrongs us = R
  have HR : Hid (wrongs (us.drop 0) = R) := hR
  have HS : Hid (Stk w B es us) := hS
  have HC : Hid (∀ j u, (es.flatMap elCells)[j]? = some u → w.cell? ⟨g, j, none⟩ = some u) := hc
  have HN : Hid (∀ u ∈ us, (flat u.1 u.2).length ≤ 4194304) := hN
  clear hR hS hc hN
  go_enter Tryz.func31, Tryz.ntmps31
  go_wp2
  go_loopw [8] (fun i wr => ∃ j : Nat, j ≤ es.length ∧ i = .int .i64 j ∧ Below w.heap.size w wr ∧ Hid (wrongs (us.drop j) = R)) (fun i _ => es.length - (intOf i).toNat)
  case atStart => exact ⟨0, by omega, by go_num, Below.refl _ _, HR.out⟩
  case round =>
    obtain ⟨j, hj, rfl, hbel, HJ⟩ := hrel
    by_cases hlt : j < es.length
    · have hlu : j < us.length := by have := HS.out.len; omega
      obtain ⟨k, n, ad, len, cp, he, hT⟩ := HS.out.at hlt hlu
      have hcel : ∀ i u, ([.int .i64 k, .string n, .slice ad len cp] : List Value)[i]? = some u → wr.cell? ⟨g, j * 3 + i, none⟩ = some u := fun i u hu => by
        have hi3 : i < 3 := by
          rcases Nat.lt_or_ge i 3 with h | h
          · exact h
          · rw [List.getElem?_eq_none (by simpa using h)] at hu; cases hu
        rw [hbel.cell (p := ⟨g, j * 3 + i, none⟩) hg]
        refine HC.out _ _ ?_
        rw [elCells_get es j i hlt hi3, he]
        exact hu
      have e0 := hcel 0 _ rfl
      have e1 := hcel 1 _ rfl
      have e2 := hcel 2 _ rfl
      rw [Nat.add_zero] at e0
      have HT : Hid (TyAt w B us[j].1 (.agg #[.int .i64 k, .string n, .slice ad len cp]) us[j].2) := hT
      have hnj := HN.out us[j] (List.getElem_mem hlu)
      have HD : Hid ((if wrongT us[j].1 us[j].2 = 0 then wrongs (us.drop (j + 1)) else wrongT us[j].1 us[j].2) = R) := by
        have := HJ.out
        rw [List.drop_eq_getElem_cons hlu] at this
        exact this
      generalize us[j] = u at HT hnj HD hT
      clear hcel he HR HJ
      have HWr : Hid (Below w.heap.size w wr) := hbel
      have CW : ∀ W, Below wr.heap.size wr W → Calls Tryz.prog 56 #[.agg #[.int .i64 k, .string n, .slice ad len cp]] W fun r w' => r = .returned (.int .i64 (wrongT u.1 u.2)) ∧ Below W.heap.size W w' := fun W hb => by
        have h1 : Below w.heap.size w W := hbel.trans (hb.mono hbel.size)
        exact wrongType_any u.1 _ u.2 W B (Nat.le_trans hB h1.size) (hT.on (h1.mono hB)) hnj
      obtain ⟨U, hU, hbU, hsU, u0, u1, u2⟩ := cells_box wr (.int .i64 k) (.string n) (.slice ad len cp) 25
      have CU := CW U hbU
      have HX : Hid (∀ w1, Below U.heap.size U w1 → Below w.heap.size w w1) := fun w1 hb => HWr.out.trans ((hbU.trans (hb.mono hbU.size)).mono HWr.out.size)
      generalize wrongT u.1 u.2 = e at CU HD
      clear hT hbU hsU CW HT hnj
      go_upto_region 4 with fail
      rw [← hU]
      generalize wr.heap.size = z1 at u0 u1 u2 ⊢
      clear hU e0 e1 e2
      by_cases h0 : e = 0
      · subst h0
        rw [if_pos rfl] at HD
        go_wp2_with (go_at_call 56; (with_reducible refine Calls.mono CU ?_); rintro e' w1 ⟨rfl, hb1⟩)
        have hb2 := HX.out _ hb1
        go_roundw
        case rel => exact ⟨j + 1, by omega, by go_num, hb2, HD.out⟩
        case measure => simp [intOf]; omega
      · rw [if_neg h0] at HD
        have h0' : (e != 0) = true := by simpa using h0
        have h0'' : (e == 0) = false := by simpa using h0
        go_wp2_with (go_at_call 56; (with_reducible refine Calls.mono CU ?_); rintro e' w1 ⟨rfl, hb1⟩)
        go_ret
        exact ⟨by rw [← HD.out]; rfl, HX.out _ hb1⟩
    · have HE : Hid (R = 0) := by
        have := HJ.out
        rw [List.drop_eq_nil_of_le (by have := HS.out.len; omega)] at this
        exact this.symm
      clear HR HJ
      go_wp2
      go_ret
      exact ⟨by rw [HE.out]; rfl, hbel⟩
end Go.Proofs.YthcejnpknjepfaaGreat
