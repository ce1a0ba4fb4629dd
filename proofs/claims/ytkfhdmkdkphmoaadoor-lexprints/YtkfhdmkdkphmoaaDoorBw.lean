/- The contract of LexBack: it answers true, whatever it is handed. -/
import Derived.Test.YtkfhdmkdkphmoaaDoorPa
import Derived.Test.YtkfhdmkdkphmoaaDoorLb
import Derived.Test.YtkfhdmkdkphmoaaDoorAA
import Derived.Test.YtkfhdmkdkphmoaaDoorLex
import Derived.Lib.SmallJoins
namespace Go.Proofs.YtkfhdmkdkphmoaaDoor
open Go.RowKit

theorem own_stay {w w' : World} {B e size n : Nat} {v : Value} {xs : List Value} (h : w.ownsRow B e size v n xs) (hb : Below w.heap.size w w') : w'.ownsRow B e size v n xs := by
  refine ⟨h.1, ?_⟩
  rcases h.2 with h0 | ⟨g, cap, cur, rfl, hg, hgg, rest⟩
  · exact .inl h0
  · exact .inr ⟨g, cap, cur, rfl, hg, by rw [hb.block g (Array.getElem?_eq_some_iff.1 hgg).1]; exact hgg, rest⟩

theorem lex_fine (s : ByteArray) (w : World) {ts : List Tk} (hs : s.size ≤ 65536) (hC : Cl w) (h1 : 1 < w.heap.size) (h : lexL 0 (rest s 0) 0 = .ok ts) :
    Calls Tryd.prog 12 #[.string s] w fun e w' => (∃ tk, e = .returned (.tuple #[tk, .nilIface]) ∧ w'.ownsRow w.heap.size 28 4 tk ts.length (rowCells ts)) ∧ Below w.heap.size w w' := by
  have := lex_any s w hs hC h1
  rw [h] at this
  exact this

theorem lex_off (s : ByteArray) (w : World) {c p : Nat} (hs : s.size ≤ 65536) (hC : Cl w) (h1 : 1 < w.heap.size) (h : lexL 0 (rest s 0) 0 = .error (c, p)) :
    Calls Tryd.prog 12 #[.string s] w fun e w' => (∃ b, w.heap.size ≤ b ∧ e = .returned (.tuple #[.slice none 0 0, .iface 48 (.pointer (some ⟨b, 0, none⟩))]) ∧ w'.heap[b]? = some (.cells (faultCells c p) 37 (0, 0))) ∧ Below w.heap.size w w' := by
  have := lex_any s w hs hC h1
  rw [h] at this
  exact this

/-- The table of powers of ten. -/
def Pt (w : World) : Prop := Lib.TabIs Tryd.prog w "internal/strconv.uint64pow10" .u64 Lib.pow10Tab
theorem Tryd.powG : Tryd.prog.globalNamed "internal/strconv.uint64pow10" = some 3 := by kernel_rfl
theorem Pt.below {w w' : World} (h : Pt w) (hb : Below w.heap.size w w') : Pt w' := Go.Joins.tab_stays Tryd.powG h hb (Nat.le_refl _)
theorem Pt.tb {w w' : World} (h : Pt w) (hb : Below w.heap.size w w') : Tb w'.heap.size w' := Lib.tabBelow_of_tabIs (h.below hb)

theorem good_congr {ts us : List Tk} (h : ts.map bareT = us.map bareT) (hg : GoodTs ts) : GoodTs us := by
  intro u hu
  have : bareT u ∈ ts.map bareT := by rw [h]; exact List.mem_map_of_mem hu
  obtain ⟨t, ht, he⟩ := List.mem_map.1 this
  have := hg t ht
  simp [bareT] at he
  rw [← he.1, ← he.2.1, ← he.2.2]
  exact this
theorem len_congr {ts us : List Tk} {n : Nat} (h : ts.map bareT = us.map bareT) (hg : ∀ t ∈ ts, t.2.1.length ≤ n) : ∀ t ∈ us, t.2.1.length ≤ n := by
  intro u hu
  have : bareT u ∈ ts.map bareT := by rw [h]; exact List.mem_map_of_mem hu
  obtain ⟨t, ht, he⟩ := List.mem_map.1 this
  have := hg t ht
  simp [bareT] at he
  rw [← he.2.1]
  exact this
theorem good6 {ts : List Tk} (h : GoodTs ts) : ∀ t ∈ ts, t.1 = 6 → t.2.2.1 ≤ 4611686018427387903 := by
  intro t ht h6
  rcases h t ht with ⟨_, _, q⟩ | ⟨q, _⟩ | ⟨q, _⟩ | ⟨q, _⟩
  · exact q
  · omega
  · omega
  · omega
theorem good7 {ts : List Tk} (h : GoodTs ts) : ∀ t ∈ ts, t.1 = 7 → t.2.2.1 < 256 := by
  intro t ht h7
  rcases h t ht with ⟨q, _⟩ | ⟨_, _, q⟩ | ⟨q, _⟩ | ⟨_, q, _⟩
  · omega
  · omega
  · omega
  · omega
theorem print_good (v : Value) (ts : List Tk) (C : Nat) (w : World) (hC : Cl w) (hP : Pt w) (hw : 1 < w.heap.size) (hv : w.ownsRow C 28 4 v ts.length (rowCells ts)) (hl : ts.length ≤ 20000) (hg : GoodTs ts) (hsz : ∀ t ∈ ts, t.2.1.length ≤ 65536) :
    Calls Tryd.prog 10 #[v] w fun e w' => e = .returned (joinVal (joinA true [] ts)) ∧ Below w.heap.size w w' :=
  print_all v ts C w hC hw hv hl (fun _ hb => hP.tb hb) (good6 hg) (good7 hg) (fun t ht => by have := hsz t ht; omega) (fun t ht => tok_of_good (hg t ht))

theorem tail_le (ts : List Tk) : (tailA true ts).length ≤ (tailA false ts).length := by
  cases ts with
  | nil => simp [tailA]
  | cons t r => simp [tailA]

set_option maxHeartbeats 4000000 in
set_option maxRecDepth 10000 in
theorem back_any (a : ByteArray) (w : World) (hCl : Cl w) (hP : Pt w) (h1 : 1 < w.heap.size) (ha : a.size ≤ 140737488351232) :
    Calls Tryd.prog 4 #[.string a] w fun e w' => e = .returned (.bool true) ∧ Below w.heap.size w w' := by
  have AW := awake_any w hCl h1
  by_cases hbig : 65536 < a.size
  · have LL := fun W => lex_long a W hbig (by unfold maxLen; omega)
    clear hCl hP h1 ha hbig
    go_enter Tryd.func4, Tryd.ntmps4
    go_wp2_with (first | (go_at_call 8; with_reducible refine Calls.mono AW ?_; rintro e w1 ⟨rfl, hb1⟩) | (go_at_call 12; with_reducible refine Calls.mono (LL w1) ?_; rintro e w3 ⟨⟨ba, _, rfl, _⟩, hb3⟩))
    go_ret
    exact ⟨rfl, hb1.trans (hb3.mono hb1.size)⟩
  · have hsz : a.size ≤ 65536 := by omega
    clear hbig ha
    cases hla : lexL 0 (rest a 0) 0 with
    | error x =>
      obtain ⟨ca, pa⟩ := x
      have LA := fun W (h : Below w.heap.size w W) => lex_off a W hsz (hCl.below h h1) (Nat.lt_of_lt_of_le h1 h.size) hla
      clear hla hCl hP h1
      go_enter Tryd.func4, Tryd.ntmps4
      go_wp2_with (first | (go_at_call 8; with_reducible refine Calls.mono AW ?_; rintro e w1 ⟨rfl, hb1⟩) | (go_at_call 12; with_reducible refine Calls.mono (LA w1 hb1) ?_; rintro e w3 ⟨⟨ba, _, rfl, _⟩, hb3⟩))
      go_ret
      exact ⟨rfl, hb1.trans (hb3.mono hb1.size)⟩
    | ok l =>
      have LA := fun W (h : Below w.heap.size w W) => lex_fine a W hsz (hCl.below h h1) (Nat.lt_of_lt_of_le h1 h.size) hla
      obtain ⟨hg, htx, htail⟩ := lexL_all _ _ _ _ _ (Nat.le_refl _) hla
      have hll := lexL_max _ _ _ _ _ (Nat.le_refl _) hla (by omega)
      rw [rest_len] at htx htail
      have htx' : ∀ t ∈ l, t.2.1.length ≤ 65536 := fun t ht => by have := htx t ht; omega
      have PR := fun W (h : Below w.heap.size w W) v C hv => print_good v l C W (hCl.below h h1) (hP.below h) (Nat.lt_of_lt_of_le h1 h.size) hv (by omega) hg htx'
      cases hj : joinA true [] l with
      | none =>
        have hlong : 1000 < a.size := by
          rcases joinA_none _ _ _ hj with h | ⟨t, ht, h⟩
          · have := tail_le l
            simp at h
            omega
          · have := htx' t ht
            omega
        have hlong' : (1000 : Int) < (a.size : Int) := by omega
        rw [hj] at PR
        have PR2 : ∀ W, Below w.heap.size w W → ∀ v C, W.ownsRow C 28 4 v l.length (rowCells l) → Calls Tryd.prog 10 #[v] W fun e w' => e = .returned (.tuple #[.string ⟨#[]⟩, .int .i64 4]) ∧ Below W.heap.size W w' := PR
        clear hla hCl hP h1 PR hj hg htx htail htx' hll hlong
        go_enter Tryd.func4, Tryd.ntmps4
        go_wp2_with (first
          | (go_at_call 8; with_reducible refine Calls.mono AW ?_; rintro e w1 ⟨rfl, hb1⟩)
          | (go_at_call 12; with_reducible refine Calls.mono (LA w1 hb1) ?_; rintro e w3 ⟨⟨tl, rfl, OL⟩, hb3⟩; have B3 := hb1.trans (hb3.mono hb1.size))
          | (go_at_call 10; with_reducible refine Calls.mono (PR2 w3 B3 tl _ OL) ?_; rintro e w4 ⟨rfl, hb4⟩))
        go_ret
        exact ⟨rfl, B3.trans (hb4.mono B3.size)⟩
      | some s =>
        obtain ⟨hs1, hs2⟩ := joinA_some _ _ _ _ hj
        rw [List.nil_append] at hs1
        have hbare := placeA_bare l 0 true
        have hlex : lexL 0 (rest ⟨s.toArray⟩ 0) 0 = .ok (placeA 0 true l) := by
          have e : rest ⟨s.toArray⟩ 0 = s := by simp [rest]
          rw [e, hs1]
          exact lexL_tail l 0 0 true hg (by omega)
        have hss : (⟨s.toArray⟩ : ByteArray).size ≤ 65536 := by show s.toArray.size ≤ 65536; simpa using hs2
        have LS := fun W (h : Below w.heap.size w W) => lex_fine ⟨s.toArray⟩ W hss (hCl.below h h1) (Nat.lt_of_lt_of_le h1 h.size) hlex
        have hpl : (placeA 0 true l).length = l.length := bare_len hbare
        have PS := fun W (h : Below w.heap.size w W) v C hv => print_good v (placeA 0 true l) C W (hCl.below h h1) (hP.below h) (Nat.lt_of_lt_of_le h1 h.size) hv (by omega) (good_congr hbare.symm hg) (len_congr hbare.symm htx')
        rw [joinA_congr _ l true [] hbare, hj] at PS
        rw [hj] at PR
        have PR2 : ∀ W, Below w.heap.size w W → ∀ v C, W.ownsRow C 28 4 v l.length (rowCells l) → Calls Tryd.prog 10 #[v] W fun e w' => e = .returned (.tuple #[.string ⟨s.toArray⟩, .int .i64 0]) ∧ Below W.heap.size W w' := PR
        have PS2 : ∀ W, Below w.heap.size w W → ∀ v C, W.ownsRow C 28 4 v (placeA 0 true l).length (rowCells (placeA 0 true l)) → Calls Tryd.prog 10 #[v] W fun e w' => e = .returned (.tuple #[.string ⟨s.toArray⟩, .int .i64 0]) ∧ Below W.heap.size W w' := PS
        have AL := fun W v1 v2 h1' h2' => alike_any v1 v2 l (placeA 0 true l) W h1' h2' (by omega) hbare.symm
        generalize placeA 0 true l = pl at *
        generalize (⟨s.toArray⟩ : ByteArray) = sb at *
        clear hla hCl hP h1 PR PS hj hg htx htail htx' hll hs1 hs2 hbare hlex hpl
        go_enter Tryd.func4, Tryd.ntmps4
        go_wp2_with (first
          | (go_at_call 8; with_reducible refine Calls.mono AW ?_; rintro e w1 ⟨rfl, hb1⟩)
          | (go_at_call 12; with_reducible refine Calls.mono (LA w1 hb1) ?_; rintro e w3 ⟨⟨tl, rfl, OL⟩, hb3⟩; have B3 := hb1.trans (hb3.mono hb1.size))
          | (go_at_call 10; with_reducible refine Calls.mono (PR2 w3 B3 tl _ OL) ?_; rintro e w4 ⟨rfl, hb4⟩; have B4 := B3.trans (hb4.mono B3.size); have OL4 := own_stay OL hb4)
          | (go_at_call 12; with_reducible refine Calls.mono (LS w4 B4) ?_; rintro e w5 ⟨⟨tm, rfl, OM⟩, hb5⟩; have B5 := B4.trans (hb5.mono B4.size); have OL5 := own_stay OL4 hb5)
          | (go_at_call 13; with_reducible refine Calls.mono (AL w5 tl tm (RowAt.of_own OL5) (RowAt.of_own OM)) ?_; rintro e w6 ⟨rfl, n1, rfl⟩; have B6 := below_drewN B5 n1; have OM6 := own_stay OM (below_drewN (Below.refl w5.heap.size w5) n1))
          | (go_at_call 10; with_reducible refine Calls.mono (PS2 (w5.drewN n1) B6 tm _ OM6) ?_; rintro e w7 ⟨rfl, hb7⟩))
        go_ret
        exact ⟨rfl, B6.trans (hb7.mono B6.size)⟩
end Go.Proofs.YtkfhdmkdkphmoaaDoor
