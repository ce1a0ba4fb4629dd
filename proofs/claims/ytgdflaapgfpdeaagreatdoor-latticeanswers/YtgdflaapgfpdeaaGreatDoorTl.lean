/- TypeLeft and GreatType: how many parts are left behind a type. -/
import Derived.Test.YtgdflaapgfpdeaaGreatDoorMdx
import Derived.WalkKit
import Derived.WalkSpells
import Derived.WalkLawsBesides
import Derived.WalkMore
import Derived.Deep.RegionHeld3
import Derived.Deep.Cut
import Derived.BigQuiet
namespace Go.Proofs.YtgdflaapgfpdeaaGreatDoor
open Go.RowKit

/-- How many of so many parts are left behind a tree. -/
def leftT : (d : Nat) → Tn d → Int → Int → Int
  | 0, t, _, _ => t.elim
  | d + 1, t, left, deep => if deep < 1 then -1 else t.2.foldl (fun l a => if 0 ≤ l then leftT d a l (deep - 1) else l) (left - 1)
/-- Behind some trees. -/
def leftsT (d : Nat) (ts : List (Tn d)) (l deep : Int) : Int := ts.foldl (fun l a => if 0 ≤ l then leftT d a l deep else l) l
theorem left_succ (d : Nat) (k : Int) (n : List UInt8) (ts : List (Tn d)) (left deep : Int) : leftT (d + 1) ((k, n), ts) left deep = if deep < 1 then -1 else leftsT d ts (left - 1) (deep - 1) := rfl
theorem lefts_neg (d : Nat) : ∀ (ts : List (Tn d)) (l deep : Int), l < 0 → leftsT d ts l deep = l
  | [], _, _, _ => rfl
  | _ :: ts, l, deep, h => by
    show leftsT d ts (if 0 ≤ l then _ else l) deep = l
    rw [if_neg (by omega)]
    exact lefts_neg d ts l deep h
theorem lefts_cons (d : Nat) (t : Tn d) (ts : List (Tn d)) (l deep : Int) (h : 0 ≤ l) : leftsT d (t :: ts) l deep = leftsT d ts (leftT d t l deep) deep := by
  show leftsT d ts (if 0 ≤ l then _ else l) deep = _
  rw [if_pos h]
theorem lefts_range (d : Nat) (ih : ∀ (t : Tn d) (left deep : Int), 0 ≤ left → -1 ≤ leftT d t left deep ∧ leftT d t left deep ≤ left - 1 ∧ (0 ≤ leftT d t left deep → leftT d t left deep = left - (flat d t).length)) :
    ∀ (ts : List (Tn d)) (l deep : Int), -1 ≤ l → -1 ≤ leftsT d ts l deep ∧ leftsT d ts l deep ≤ l ∧ (0 ≤ leftsT d ts l deep → leftsT d ts l deep = l - (flats d ts).length)
  | [], l, deep, h => ⟨h, Int.le_refl _, fun _ => by simp [flats, leftsT]⟩
  | t :: ts, l, deep, h => by
    by_cases h0 : 0 ≤ l
    · rw [lefts_cons d t ts l deep h0]
      obtain ⟨h1, h2, h3⟩ := ih t l deep h0
      obtain ⟨h4, h5, h6⟩ := lefts_range d ih ts (leftT d t l deep) deep h1
      refine ⟨h4, by omega, fun h7 => ?_⟩
      have h8 := h6 h7
      have h9 := h3 (by omega)
      rw [flats_cons, List.length_append]
      omega
    · rw [lefts_neg d _ l deep (by omega)]
      exact ⟨h, Int.le_refl _, fun h => by omega⟩
theorem left_range : ∀ (d : Nat) (t : Tn d) (left deep : Int), 0 ≤ left → -1 ≤ leftT d t left deep ∧ leftT d t left deep ≤ left - 1 ∧ (0 ≤ leftT d t left deep → leftT d t left deep = left - (flat d t).length)
  | 0, t, _, _, _ => t.elim
  | d + 1, ((k, n), ts), left, deep, h => by
    rw [left_succ]
    split
    · exact ⟨by omega, by omega, fun h => by omega⟩
    · obtain ⟨h1, h2, h3⟩ := lefts_range d (left_range d) ts (left - 1) (deep - 1) (by omega)
      refine ⟨h1, h2, fun h4 => ?_⟩
      rw [h3 h4, flat_succ, List.length_cons]
      omega

set_option maxHeartbeats 4000000 in
set_option maxRecDepth 10000 in
theorem left_any : ∀ (d : Nat) (x : Value) (t : Tn d) (left deep : Int) (w : World) (B : Nat), B ≤ w.heap.size → TyAt w B d x t → 0 ≤ left → left ≤ 4194304 → -100 ≤ deep → deep ≤ 65536 →
    Calls Tryz.prog 18 #[x, .int .i64 left, .int .i64 deep] w fun r w' => r = .returned (.int .i64 (leftT d t left deep)) ∧ Below w.heap.size w w'
  | 0, _, _, _, _, _, _, _, h, _, _, _, _ => h.elim
  | d + 1, x, ((k, n), ts), left, deep, w, B, hB, ⟨v, hx, h1, h2, h⟩, hl0, hl1, hd0, hd1 => by
    have IH := fun (x : Value) (t : Tn d) => left_any d x t
    simp only at hx h1 h2 h
    subst hx
    obtain ⟨ad, cap, rfl, hrow⟩ := h.cells
    rw [left_succ]
    obtain ⟨W, hW, hbW, hsW, b0, b1, b2⟩ := cells_box w (.int .i64 k) (.string ⟨n.toArray⟩) (.slice ad ts.length cap) 24
    by_cases hd : deep < 1
    · rw [if_pos hd]
      clear IH h hrow
      go_enter Tryz.func18, Tryz.ntmps18
      go_wp2
      go_ret
      exact ⟨rfl, by rw [← hW]; exact hbW⟩
    · rw [if_neg hd]
      generalize hR : leftsT d ts (left - 1) (deep - 1) = R
      have HR : Hid (leftsT d ts (left - 1) (deep - 1) = R) := hR
      have HW : Hid (Below w.heap.size w W) := hbW
      have HS : Hid (W.heap.size = w.heap.size + 1) := hsW
      have HB : Hid (B ≤ w.heap.size) := hB
      have HC : Hid (ts ≠ [] → ∃ g o, ad = some ⟨g, o, none⟩ ∧ ts.length ≤ cap ∧ g < B ∧
        ∀ j (h : j < ts.length), ∃ k n ad' len' cap', (∀ w', Below B w w' → w'.cell? ⟨g, o + j * 3, none⟩ = some (.int .i64 k) ∧ w'.cell? ⟨g, o + j * 3 + 1, none⟩ = some (.string n) ∧ w'.cell? ⟨g, o + j * 3 + 2, none⟩ = some (.slice ad' len' cap')) ∧ TyAt w B d (.agg #[.int .i64 k, .string n, .slice ad' len' cap']) ts[j]) := hrow
      have hl2 : left - 1 ≤ 4194304 := by omega
      have hl3 : -1 ≤ left - 1 := by omega
      clear hR hrow h hB
      go_enter Tryz.func18, Tryz.ntmps18
      go_wp2
      rw [← hW]
      generalize hz : w.heap.size = z at b0 b1 b2 ⊢
      have HZ : Hid (w.heap.size = z) := hz
      clear hW hbW hsW hz
      go_loopw [1, 7] (fun l i wr => ∃ (j : Nat) (L : Int), j ≤ ts.length ∧ i = .int .i64 j ∧ l = .int .i64 L ∧ -1 ≤ L ∧ L ≤ 4194304 ∧ Below (z + 1) W wr ∧ Hid (leftsT d (ts.drop j) L (deep - 1) = R)) (fun _ i _ => ts.length - (intOf i).toNat)
      case atStart => exact ⟨0, left - 1, by omega, by go_num, by go_num, hl3, hl2, Below.refl _ _, HR.out⟩
      case round =>
        obtain ⟨j, L, hj, rfl, rfl, hL0, hL1, hbel, HJ⟩ := hrel
        have x2 := (hbel.cell (p := ⟨z, 2, none⟩) (by simp)).trans b2
        by_cases hlt : j < ts.length ∧ 0 ≤ L
        · obtain ⟨hlt, hLp⟩ := hlt
          obtain ⟨g, o, rfl, hcap, hg, hel⟩ := HC.out (by intro h; rw [h] at hlt; simp at hlt)
          obtain ⟨k1, n1, ad1, l1, cp1, hcel, T1⟩ := hel j hlt
          have hzB : B ≤ z := by have := HB.out; have := HZ.out; omega
          have hwz : Below z w wr := by
            have := HW.out
            rw [HZ.out] at this
            exact this.trans (hbel.mono (by omega))
          obtain ⟨p0, p1, p2⟩ := hcel wr (hwz.mono hzB)
          have hzr : z + 1 ≤ wr.heap.size := by have := hbel.size; have := HS.out; have := HZ.out; omega
          have CJ := IH _ _ L (deep - 1) wr B (by omega) (T1.on (hwz.mono hzB)) hLp hL1 (by omega) (by omega)
          have hrg := left_range d ts[j] L (deep - 1) hLp
          have HN : Hid (leftsT d (ts.drop (j + 1)) (leftT d ts[j] L (deep - 1)) (deep - 1) = R) := by
            show _ = R
            rw [← HJ.out, List.drop_eq_getElem_cons hlt, lefts_cons _ _ _ _ _ hLp]
          generalize leftT d ts[j] L (deep - 1) = L2 at CJ hrg HN
          obtain ⟨r1, r2, _⟩ := hrg
          have i1 : (0 : Int) ≤ (j : Int) := by omega
          have i2 : (j : Int) < (ts.length : Int) := by omega
          have hjl : j + 1 ≤ ts.length := hlt
          have hL2 : L2 ≤ 4194304 := by omega
          clear T1 IH b0 b1 b2 hcel hel HJ
          go_wp2_with (go_at_call 18; (with_reducible refine Calls.mono CJ ?_); rintro e' w1 ⟨rfl, hb1⟩)
          have hb2 : Below (z + 1) W w1 := hbel.trans (hb1.mono hzr)
          go_roundw
          case rel => exact ⟨j + 1, L2, hjl, by go_num, rfl, r1, hL2, hb2, HN⟩
          case measure => simp [intOf]; omega
        · have HF : Hid (R = L) := by
            show R = L
            rw [← HJ.out]
            by_cases hL : L < 0
            · rw [lefts_neg _ _ _ _ hL]
            · rw [List.drop_eq_nil_of_le (by omega)]; rfl
          clear IH
          by_cases hj2 : j < ts.length
          · have hLn : ¬ 0 ≤ L := fun h => hlt ⟨hj2, h⟩
            clear hlt
            go_wp2
            go_ret
            exact ⟨by rw [HF.out]; rfl, by have h := HW.out; rw [HZ.out] at h ⊢; exact h.trans (hbel.mono (by omega))⟩
          · clear hlt
            go_wp2
            go_ret
            exact ⟨by rw [HF.out]; rfl, by have h := HW.out; rw [HZ.out] at h ⊢; exact h.trans (hbel.mono (by omega))⟩

/-- Has a tree more parts than there may be? -/
def greatT (d : Nat) (t : Tn d) : Bool := decide (leftT d t 4194304 65536 < 0)
theorem great_nodes {d : Nat} {t : Tn d} (h : greatT d t = false) : (flat d t).length ≤ 4194304 := by
  have h := of_decide_eq_false h
  obtain ⟨h1, h2, h3⟩ := left_range d t 4194304 65536 (by omega)
  have := h3 (by omega)
  omega
set_option maxHeartbeats 4000000 in
set_option maxRecDepth 10000 in
theorem great_any (d : Nat) (x : Value) (t : Tn d) (w : World) (h : TyAt w w.heap.size d x t) :
    Calls Tryz.prog 5 #[x] w fun r w' => r = .returned (.bool (greatT d t)) ∧ Below w.heap.size w w' := by
  obtain ⟨d, rfl⟩ : ∃ e, d = e + 1 := by
    cases d with
    | zero => exact h.elim
    | succ e => exact ⟨e, rfl⟩
  have hrg := left_range _ t 4194304 65536 (by omega)
  unfold greatT
  have C := fun W (hb : Below w.heap.size w W) => left_any _ x t 4194304 65536 W w.heap.size hb.size (h.on hb) (by omega) (by omega) (by omega) (by omega)
  generalize leftT (d + 1) t 4194304 65536 = L at C hrg ⊢
  obtain ⟨v, hx, h1, h2, h⟩ := h
  subst hx
  obtain ⟨ad, cap, rfl⟩ := h.len
  generalize t.1.1 = k at *
  generalize t.1.2 = n at *
  generalize t.2.length = len at *
  clear h
  obtain ⟨W, hW, hbW, hsW, b0, b1, b2⟩ := cells_box w (.int .i64 k) (.string ⟨n.toArray⟩) (.slice ad len cap) 24
  have C := C W hbW
  have HW : Hid (Below w.heap.size w W) := hbW
  have HS : Hid (W.heap.size = w.heap.size + 1) := hsW
  clear hbW hsW
  go_enter Tryz.func5, Tryz.ntmps5
  rw [hW] at C
  go_wp2_with (go_at_call 18; (with_reducible refine Calls.mono C ?_); rintro e' w1 ⟨rfl, hb1⟩)
  go_ret
  exact ⟨rfl, HW.out.trans (by rw [← hW] at hb1; exact hb1.mono (by have := HS.out; omega))⟩
end Go.Proofs.YtgdflaapgfpdeaaGreatDoor
