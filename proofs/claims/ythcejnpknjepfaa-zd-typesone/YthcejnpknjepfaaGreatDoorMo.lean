/- TypeLeft and GreatType: how many parts are left behind a type. Types in memory of which it is known in which blocks they lie; rows of types that are made one by one. Same (of the document's own package): are two types the same? TypesBack answers true, whatever type and text it is handed, if Print, Read and awake answer as the document says. Types whose lists are their owner's. Reads whose answers are their owner's read as the document says. Rows of bounds in memory; sameBounds of rows that are the same. -/
import Derived.Test.YthcejnpknjepfaaGreatDoorMt
import Derived.WalkKit
import Derived.WalkSpells
import Derived.WalkLawsBesides
import Derived.WalkMore
import Derived.Deep.RegionHeld3
import Derived.Deep.Cut
import Derived.BigQuiet
import Derived.Laws.AppendOwn
import Derived.Deep.AppendLies
import Derived.OwnWalk
import Derived.Test.YthcejnpknjepfaaGreatDoorPl
import Derived.Deep.Onto
namespace Go.Proofs.YthcejnpknjepfaaGreatDoor
open Go.RowKit

/-- How many of so many parts are left behind a tree. -/
def leftT : (d : Nat) → Tn d → Int → Int → Int
  | 0, t, _, _ => t.elim
  | d + 1, t, left, deep => if deep < 1 then -1 else t.2.foldl (fun l a => if 0 ≤ l then leftT d a l (deep - 1) else l) (left - 1)
/-- Behind some trees. -/
def leftsT (d : Nat) (ts : List (Tn d)) (l deep : Int) : Int := ts.foldl (fun l a => if 0 ≤ l then leftT d a l deep else l) l
theorem left_succ (d : Nat) (k : Int) (n : List UInt8) (ts : List (Tn d)) (left deep : Int) : leftT (d + 1) ((k, n), ts) left deep = if deep < 1 then -1 else leftsT d ts (left - 1) (deep - 1) := rfl
theorem lefts_neg (d : Nat) : ∀ (ts : List (Tn d)) (l deep : Int), l < 0 → leftsT d ts l deep = l
  | [], _, _, _ => rfl
  | _ :: ts, l, deep, h => by
    show leftsT d ts (if 0 ≤ l then _ else l) deep = l
    rw [if_neg (by omega)]
    exact lefts_neg d ts l deep h
theorem lefts_cons (d : Nat) (t : Tn d) (ts : List (Tn d)) (l deep : Int) (h : 0 ≤ l) : leftsT d (t :: ts) l deep = leftsT d ts (leftT d t l deep) deep := by
  show leftsT d ts (if 0 ≤ l then _ else l) deep = _
  rw [if_pos h]
theorem lefts_range (d : Nat) (ih : ∀ (t : Tn d) (left deep : Int), 0 ≤ left → -1 ≤ leftT d t left deep ∧ leftT d t left deep ≤ left - 1 ∧ (0 ≤ leftT d t left deep → leftT d t left deep = left - (flat d t).length)) :
    ∀ (ts : List (Tn d)) (l deep : Int), -1 ≤ l → -1 ≤ leftsT d ts l deep ∧ leftsT d ts l deep ≤ l ∧ (0 ≤ leftsT d ts l deep → leftsT d ts l deep = l - (flats d ts).length)
  | [], l, deep, h => ⟨h, Int.le_refl _, fun _ => by simp [flats, leftsT]⟩
  | t :: ts, l, deep, h => by
    by_cases h0 : 0 ≤ l
    · rw [lefts_cons d t ts l deep h0]
      obtain ⟨h1, h2, h3⟩ := ih t l deep h0
      obtain ⟨h4, h5, h6⟩ := lefts_range d ih ts (leftT d t l deep) deep h1
      refine ⟨h4, by omega, fun h7 => ?_⟩
      have h8 := h6 h7
      have h9 := h3 (by omega)
      rw [flats_cons, List.length_append]
      omega
    · rw [lefts_neg d _ l deep (by omega)]
      exact ⟨h, Int.le_refl _, fun h => by omega⟩
theorem left_range : ∀ (d : Nat) (t : Tn d) (left deep : Int), 0 ≤ left → -1 ≤ leftT d t left deep ∧ leftT d t left deep ≤ left - 1 ∧ (0 ≤ leftT d t left deep → leftT d t left deep = left - (flat d t).length)
  | 0, t, _, _, _ => t.elim
  | d + 1, ((k, n), ts), left, deep, h => by
    rw [left_succ]
    split
    · exact ⟨by omega, by omega, fun h => by omega⟩
    · obtain ⟨h1, h2, h3⟩ := lefts_range d (left_range d) ts (left - 1) (deep - 1) (by omega)
      refine ⟨h1, h2, fun h4 => ?_⟩
      rw [h3 h4, flat_succ, List.length_cons]
      omega

set_option maxHeartbeats 4000000 in
set_option maxRecDepth 10000 in
theorem left_any : ∀ (d : Nat) (x : Value) (t : Tn d) (left deep : Int) (w : World) (B : Nat), B ≤ w.heap.size → TyAt w B d x t → 0 ≤ left → left ≤ 4194304 → -100 ≤ deep → deep ≤ 65536 →
    Calls Tryz.prog 18 #[x, .int .i64 left, .int .i64 deep] w fun r w' => r = .returned (.int .i64 (leftT d t left deep)) ∧ Below w.heap.size w w'
  | 0, _, _, _, _, _, _, _, h, _, _, _, _ => h.elim
  | d + 1, x, ((k, n), ts), left, deep, w, B, hB, ⟨v, hx, h1, h2, h⟩, hl0, hl1, hd0, hd1 => by
    have IH := fun (x : Value) (t : Tn d) => left_any d x t
    simp only at hx h1 h2 h
    subst hx
    obtain ⟨ad, cap, rfl, hrow⟩ := h.cells
    rw [left_succ]
    obtain ⟨W, hW, hbW, hsW, b0, b1, b2⟩ := cells_box w (.int .i64 k) (.string ⟨n.toArray⟩) (.slice ad ts.length cap) 24
    by_cases hd : deep < 1
    · rw [if_pos hd]
      clear IH h hrow
      go_enter Tryz.func18, Tryz.ntmps18
      go_wp2
      go_ret
      exact ⟨rfl, by rw [← hW]; exact hbW⟩
    · rw [if_neg hd]
      generalize hR : leftsT d ts (left - 1) (deep - 1) = R
      have HR : Hid (leftsT d ts (left - 1) (deep - 1) = R) := hR
      have HW : Hid (Below w.heap.size w W) := hbW
      have HS : Hid (W.heap.size = w.heap.size + 1) := hsW
      have HB : Hid (B ≤ w.heap.size) := hB
      have HC : Hid (ts ≠ [] → ∃ g o, ad = some ⟨g, o, none⟩ ∧ ts.length ≤ cap ∧ g < B ∧
        ∀ j (h : j < ts.length), ∃ k n ad' len' cap', (∀ w', Below B w w' → w'.cell? ⟨g, o + j * 3, none⟩ = some (.int .i64 k) ∧ w'.cell? ⟨g, o + j * 3 + 1, none⟩ = some (.string n) ∧ w'.cell? ⟨g, o + j * 3 + 2, none⟩ = some (.slice ad' len' cap')) ∧ TyAt w B d (.agg #[.int .i64 k, .string n, .slice ad' len' cap']) ts[j]) := hrow
      have hl2 : left - 1 ≤ 4194304 := by omega
      have hl3 : -1 ≤ left - 1 := by omega
      clear hR hrow h hB
      go_enter Tryz.func18, Tryz.ntmps18
      go_wp2
      rw [← hW]
      generalize hz : w.heap.size = z at b0 b1 b2 ⊢
      have HZ : Hid (w.heap.size = z) := hz
      clear hW hbW hsW hz
      go_loopw [1, 7] (fun l i wr => ∃ (j : Nat) (L : Int), j ≤ ts.length ∧ i = .int .i64 j ∧ l = .int .i64 L ∧ -1 ≤ L ∧ L ≤ 4194304 ∧ Below (z + 1) W wr ∧ Hid (leftsT d (ts.drop j) L (deep - 1) = R)) (fun _ i _ => ts.length - (intOf i).toNat)
      case atStart => exact ⟨0, left - 1, by omega, by go_num, by go_num, hl3, hl2, Below.refl _ _, HR.out⟩
      case round =>
        obtain ⟨j, L, hj, rfl, rfl, hL0, hL1, hbel, HJ⟩ := hrel
        have x2 := (hbel.cell (p := ⟨z, 2, none⟩) (by simp)).trans b2
        by_cases hlt : j < ts.length ∧ 0 ≤ L
        · obtain ⟨hlt, hLp⟩ := hlt
          obtain ⟨g, o, rfl, hcap, hg, hel⟩ := HC.out (by intro h; rw [h] at hlt; simp at hlt)
          obtain ⟨k1, n1, ad1, l1, cp1, hcel, T1⟩ := hel j hlt
          have hzB : B ≤ z := by have := HB.out; have := HZ.out; omega
          have hwz : Below z w wr := by
            have := HW.out
            rw [HZ.out] at this
            exact this.trans (hbel.mono (by omega))
          obtain ⟨p0, p1, p2⟩ := hcel wr (hwz.mono hzB)
          have hzr : z + 1 ≤ wr.heap.size := by have := hbel.size; have := HS.out; have := HZ.out; omega
          have CJ := IH _ _ L (deep - 1) wr B (by omega) (T1.on (hwz.mono hzB)) hLp hL1 (by omega) (by omega)
          have hrg := left_range d ts[j] L (deep - 1) hLp
          have HN : Hid (leftsT d (ts.drop (j + 1)) (leftT d ts[j] L (deep - 1)) (deep - 1) = R) := by
            show _ = R
            rw [← HJ.out, List.drop_eq_getElem_cons hlt, lefts_cons _ _ _ _ _ hLp]
          generalize leftT d ts[j] L (deep - 1) = L2 at CJ hrg HN
          obtain ⟨r1, r2, _⟩ := hrg
          have i1 : (0 : Int) ≤ (j : Int) := by omega
          have i2 : (j : Int) < (ts.length : Int) := by omega
          have hjl : j + 1 ≤ ts.length := hlt
          have hL2 : L2 ≤ 4194304 := by omega
          clear T1 IH b0 b1 b2 hcel hel HJ
          go_wp2_with (go_at_call 18; (with_reducible refine Calls.mono CJ ?_); rintro e' w1 ⟨rfl, hb1⟩)
          have hb2 : Below (z + 1) W w1 := hbel.trans (hb1.mono hzr)
          go_roundw
          case rel => exact ⟨j + 1, L2, hjl, by go_num, rfl, r1, hL2, hb2, HN⟩
          case measure => simp [intOf]; omega
        · have HF : Hid (R = L) := by
            show R = L
            rw [← HJ.out]
            by_cases hL : L < 0
            · rw [lefts_neg _ _ _ _ hL]
            · rw [List.drop_eq_nil_of_le (by omega)]; rfl
          clear IH
          by_cases hj2 : j < ts.length
          · have hLn : ¬ 0 ≤ L := fun h => hlt ⟨hj2, h⟩
            clear hlt
            go_wp2
            go_ret
            exact ⟨by rw [HF.out]; rfl, by have h := HW.out; rw [HZ.out] at h ⊢; exact h.trans (hbel.mono (by omega))⟩
          · clear hlt
            go_wp2
            go_ret
            exact ⟨by rw [HF.out]; rfl, by have h := HW.out; rw [HZ.out] at h ⊢; exact h.trans (hbel.mono (by omega))⟩

/-- Has a tree more parts than there may be? -/
def greatT (d : Nat) (t : Tn d) : Bool := decide (leftT d t 4194304 65536 < 0)
theorem great_nodes {d : Nat} {t : Tn d} (h : greatT d t = false) : (flat d t).length ≤ 4194304 := by
  have h := of_decide_eq_false h
  obtain ⟨h1, h2, h3⟩ := left_range d t 4194304 65536 (by omega)
  have := h3 (by omega)
  omega
set_option maxHeartbeats 4000000 in
set_option maxRecDepth 10000 in
theorem great_any (d : Nat) (x : Value) (t : Tn d) (w : World) (h : TyAt w w.heap.size d x t) :
    Calls Tryz.prog 5 #[x] w fun r w' => r = .returned (.bool (greatT d t)) ∧ Below w.heap.size w w' := by
  obtain ⟨d, rfl⟩ : ∃ e, d = e + 1 := by
    cases d with
    | zero => exact h.elim
    | succ e => exact ⟨e, rfl⟩
  have hrg := left_range _ t 4194304 65536 (by omega)
  unfold greatT
  have C := fun W (hb : Below w.heap.size w W) => left_any _ x t 4194304 65536 W w.heap.size hb.size (h.on hb) (by omega) (by omega) (by omega) (by omega)
  generalize leftT (d + 1) t 4194304 65536 = L at C hrg ⊢
  obtain ⟨v, hx, h1, h2, h⟩ := h
  subst hx
  obtain ⟨ad, cap, rfl⟩ := h.len
  generalize t.1.1 = k at *
  generalize t.1.2 = n at *
  generalize t.2.length = len at *
  clear h
  obtain ⟨W, hW, hbW, hsW, b0, b1, b2⟩ := cells_box w (.int .i64 k) (.string ⟨n.toArray⟩) (.slice ad len cap) 24
  have C := C W hbW
  have HW : Hid (Below w.heap.size w W) := hbW
  have HS : Hid (W.heap.size = w.heap.size + 1) := hsW
  clear hbW hsW
  go_enter Tryz.func5, Tryz.ntmps5
  rw [hW] at C
  go_wp2_with (go_at_call 18; (with_reducible refine Calls.mono C ?_); rintro e' w1 ⟨rfl, hb1⟩)
  go_ret
  exact ⟨rfl, HW.out.trans (by rw [← hW] at hb1; exact hb1.mono (by have := HS.out; omega))⟩
end Go.Proofs.YthcejnpknjepfaaGreatDoor

namespace Go.Proofs.YthcejnpknjepfaaGreatDoor
open Go.RowKit

/-- The value x is the tree t; the blocks that it leads to are such as S says. -/
def TyS (w : World) (S : Nat → Prop) : (d : Nat) → Value → Tn d → Prop
  | 0, _, _ => False
  | d + 1, x, t => ∃ v, x = .agg #[.int .i64 t.1.1, .string ⟨t.1.2.toArray⟩, v] ∧ t.1.2.length < 140737488355328 ∧ t.2.length < 140737488355328 ∧
      ((t.2 = [] ∧ ∃ ad cap, v = .slice ad 0 cap) ∨ ∃ g o cap, v = .slice (some ⟨g, o, none⟩) t.2.length cap ∧ t.2 ≠ [] ∧ t.2.length ≤ cap ∧ S g ∧
        ∀ j (h : j < t.2.length), ∃ k n u, w.cell? ⟨g, o + j * 3, none⟩ = some (.int .i64 k) ∧ w.cell? ⟨g, o + j * 3 + 1, none⟩ = some (.string n) ∧ w.cell? ⟨g, o + j * 3 + 2, none⟩ = some u ∧ TyS w S d (.agg #[.int .i64 k, .string n, u]) t.2[j])
theorem TyS.on {w w' : World} {S S' : Nat → Prop} (hS : ∀ g, S g → S' g) (hb : ∀ g, S g → w'.heap[g]? = w.heap[g]?) : ∀ (d : Nat) (x : Value) (t : Tn d), TyS w S d x t → TyS w' S' d x t
  | 0, _, _, h => h
  | d + 1, x, t, ⟨v, hx, h1, h2, h⟩ => by
    refine ⟨v, hx, h1, h2, ?_⟩
    rcases h with h | ⟨g, o, cap, hv, h0, hc, hg, h⟩
    · exact .inl h
    · refine .inr ⟨g, o, cap, hv, h0, hc, hS g hg, fun j hj => ?_⟩
      obtain ⟨k, n, u, c0, c1, c2, ht⟩ := h j hj
      have e : ∀ o, w'.cell? ⟨g, o, none⟩ = w.cell? ⟨g, o, none⟩ := fun o => World.cell?_of_block (w := w) (a := ⟨g, o, none⟩) (hb g hg)
      exact ⟨k, n, u, (e _).trans c0, (e _).trans c1, (e _).trans c2, TyS.on hS hb d _ _ ht⟩
theorem TyS.at {w : World} {S : Nat → Prop} {B : Nat} (hS : ∀ g, S g → g < B) : ∀ (d : Nat) (x : Value) (t : Tn d), TyS w S d x t → TyAt w B d x t
  | 0, _, _, h => h
  | d + 1, x, t, ⟨v, hx, h1, h2, h⟩ => by
    refine ⟨v, hx, h1, h2, ?_⟩
    rcases h with h | ⟨g, o, cap, hv, h0, hc, hg, h⟩
    · exact .inl h
    · refine .inr ⟨g, o, cap, hv, h0, hc, hS g hg, fun j hj => ?_⟩
      obtain ⟨k, n, u, c0, c1, c2, ht⟩ := h j hj
      exact ⟨k, n, u, c0, c1, c2, TyS.at hS d _ _ ht⟩
theorem TyS.slice {w : World} {S : Nat → Prop} {d : Nat} {a b u : Value} {t : Tn d} (h : TyS w S d (.agg #[a, b, u]) t) : ∃ ad len cap, u = .slice ad len cap := by
  cases d with
  | zero => exact h.elim
  | succ d =>
    obtain ⟨v, e, _, _, h⟩ := h
    have e : u = v := by
      simp only [Value.agg.injEq, Array.mk.injEq, List.cons.injEq, and_true] at e
      exact e.2.2
    rcases h with ⟨h0, ad, cap, hv⟩ | ⟨g, o, cap, hv, _⟩
    · exact ⟨ad, 0, cap, e.trans hv⟩
    · exact ⟨some ⟨g, o, none⟩, _, cap, e.trans hv⟩
/-- An element's parts: kind, name, arguments. -/
abbrev El := Int × ByteArray × Value
def elCells (e : El) : List Value := [.int .i64 e.1, .string e.2.1, e.2.2]
abbrev elV (e : El) : Value := .agg #[.int .i64 e.1, .string e.2.1, e.2.2]
theorem elCells_get (es : List El) (j i : Nat) (hj : j < es.length) (hi : i < 3) : (es.flatMap elCells)[j * 3 + i]? = (elCells es[j])[i]? := by
  induction es generalizing j with
  | nil => simp at hj
  | cons t r ih =>
    cases j with
    | zero =>
      simp [elCells]
      match i, hi with
      | 0, _ => rfl
      | 1, _ => rfl
      | 2, _ => rfl
    | succ j =>
      have hj' : j < r.length := by simpa using hj
      have e : (t :: r).flatMap elCells = elCells t ++ r.flatMap elCells := by simp
      rw [e, List.getElem?_append_right (by simp [elCells]; omega)]
      have e2 : (j + 1) * 3 + i - (elCells t).length = j * 3 + i := by simp [elCells]; omega
      rw [e2, ih j hj']
      rfl
theorem elCells_len (es : List El) : (es.flatMap elCells).length = es.length * 3 := by
  induction es with
  | nil => rfl
  | cons a r ih => rw [List.flatMap_cons, List.length_append, ih]; simp [elCells]; omega
/-- A row that is made one by one: v owns the cells of es, each of which is a tree that lies in blocks from lo on, none of them the row's own. -/
structure RowM (w : World) (lo d : Nat) (v : Value) (es : List El) (ts : List (Tn d)) : Prop where
  own : w.ownsRow lo 24 3 v es.length (es.flatMap elCells)
  len : es.length = ts.length
  each : ∀ j (h : j < es.length) (h' : j < ts.length), TyS w (fun g => lo ≤ g ∧ g < w.heap.size ∧ v.ownBlock ≠ some g) d (elV es[j]) ts[j]
theorem RowM.nil (w : World) (lo d : Nat) : RowM w lo d (.slice none 0 0) [] [] := ⟨World.ownsRow_nil _ _ _ _, rfl, fun j h => by simp at h⟩
/-- Behind steps that leave all blocks as they were, but for blocks below lo and new ones. -/
theorem RowM.on {w w' : World} {lo d : Nat} {v : Value} {es : List El} {ts : List (Tn d)} (h : RowM w lo d v es ts) (hs : w.heap.size ≤ w'.heap.size) (hb : ∀ g, lo ≤ g → g < w.heap.size → w'.heap[g]? = w.heap[g]?) : RowM w' lo d v es ts := by
  refine ⟨?_, h.len, fun j hj hj' => TyS.on (fun g hg => ⟨hg.1, by omega, hg.2.2⟩) (fun g hg => hb g hg.1 hg.2.1) _ _ _ (h.each j hj hj')⟩
  obtain ⟨h1, h2⟩ := h.own
  refine ⟨h1, ?_⟩
  rcases h2 with h2 | ⟨g, cap, cur, hv, hg, hh, r⟩
  · exact .inl h2
  · refine .inr ⟨g, cap, cur, hv, hg, ?_, r⟩
    rw [hb g hg]
    · exact hh
    · rcases Nat.lt_or_ge g w.heap.size with hlt | hge
      · exact hlt
      · rw [Array.getElem?_eq_none hge] at hh; cases hh
/-- One more. -/
theorem RowM.snoc {w w' : World} {lo d : Nat} {v v' : Value} {es : List El} {ts : List (Tn d)} {e : El} {t : Tn d} {o : Obj} (h : RowM w lo d v es ts) (he : TyS w (fun g => lo ≤ g ∧ g < w.heap.size ∧ v.ownBlock ≠ some g) d (elV e) t)
    (hown : w'.ownsRow lo 24 3 v' (es.length + 1) (es.flatMap elCells ++ elCells e)) (hg : (w.alloc o).grownBy w' v.ownBlock) (hv : v'.ownBlock = v.ownBlock ∨ ∃ g, v'.ownBlock = some g ∧ w.heap.size ≤ g) : RowM w' lo d v' (es ++ [e]) (ts ++ [t]) := by
  have hsz : w.heap.size ≤ w'.heap.size := by have := hg.size; simp at this; omega
  have move : ∀ (x : Value) (u : Tn d), TyS w (fun g => lo ≤ g ∧ g < w.heap.size ∧ v.ownBlock ≠ some g) d x u → TyS w' (fun g => lo ≤ g ∧ g < w'.heap.size ∧ v'.ownBlock ≠ some g) d x u := fun x u hu => by
    refine TyS.on (S := fun g => lo ≤ g ∧ g < w.heap.size ∧ v.ownBlock ≠ some g) (fun g q => ⟨q.1, by omega, ?side⟩) (fun g q => ?keep) d x u hu
    case side =>
      rcases hv with hv | ⟨g', hv, hge⟩
      · rw [hv]; exact q.2.2
      · rw [hv]
        intro e0
        have := Option.some.inj e0
        have := q.2.1
        omega
    case keep =>
      rw [hg.block g (by have := q.2.1; simp; omega) (fun e0 => q.2.2 e0.symm)]
      exact Below.heap_alloc _ _ _ q.2.1
  refine ⟨by simpa using hown, by simp [h.len], fun j hj hj' => ?_⟩
  by_cases hlt : j < es.length
  · have hlt' : j < ts.length := by have := h.len; omega
    rw [List.getElem_append_left hlt, List.getElem_append_left hlt']
    exact move _ _ (h.each j hlt hlt')
  · have h1 : j = es.length := by simp at hj; omega
    subst h1
    have hl := h.len
    rw [List.getElem_concat_length, List.getElem_append_right (by omega)]
    · simp only [hl, Nat.sub_self, List.getElem_cons_zero]
      exact move _ _ he
    · rfl
/-- The tree whose arguments are such a row. -/
theorem RowM.tree {w : World} {lo d : Nat} {v : Value} {es : List El} {ts : List (Tn d)} (h : RowM w lo d v es ts) (k : Int) (n : List UInt8) (hn : n.length < 140737488355328) (hl : ts.length < 140737488355328) :
    TyS w (fun g => lo ≤ g ∧ g < w.heap.size) (d + 1) (.agg #[.int .i64 k, .string ⟨n.toArray⟩, v]) ((k, n), ts) := by
  refine ⟨v, rfl, hn, hl, ?_⟩
  rcases id h.own.2 with ⟨hv, h0⟩ | ⟨g, cap, cur, hv, hb, hh, hcap, _⟩
  · refine .inl ⟨List.length_eq_zero_iff.1 (by rw [← h.len, h0]), none, 0, hv⟩
  · by_cases h0 : es.length = 0
    · refine .inl ⟨List.length_eq_zero_iff.1 (by rw [← h.len, h0]), _, cap, by rw [hv, h0]⟩
    · have hgl : g < w.heap.size := by
        rcases Nat.lt_or_ge g w.heap.size with hlt | hge
        · exact hlt
        · rw [Array.getElem?_eq_none hge] at hh; cases hh
      refine .inr ⟨g, 0, cap, by rw [hv, h.len], ?_, by show ts.length ≤ cap; rw [← h.len]; exact hcap, ⟨hb, hgl⟩, fun j hj => ?_⟩
      · intro e0
        have e0 : ts = [] := e0
        rw [h.len, e0] at h0
        exact h0 rfl
      · have hj : j < ts.length := hj
        have hj' : j < es.length := by rw [h.len]; exact hj
        have hc : ∀ i, i < 3 → ∀ u, (elCells es[j])[i]? = some u → w.cell? ⟨g, 0 + j * 3 + i, none⟩ = some u := by
          intro i hi u hu
          have := h.own.cells (g := g) (by rw [hv]; rfl) (j * 3 + i) u (by rw [elCells_get es j i hj' hi]; exact hu)
          rw [Nat.zero_add]
          have e : (⟨g, 0, none⟩ : Addr).add (j * 3 + i) = ⟨g, j * 3 + i, none⟩ := by
            unfold Addr.add
            split
            · rename_i h0; rw [h0]
            · simp
          rw [e] at this
          exact this
        exact ⟨es[j].1, es[j].2.1, es[j].2.2, hc 0 (by omega) _ rfl, hc 1 (by omega) _ rfl, hc 2 (by omega) _ rfl, TyS.on (fun g q => ⟨q.1, q.2.1⟩) (fun _ _ => rfl) d _ _ (h.each j hj' hj)⟩
theorem Tryz.info24 : (Tryz.prog.info? 24).map (fun i => (i.zero, i.size, i.bytes)) = some (some (.agg #[.int .i64 0, .string ⟨#[]⟩, .slice none 0 0]), 3, 48) := by kernel_rfl
end Go.Proofs.YthcejnpknjepfaaGreatDoor

namespace Go.Proofs.YthcejnpknjepfaaGreatDoor
open Go.RowKit

theorem bytes_eq {n m : List UInt8} : ((⟨n.toArray⟩ : ByteArray) = ⟨m.toArray⟩) ↔ n = m := by
  constructor
  · intro h
    have := congrArg (fun b => b.data.toList) h
    simpa using this
  · rintro rfl; rfl

set_option maxHeartbeats 4000000 in
set_option maxRecDepth 10000 in
theorem same_heads (k k' : Int) (n n' : List UInt8) (ad ad' : Option Addr) (len len' cap cap' : Nat) (w : World) (h : ¬ (k = k' ∧ n = n' ∧ len = len')) :
    Calls Tryz.prog 13 #[.agg #[.int .i64 k, .string ⟨n.toArray⟩, .slice ad len cap], .agg #[.int .i64 k', .string ⟨n'.toArray⟩, .slice ad' len' cap']] w fun r w' => r = .returned (.bool false) ∧ Below w.heap.size w w' := by
  have hb : ∀ o o', Below w.heap.size w ((w.alloc o).alloc o') := fun o o' => ((Below.refl _ _).alloc (Nat.le_refl _) o).alloc (by simp) o'
  by_cases hk : k = k'
  · subst hk
    by_cases hn : n = n'
    · subst hn
      have hne : ¬ (len : Int) = (len' : Int) := fun e => h ⟨rfl, rfl, by omega⟩
      clear h
      go_enter Tryz.func13, Tryz.ntmps13
      go_wp2
      go_ret
      exact ⟨rfl, hb _ _⟩
    · have hne : ¬ ((⟨n.toArray⟩ : ByteArray) = ⟨n'.toArray⟩) := fun e => hn (bytes_eq.1 e)
      clear h
      go_enter Tryz.func13, Tryz.ntmps13
      go_wp2
      go_ret
      exact ⟨rfl, hb _ _⟩
  · clear h
    go_enter Tryz.func13, Tryz.ntmps13
    go_wp2
    go_ret
    exact ⟨rfl, hb _ _⟩

set_option maxHeartbeats 4000000 in
set_option maxRecDepth 10000 in
theorem same_any : ∀ (d e : Nat) (x y : Value) (t : Tn d) (u : Tn e) (w : World) (B : Nat), B ≤ w.heap.size → TyAt w B d x t → TyAt w B e y u →
    Calls Tryz.prog 13 #[x, y] w fun r w' => r = .returned (.bool (decide (flat d t = flat e u))) ∧ Below w.heap.size w w'
  | 0, _, _, _, _, _, _, _, _, h, _ => h.elim
  | _ + 1, 0, _, _, _, _, _, _, _, _, h => h.elim
  | d + 1, e + 1, x, y, ((k, n), ts), ((k', n'), us), w, B, hB, ⟨v, hx, h1, h2, h⟩, ⟨v', hy, h1', h2', h'⟩ => by
    have IH := fun (x y : Value) (t : Tn d) (u : Tn e) => same_any d e x y t u
    simp only at hx hy h1 h2 h1' h2' h h'
    subst hx hy
    by_cases hh : k = k' ∧ n = n' ∧ ts.length = us.length
    · obtain ⟨rfl, rfl, hl⟩ := hh
      have hb : ∀ o o', Below w.heap.size w ((w.alloc o).alloc o') := fun o o' => ((Below.refl _ _).alloc (Nat.le_refl _) o).alloc (by simp) o'
      rcases h with ⟨h0, ad, cap, rfl⟩ | ⟨g, o, cap, rfl, h0, hc, hg, hj⟩
      · subst h0
        obtain rfl : us = [] := List.length_eq_zero_iff.1 hl.symm
        have hR : decide (flat (d + 1) ((k, n), []) = flat (e + 1) ((k, n), [])) = true := by
          rw [decide_eq_true_eq, flat_succ, flat_succ, flats_nil, flats_nil]
          rfl
        rw [hR]
        rcases h' with ⟨_, ad', cap', rfl⟩ | ⟨_, _, _, _, h0', _⟩
        · clear h1 h2 h1' h2' hR IH
          go_enter Tryz.func13, Tryz.ntmps13
          go_wp2
          refine wp_loop_rounds 1 ?_
          rw [rounds_succ]
          go_wp2
          go_ret
          exact ⟨rfl, hb _ _⟩
        · exact absurd rfl h0'
      · rcases h' with ⟨h0', _⟩ | ⟨g', o', cap', rfl, h0', hc', hg', hj'⟩
        · subst h0'
          exact absurd (List.length_eq_zero_iff.1 hl) h0
        · generalize hR : decide (flat (d + 1) ((k, n), ts) = flat (e + 1) ((k, n), us)) = R
          have HR : Hid (decide (flat (d + 1) ((k, n), ts) = flat (e + 1) ((k, n), us)) = R) := hR
          have HL : Hid (ts.length = us.length) := hl
          have HT : Hid (∀ j (h : j < ts.length), ∃ k n u, w.cell? ⟨g, o + j * 3, none⟩ = some (.int .i64 k) ∧ w.cell? ⟨g, o + j * 3 + 1, none⟩ = some (.string n) ∧ w.cell? ⟨g, o + j * 3 + 2, none⟩ = some u ∧ TyAt w B d (.agg #[.int .i64 k, .string n, u]) ts[j]) := hj
          have HU : Hid (∀ j (h : j < us.length), ∃ k n u, w.cell? ⟨g', o' + j * 3, none⟩ = some (.int .i64 k) ∧ w.cell? ⟨g', o' + j * 3 + 1, none⟩ = some (.string n) ∧ w.cell? ⟨g', o' + j * 3 + 2, none⟩ = some u ∧ TyAt w B e (.agg #[.int .i64 k, .string n, u]) us[j]) := hj'
          rw [← hl] at hc' ⊢
          have HB : Hid (B ≤ w.heap.size) := hB
          have HG : Hid (g < B ∧ g' < B) := ⟨hg, hg'⟩
          clear hR hl hj hj' h0 h0' h1 h1' h2' hB hg hg'
          go_enter Tryz.func13, Tryz.ntmps13
          go_wp2
          obtain ⟨W, hW, hbW, hsW, b0, b1, b2, c0, c1, c2⟩ := cells_boxes w (.int .i64 k) (.string ⟨n.toArray⟩) (.slice (some ⟨g, o, none⟩) ts.length cap) (.int .i64 k) (.string ⟨n.toArray⟩) (.slice (some ⟨g', o', none⟩) ts.length cap') 24
          rw [← hW]
          have HW : Hid (Below w.heap.size w W) := hbW
          have HS : Hid (W.heap.size = w.heap.size + 2) := hsW
          generalize hz : w.heap.size = z at b0 b1 b2 c0 c1 c2 ⊢
          have HZ : Hid (w.heap.size = z) := hz
          clear hW hbW hsW hz
          go_loopw [5] (fun i wr => ∃ j : Nat, j ≤ ts.length ∧ i = .int .i64 j ∧ Below (z + 2) W wr ∧ Hid (∀ i (h : i < ts.length) (h' : i < us.length), i < j → flat d ts[i] = flat e us[i])) (fun i _ => ts.length - (intOf i).toNat)
          case atStart => exact ⟨0, by omega, by go_num, Below.refl _ _, fun i _ _ h => by omega⟩
          case round =>
            obtain ⟨j, hj, rfl, hbel, HJ⟩ := hrel
            have x2 := (hbel.cell (p := ⟨z, 2, none⟩) (by simp)).trans b2
            have y2 := (hbel.cell (p := ⟨z + 1, 2, none⟩) (by simp)).trans c2
            by_cases hlt : j < ts.length
            · have hlu : j < us.length := by have := HL.out; omega
              have hzB : B ≤ z := by have := HB.out; have := HZ.out; omega
              have hwz : Below z w wr := by
                have := HW.out
                rw [HZ.out] at this
                exact this.trans (hbel.mono (by omega))
              obtain ⟨hg, hg'⟩ := HG.out
              obtain ⟨k1, n1, u1, p0, p1, p2, T1⟩ := HT.out j hlt
              obtain ⟨k2, n2, u2, q0, q1, q2, T2⟩ := HU.out j hlu
              obtain ⟨ad1, l1, cp1, rfl⟩ := T1.slice
              obtain ⟨ad2, l2, cp2, rfl⟩ := T2.slice
              rw [← hwz.cell (p := ⟨g, o + j * 3, none⟩) (by simp; omega)] at p0
              rw [← hwz.cell (p := ⟨g, o + j * 3 + 1, none⟩) (by simp; omega)] at p1
              rw [← hwz.cell (p := ⟨g, o + j * 3 + 2, none⟩) (by simp; omega)] at p2
              rw [← hwz.cell (p := ⟨g', o' + j * 3, none⟩) (by simp; omega)] at q0
              rw [← hwz.cell (p := ⟨g', o' + j * 3 + 1, none⟩) (by simp; omega)] at q1
              rw [← hwz.cell (p := ⟨g', o' + j * 3 + 2, none⟩) (by simp; omega)] at q2
              have hzr : z + 2 ≤ wr.heap.size := by have := hbel.size; have := HS.out; have := HZ.out; omega
              have CJ : ∀ W', Below z w W' → z ≤ W'.heap.size → Calls Tryz.prog 13 #[.agg #[.int .i64 k1, .string n1, .slice ad1 l1 cp1], .agg #[.int .i64 k2, .string n2, .slice ad2 l2 cp2]] W' fun r w' => r = .returned (.bool (decide (flat d ts[j] = flat e us[j]))) ∧ Below W'.heap.size W' w' :=
                fun W' hb' hs' => IH _ _ _ _ W' B (by omega) (T1.on (hb'.mono hzB)) (T2.on (hb'.mono hzB))
              generalize hr1 : decide (flat d ts[j] = flat e us[j]) = r1 at CJ
              have HR1 : Hid (decide (flat d ts[j] = flat e us[j]) = r1) := hr1
              have i1 : (0 : Int) ≤ (j : Int) := by omega
              have i2 : (j : Int) < (ts.length : Int) := by omega
              clear hr1 T1 T2 IH b0 b1 b2 c0 c1 c2
              go_wp2
              go_region_held3 (fun w' => (w'.cell? ⟨z, 2, none⟩ = some (.slice (some ⟨g, o, none⟩) ts.length cap) ∧ w'.cell? ⟨z + 1, 2, none⟩ = some (.slice (some ⟨g', o', none⟩) ts.length cap')) ∧ (w'.cell? ⟨g, o + j * 3, none⟩ = some (.int .i64 k1) ∧ w'.cell? ⟨g, o + j * 3 + 1, none⟩ = some (.string n1) ∧ w'.cell? ⟨g, o + j * 3 + 2, none⟩ = some (.slice ad1 l1 cp1)) ∧ w'.cell? ⟨g', o' + j * 3, none⟩ = some (.int .i64 k2) ∧ w'.cell? ⟨g', o' + j * 3 + 1, none⟩ = some (.string n2) ∧ w'.cell? ⟨g', o' + j * 3 + 2, none⟩ = some (.slice ad2 l2 cp2)) (first | exact ⟨⟨x2, y2⟩, ⟨p0, p1, p2⟩, q0, q1, q2⟩ | assumption | (have hk : ∀ p : Addr, p.block < wr.heap.size → w1.cell? p = wr.cell? p := fun p hp => hb1.cell hp; exact ⟨⟨(hk _ (by simp; omega)).trans x2, (hk _ (by simp; omega)).trans y2⟩, ⟨(hk _ (by simp; omega)).trans p0, (hk _ (by simp; omega)).trans p1, (hk _ (by simp; omega)).trans p2⟩, (hk _ (by simp; omega)).trans q0, (hk _ (by simp; omega)).trans q1, (hk _ (by simp; omega)).trans q2⟩) | go_keep)
                (first | (go_at_call 13; (with_reducible refine Calls.mono (CJ _ ?_ ?_) ?_); exact hwz.drew; (show z ≤ wr.heap.size; omega); rintro e' w1 ⟨rfl, hb1⟩))
              all_goals
                have hb2 : Below (z + 2) W w1 := hbel.drew.trans (hb1.mono hzr)
                clear hb1 CJ
                have hjl : j + 1 ≤ ts.length := hlt
                cases r1 with
                | true =>
                  go_wp2
                  go_roundw
                  case rel =>
                    refine ⟨j + 1, hjl, by go_num, hb2, fun i h h' hi => ?_⟩
                    by_cases hij : i = j
                    · subst hij; exact of_decide_eq_true HR1.out
                    · exact HJ.out i h h' (by omega)
                  case measure => simp [intOf]; omega
                | false =>
                  have HF : Hid (R = false) := by
                    show R = false
                    rw [← HR.out, decide_eq_false_iff_not, flat_eq_iff]
                    exact fun h => of_decide_eq_false HR1.out (h.2.2.2 j hlt hlu)
                  go_wp2
                  go_ret
                  exact ⟨by rw [HF.out]; rfl, by have h := HW.out; rw [HZ.out] at h ⊢; exact h.trans (hb2.mono (by omega))⟩
            · have HF : Hid (R = true) := by
                show R = true
                rw [← HR.out, decide_eq_true_eq, flat_eq_iff]
                exact ⟨rfl, rfl, HL.out, fun i h h' => HJ.out i h h' (by omega)⟩
              clear IH
              go_wp2
              go_ret
              exact ⟨by rw [HF.out]; rfl, by have h := HW.out; rw [HZ.out] at h ⊢; exact h.trans (hbel.mono (by omega))⟩
    · have hR : decide (flat (d + 1) ((k, n), ts) = flat (e + 1) ((k', n'), us)) = false := decide_eq_false (flat_both hh)
      rw [hR]
      obtain ⟨ad, cap, rfl⟩ := h.len
      obtain ⟨ad', cap', rfl⟩ := h'.len
      exact same_heads k k' n n' ad ad' ts.length us.length cap cap' w hh
end Go.Proofs.YthcejnpknjepfaaGreatDoor

namespace Go.Proofs.YthcejnpknjepfaaGreatDoor
open Go.RowKit

/-- The type that is nothing. -/
abbrev zeroT : Value := .agg #[.int .i64 0, .string ⟨#[]⟩, .slice none 0 0]
theorem zero_at (w : World) (B : Nat) (ad : Option Addr) (cap : Nat) : TyAt w B 1 (.agg #[.int .i64 0, .string ⟨#[]⟩, .slice ad 0 cap]) ((0, []), []) := ⟨.slice ad 0 cap, rfl, by simp, by simp, .inl ⟨rfl, ad, cap, rfl⟩⟩
/-- What Read answers of a text. -/
def ReadPost (w : World) (l : List UInt8) (r : Ending) (w' : World) : Prop :=
  Below w.heap.size w w' ∧ ∃ x e, r = .returned (.tuple #[x, .int .i64 e]) ∧
    ((e = 0 ∧ l.length ≤ 65536 ∧ ∃ d t, formB d t = true ∧ textT d t = l ∧ (flat d t).length ≤ 500 ∧ TyAt w' w'.heap.size d x t) ∨
     (e ≠ 0 ∧ (∃ ad cap, x = .agg #[.int .i64 0, .string ⟨#[]⟩, .slice ad 0 cap]) ∧ ((65536 < l.length ∧ e = 2) ∨ (l.length ≤ 65536 ∧ (∃ d t, formB d t = true ∧ textT d t = l ∧ 500 < (flat d t).length) ∧ e = 4) ∨ (l.length ≤ 65536 ∧ (∀ d t, formB d t = true → textT d t ≠ l) ∧ e = 52))))
/-- A function that reads as the document says. -/
def Reads (f : Nat) : Prop := ∀ (l : List UInt8) (w : World), l.length < 140737488355328 → Calls Tryz.prog f #[strV l] w (ReadPost w l)
/-- A function that prints as the document says. -/
def Prints (f : Nat) : Prop := ∀ (d : Nat) (x : Value) (t : Tn d) (w : World) (B : Nat), B ≤ w.heap.size → TyAt w B d x t → (flat d t).length ≤ 4194304 → Calls Tryz.prog f #[x] w fun r w' => r = .returned (printV d t) ∧ Below w.heap.size w w'
/-- The document's examples are answered. -/
def Wakes : Prop := ∀ w : World, Calls Tryz.prog 6 #[] w fun r w' => r = .returned (.bool true) ∧ Below w.heap.size w w'
theorem ends_nil : Ends [] := fun c h => by simp at h
theorem print_facts (d : Nat) (t : Tn d) : ∃ l e, printV d t = .tuple #[strV l, .int .i64 e] ∧ l.length ≤ 65536 ∧ (e = 0 → formB d t = true ∧ (flat d t).length ≤ 500 ∧ l = textT d t) ∧ (formB d t = true → (flat d t).length ≤ 500 → (textT d t).length ≤ 65536 → e = 0) := by
  unfold printV
  by_cases h : wrongT d t = 0
  · rw [if_neg (by simpa using h)]
    obtain ⟨h1, h2⟩ := wrong_zero h
    by_cases hb : 65536 < (textT d t).length
    · rw [if_pos hb]
      exact ⟨[], 4, rfl, by simp, by simp, fun _ _ h => by omega⟩
    · rw [if_neg hb]
      exact ⟨_, 0, rfl, by omega, fun _ => ⟨h1, h2, rfl⟩, fun _ _ _ => rfl⟩
  · rw [if_pos h]
    refine ⟨[], _, rfl, by simp, fun h0 => absurd h0 h, fun h1 h2 _ => ?_⟩
    exact absurd (by unfold wrongT; rw [if_pos h1, if_neg (by omega)]) h
/-- The type that Read answered: a tree of at most 500 nodes, in any case. -/
theorem ReadPost.tree {w w' : World} {l : List UInt8} {r : Ending} (h : ReadPost w l r w') : Below w.heap.size w w' ∧ ∃ (k : Int) (n : ByteArray) (ad : Option Addr) (len cap : Nat) (e : Int) (d : Nat) (t : Tn d), r = .returned (.tuple #[.agg #[.int .i64 k, .string n, .slice ad len cap], .int .i64 e]) ∧ TyAt w' w'.heap.size d (.agg #[.int .i64 k, .string n, .slice ad len cap]) t ∧ (flat d t).length ≤ 500 ∧
    (e = 0 → formB d t = true ∧ textT d t = l ∧ l.length ≤ 65536) ∧ (∀ d' (t' : Tn d'), formB d' t' = true → textT d' t' = l → (flat d' t').length ≤ 500 → l.length ≤ 65536 → e = 0) := by
  obtain ⟨hb, x, e, hr, h⟩ := h
  refine ⟨hb, ?_⟩
  rcases h with ⟨he, hl, d, t, h1, h2, h3, h4⟩ | ⟨he, hx, h⟩
  · obtain ⟨d, rfl⟩ : ∃ e, d = e + 1 := by
      cases d with
      | zero => exact h4.elim
      | succ e => exact ⟨e, rfl⟩
    obtain ⟨v, hx, q1, q2, q3⟩ := id h4
    subst hx
    obtain ⟨ad, cap, rfl⟩ := q3.len
    exact ⟨_, _, ad, _, cap, e, d + 1, t, hr, h4, h3, fun _ => ⟨h1, h2, hl⟩, fun _ _ _ _ _ _ => he⟩
  · obtain ⟨ad, cap, rfl⟩ := hx
    refine ⟨0, ⟨#[]⟩, ad, 0, cap, e, 1, ((0, []), []), hr, zero_at _ _ _ _, by rw [flat_succ, flats_nil]; simp, fun h0 => absurd h0 he, fun d' t' f1 f2 f3 f4 => ?_⟩
    rcases h with ⟨h1, _⟩ | ⟨_, ⟨d2, t2, g1, g2, g3⟩, _⟩ | ⟨_, h1, _⟩
    · omega
    · have := (text_inj d' t' d2 t2 [] [] f1 g1 ends_nil ends_nil (by rw [f2, g2])).1
      rw [this] at f3
      omega
    · exact absurd f2 (h1 d' t' f1)
end Go.Proofs.YthcejnpknjepfaaGreatDoor

namespace Go.Proofs.YthcejnpknjepfaaGreatDoor
open Go.RowKit

theorem own_keep {W W' : World} {b e size c : Nat} {v : Value} {xs : List Value} (h : W.ownsRow b e size v c xs) (hb : ∀ k, v.ownBlock = some k → W'.heap[k]? = W.heap[k]?) : W'.ownsRow b e size v c xs := by
  refine ⟨h.1, ?_⟩
  rcases h.2 with h0 | ⟨g, cap, cur, rfl, hg, hgg, rest⟩
  · exact .inl h0
  · exact .inr ⟨g, cap, cur, rfl, hg, by rw [hb g rfl]; exact hgg, rest⟩

/-- The value x is the tree t; each list in it is a row of its own from block lo on; rws: these rows, from the outside, from the left. -/
def TyO (w : World) (lo : Nat) : (d : Nat) → Value → Tn d → List (Value × Nat) → Prop
  | 0, _, _, _ => False
  | d + 1, x, t, rws => ∃ v, x = .agg #[.int .i64 t.1.1, .string ⟨t.1.2.toArray⟩, v] ∧ t.1.2.length < 140737488355328 ∧ t.2.length < 140737488355328 ∧
      ((t.2 = [] ∧ (∃ ad cap, v = .slice ad 0 cap) ∧ rws = []) ∨ (t.2 ≠ [] ∧ ∃ (es : List El) (rss : List (List (Value × Nat))), es.length = t.2.length ∧ rss.length = t.2.length ∧ w.ownsRow lo 24 3 v t.2.length (es.flatMap elCells) ∧ rws = (v, t.2.length) :: rss.flatten ∧
        ∀ j (h : j < t.2.length) (h1 : j < es.length) (h2 : j < rss.length), TyO w lo d (elV es[j]) t.2[j] rss[j]))
/-- Each of the rows is one. -/
theorem TyO.each {w : World} {lo : Nat} : ∀ (d : Nat) (x : Value) (t : Tn d) (rws : List (Value × Nat)), TyO w lo d x t rws → ∀ p ∈ rws, ∃ xs, w.ownsRow lo 24 3 p.1 p.2 xs
  | 0, _, _, _, h, _, _ => h.elim
  | d + 1, x, t, rws, ⟨v, _, _, _, h⟩, p, hp => by
    rcases h with ⟨_, _, rfl⟩ | ⟨_, es, rss, h1, h2, hown, rfl, hj⟩
    · cases hp
    · rcases List.mem_cons.1 hp with rfl | hp
      · exact ⟨_, hown⟩
      · obtain ⟨l, hl, hpl⟩ := List.mem_flatten.1 hp
        obtain ⟨j, hj', rfl⟩ := List.getElem_of_mem hl
        exact TyO.each d _ _ _ (hj j (by omega) (by omega) hj') p hpl
theorem TyO.on {w w' : World} {lo : Nat} : ∀ (d : Nat) (x : Value) (t : Tn d) (rws : List (Value × Nat)), (∀ p ∈ rws, ∀ g, p.1.ownBlock = some g → w'.heap[g]? = w.heap[g]?) → TyO w lo d x t rws → TyO w' lo d x t rws
  | 0, _, _, _, _, h => h
  | d + 1, x, t, rws, hb, ⟨v, hx, h1, h2, h⟩ => by
    refine ⟨v, hx, h1, h2, ?_⟩
    rcases h with h | ⟨h0, es, rss, q1, q2, hown, rfl, hj⟩
    · exact .inl h
    · refine .inr ⟨h0, es, rss, q1, q2, own_keep hown fun k hk => hb (v, t.2.length) (by simp) k hk, rfl, fun j j0 j1 j2 => TyO.on d _ _ _ (fun p hp => hb p ?_) (hj j j0 j1 j2)⟩
      exact List.mem_cons_of_mem _ (List.mem_flatten.2 ⟨_, List.getElem_mem j2, hp⟩)
/-- It is a tree in memory. -/
theorem TyO.at {w : World} {lo B : Nat} : ∀ (d : Nat) (x : Value) (t : Tn d) (rws : List (Value × Nat)), (∀ p ∈ rws, ∀ g, p.1.ownBlock = some g → g < B) → TyO w lo d x t rws → TyAt w B d x t
  | 0, _, _, _, _, h => h
  | d + 1, x, t, rws, hb, ⟨v, hx, h1, h2, h⟩ => by
    refine ⟨v, hx, h1, h2, ?_⟩
    rcases h with ⟨h0, h, _⟩ | ⟨h0, es, rss, q1, q2, hown, rfl, hj⟩
    · exact .inl ⟨h0, h⟩
    · have hpos : 0 < t.2.length := List.length_pos_iff.2 h0
      obtain ⟨g, cap, hv, _, _⟩ := hown.form hpos
      have hcap : t.2.length ≤ cap := by
        rcases hown.2 with ⟨_, h'⟩ | ⟨g', cap', cur, h', _, _, hc, _⟩
        · omega
        · rw [hv] at h'
          simp only [Value.slice.injEq, Option.some.injEq, Addr.mk.injEq, and_true, true_and] at h'
          omega
      refine .inr ⟨g, 0, cap, hv, h0, hcap, hb (v, t.2.length) (by simp) g (by rw [hv]; rfl), fun j j0 => ?_⟩
      have j1 : j < es.length := by omega
      have j2 : j < rss.length := by omega
      have hc : ∀ i, i < 3 → ∀ u, (elCells es[j])[i]? = some u → w.cell? ⟨g, 0 + j * 3 + i, none⟩ = some u := by
        intro i hi u hu
        have := hown.cells (g := g) (by rw [hv]; rfl) (j * 3 + i) u (by rw [elCells_get es j i j1 hi]; exact hu)
        rw [Nat.zero_add]
        have e : (⟨g, 0, none⟩ : Addr).add (j * 3 + i) = ⟨g, j * 3 + i, none⟩ := by
          unfold Addr.add
          split
          · rename_i h0; rw [h0]
          · simp
        rw [e] at this
        exact this
      exact ⟨es[j].1, es[j].2.1, es[j].2.2, hc 0 (by omega) _ rfl, hc 1 (by omega) _ rfl, hc 2 (by omega) _ rfl, TyO.at d _ _ _ (fun p hp => hb p (List.mem_cons_of_mem _ (List.mem_flatten.2 ⟨_, List.getElem_mem j2, hp⟩))) (hj j j0 j1 j2)⟩
theorem TyO.slice {w : World} {lo d : Nat} {e : El} {t : Tn d} {rws : List (Value × Nat)} (h : TyO w lo d (elV e) t rws) : ∃ ad len cap, e.2.2 = .slice ad len cap := by
  cases d with
  | zero => exact h.elim
  | succ d =>
    obtain ⟨v, ex, _, _, h⟩ := h
    have ex : e.2.2 = v := by
      simp only [Value.agg.injEq, Array.mk.injEq, List.cons.injEq, and_true] at ex
      exact ex.2.2
    rcases h with ⟨_, ⟨ad, cap, hv⟩, _⟩ | ⟨h0, es, rss, _, _, hown, _⟩
    · exact ⟨ad, 0, cap, ex.trans hv⟩
    · rcases hown.2 with ⟨hv, _⟩ | ⟨g, cap, _, hv, _⟩
      · exact ⟨_, _, _, ex.trans hv⟩
      · exact ⟨_, _, _, ex.trans hv⟩

/-- What Read says of a text: the number, and the nodes of the type. -/
def RelR (l : List UInt8) (e : Int) (F : List Nd) : Prop :=
  (e = 0 ∧ l.length ≤ 65536 ∧ ∃ d t, formB d t = true ∧ textT d t = l ∧ (flat d t).length ≤ 500 ∧ F = flat d t) ∨
  (e ≠ 0 ∧ F = [(0, [], 0)] ∧ ((65536 < l.length ∧ e = 2) ∨ (l.length ≤ 65536 ∧ (∃ d t, formB d t = true ∧ textT d t = l ∧ 500 < (flat d t).length) ∧ e = 4) ∨ (l.length ≤ 65536 ∧ (∀ d t, formB d t = true → textT d t ≠ l) ∧ e = 52)))
theorem RelR.one {l : List UInt8} {e e' : Int} {F F' : List Nd} (h : RelR l e F) (h' : RelR l e' F') : e = e' ∧ F = F' := by
  have inj : ∀ {d d' : Nat} {t : Tn d} {t' : Tn d'}, formB d t = true → formB d' t' = true → textT d t = l → textT d' t' = l → flat d t = flat d' t' := fun f f' q q' => (text_inj _ _ _ _ [] [] f f' ends_nil ends_nil (by rw [q, q'])).1
  rcases h with ⟨rfl, hl, d, t, f1, f2, f3, rfl⟩ | ⟨he, rfl, h⟩
  · rcases h' with ⟨rfl, _, d', t', g1, g2, g3, rfl⟩ | ⟨he', rfl, h'⟩
    · exact ⟨rfl, inj f1 g1 f2 g2⟩
    · rcases h' with ⟨h1, _⟩ | ⟨_, ⟨d', t', g1, g2, g3⟩, _⟩ | ⟨_, hno, _⟩
      · omega
      · rw [inj f1 g1 f2 g2] at f3
        omega
      · exact absurd f2 (hno d t f1)
  · rcases h' with ⟨rfl, hl', d', t', g1, g2, g3, rfl⟩ | ⟨he', rfl, h'⟩
    · rcases h with ⟨h1, _⟩ | ⟨_, ⟨d, t, f1, f2, f3⟩, _⟩ | ⟨_, hno, _⟩
      · omega
      · rw [inj f1 g1 f2 g2] at f3
        omega
      · exact absurd g2 (hno d' t' g1)
    · refine ⟨?_, rfl⟩
      rcases h with ⟨h1, rfl⟩ | ⟨h1, ⟨d, t, f1, f2, f3⟩, rfl⟩ | ⟨h1, hno, rfl⟩
      · rcases h' with ⟨_, rfl⟩ | ⟨h2, _⟩ | ⟨h2, _⟩
        · rfl
        · omega
        · omega
      · rcases h' with ⟨h2, _⟩ | ⟨_, _, rfl⟩ | ⟨_, hno, _⟩
        · omega
        · rfl
        · exact absurd f2 (hno d t f1)
      · rcases h' with ⟨h2, _⟩ | ⟨_, ⟨d, t, f1, f2, f3⟩, _⟩ | ⟨_, _, rfl⟩
        · omega
        · exact absurd f2 (hno d t f1)
        · rfl
/-- What Read answered is such a tree. -/
theorem ReadPost.rel {w w' : World} {l : List UInt8} {r : Ending} (h : ReadPost w l r w') : Below w.heap.size w w' ∧ ∃ (k : Int) (n : ByteArray) (ad : Option Addr) (len cap : Nat) (e : Int) (d : Nat) (t : Tn d), r = .returned (.tuple #[.agg #[.int .i64 k, .string n, .slice ad len cap], .int .i64 e]) ∧ TyAt w' w'.heap.size d (.agg #[.int .i64 k, .string n, .slice ad len cap]) t ∧ RelR l e (flat d t) := by
  obtain ⟨hb, x, e, hr, h⟩ := h
  refine ⟨hb, ?_⟩
  rcases h with ⟨he, hl, d, t, h1, h2, h3, h4⟩ | ⟨he, hx, h⟩
  · obtain ⟨d, rfl⟩ : ∃ e, d = e + 1 := by
      cases d with
      | zero => exact h4.elim
      | succ e => exact ⟨e, rfl⟩
    obtain ⟨v, hx, q1, q2, q3⟩ := id h4
    subst hx
    obtain ⟨ad, cap, rfl⟩ := q3.len
    exact ⟨_, _, ad, _, cap, e, d + 1, t, hr, h4, .inl ⟨he, hl, d + 1, t, h1, h2, h3, rfl⟩⟩
  · obtain ⟨ad, cap, rfl⟩ := hx
    exact ⟨0, ⟨#[]⟩, ad, 0, cap, e, 1, ((0, []), []), hr, zero_at _ _ _ _, .inr ⟨he, by rw [flat_succ, flats_nil]; rfl, h⟩⟩
/-- Rows that are apart: each in a block of its own, below hi. -/
def Sep (hi : Nat) (rws : List (Value × Nat)) : Prop := (∀ p ∈ rws, ∃ g, p.1.ownBlock = some g ∧ g < hi) ∧ (rws.map fun p => p.1.ownBlock).Nodup
/-- What a Read answers whose answers are their owner's. -/
def ReadPostO (w : World) (l : List UInt8) (r : Ending) (w' : World) : Prop :=
  Below w.heap.size w w' ∧ ∃ (k : Int) (n : ByteArray) (ad : Option Addr) (len cap : Nat) (e : Int) (d : Nat) (t : Tn d) (rws : List (Value × Nat)), r = .returned (.tuple #[.agg #[.int .i64 k, .string n, .slice ad len cap], .int .i64 e]) ∧
    TyO w' w.heap.size d (.agg #[.int .i64 k, .string n, .slice ad len cap]) t rws ∧ Sep w'.heap.size rws ∧ rws.length ≤ 500 ∧ (∀ p ∈ rws, p.2 ≤ 6) ∧ RelR l e (flat d t)
def ReadsO (f : Nat) : Prop := ∀ (l : List UInt8) (w : World), l.length < 140737488355328 → Calls Tryz.prog f #[strV l] w (ReadPostO w l)
/-- Rows that are apart, from lo on and below hi. -/
def SepB (lo hi : Nat) (rws : List (Value × Nat)) : Prop := (∀ p ∈ rws, ∃ g, p.1.ownBlock = some g ∧ lo ≤ g ∧ g < hi) ∧ (rws.map fun p => p.1.ownBlock).Nodup
theorem SepB.of {w : World} {lo hi d : Nat} {x : Value} {t : Tn d} {rws : List (Value × Nat)} (h : TyO w lo d x t rws) (hs : Sep hi rws) : SepB lo hi rws :=
  ⟨fun p hp => by
    obtain ⟨g, e1, e2⟩ := hs.1 p hp
    obtain ⟨xs, hx⟩ := TyO.each _ _ _ _ h p hp
    exact ⟨g, e1, (hx.lt g e1).1, e2⟩, hs.2⟩
theorem SepB.append {a b c d : Nat} {A B : List (Value × Nat)} (hA : SepB a b A) (hB : SepB c d B) (hac : a ≤ c) (hbc : b ≤ c) (hbd : b ≤ d) : SepB a d (A ++ B) := by
  refine ⟨fun p hp => ?_, ?_⟩
  · rcases List.mem_append.1 hp with hp | hp
    · obtain ⟨g, e, h1, h2⟩ := hA.1 p hp
      exact ⟨g, e, h1, by omega⟩
    · obtain ⟨g, e, h1, h2⟩ := hB.1 p hp
      exact ⟨g, e, by omega, h2⟩
  · rw [List.map_append, List.nodup_append]
    refine ⟨hA.2, hB.2, fun x hx y hy e => ?_⟩
    obtain ⟨p, hp, rfl⟩ := List.mem_map.1 hx
    obtain ⟨q, hq, rfl⟩ := List.mem_map.1 hy
    obtain ⟨g, e1, h1, h2⟩ := hA.1 p hp
    obtain ⟨g', e2, h3, h4⟩ := hB.1 q hq
    rw [e1, e2] at e
    have := Option.some.inj e
    omega
theorem SepB.sep {a b : Nat} {A : List (Value × Nat)} (h : SepB a b A) : Sep b A := ⟨fun p hp => by obtain ⟨g, e, _, h2⟩ := h.1 p hp; exact ⟨g, e, h2⟩, h.2⟩
theorem SepB.lt {a b : Nat} {A : List (Value × Nat)} (h : SepB a b A) {B : Nat} (hB : b ≤ B) : ∀ p ∈ A, ∀ g, p.1.ownBlock = some g → g < B := fun p hp g hg => by
  obtain ⟨g', e, _, h2⟩ := h.1 p hp
  rw [e] at hg
  have := Option.some.inj hg
  omega
end Go.Proofs.YthcejnpknjepfaaGreatDoor

namespace Go.Proofs.YthcejnpknjepfaaGreatDoor
open Go.RowKit

theorem flat_same : ∀ (d : Nat) (t : Tn d) (e : Nat) (u : Tn e), flat d t = flat e u → formB d t = formB e u ∧ textT d t = textT e u
  | 0, t, _, _, _ => Empty.elim t
  | d + 1, ((k, n), ts), 0, u, _ => Empty.elim u
  | d + 1, ((k, n), ts), e + 1, ((k', n'), us), h => by
    obtain ⟨rfl, rfl, hl, hj⟩ := (flat_eq_iff d e k k' n n' ts us).1 h
    have ih : ∀ j (h : j < ts.length) (h' : j < us.length), formB d ts[j] = formB e us[j] ∧ textT d ts[j] = textT e us[j] := fun j h h' => flat_same d _ e _ (hj j h h')
    have e1 : ts.map (formB d) = us.map (formB e) := List.ext_getElem (by simpa using hl) fun j h h' => by simpa using (ih j (by simpa using h) (by simpa using h')).1
    have e2 : ts.map (textT d) = us.map (textT e) := List.ext_getElem (by simpa using hl) fun j h h' => by simpa using (ih j (by simpa using h) (by simpa using h')).2
    have e3 : ts.all (formB d) = us.all (formB e) := by
      have a1 : ts.all (formB d) = (ts.map (formB d)).all id := by simp [List.all_map, Function.comp_def]
      have a2 : us.all (formB e) = (us.map (formB e)).all id := by simp [List.all_map, Function.comp_def]
      rw [a1, a2, e1]
    have e4 : ts.isEmpty = us.isEmpty := by cases ts <;> cases us <;> simp_all
    constructor
    · simp only [formB, e3, e4, hl]
    · have e5 : (ts.map fun a => 32 :: textT d a) = us.map fun a => 32 :: textT e a := by
        have a1 : (ts.map fun a => 32 :: textT d a) = (ts.map (textT d)).map (fun x => 32 :: x) := by simp
        have a2 : (us.map fun a => 32 :: textT e a) = (us.map (textT e)).map (fun x => 32 :: x) := by simp
        rw [a1, a2, e2]
      have e6 : (ts = []) = (us = []) := by cases ts <;> cases us <;> simp_all
      simp only [textT, e5, e6]
      split
      · rfl
      · split
        · match ts, us, hl, e2 with
          | [], [], _, _ => rfl
          | [_], [_], _, _ => rfl
          | [a, b], [a', b'], _, e2 =>
            simp at e2
            simp [e2]
          | _ :: _ :: _ :: _, _ :: _ :: _ :: _, _, _ => rfl
        · rfl
theorem reads_of (hR : ReadsO 23) : Reads 23 := by
  intro l w hl
  refine Calls.mono (hR l w hl) ?_
  rintro r w' ⟨hb, k, n, ad, len, cap, e, d, t, rws, rfl, hT, hS, _, _, hrel⟩
  refine ⟨hb, _, e, rfl, ?_⟩
  have hA : TyAt w' w'.heap.size d (.agg #[.int .i64 k, .string n, .slice ad len cap]) t := TyO.at d _ t rws (fun p hp g hg => by
    obtain ⟨g', e1, e2⟩ := hS.1 p hp
    rw [hg] at e1
    cases e1
    exact e2) hT
  rcases hrel with ⟨he, hl', d', t', f1, f2, f3, f4⟩ | ⟨he, hF, hrest⟩
  · obtain ⟨g1, g2⟩ := flat_same d t d' t' f4
    exact .inl ⟨he, hl', d, t, by rw [g1]; exact f1, by rw [g2]; exact f2, by rw [f4]; exact f3, hA⟩
  · refine .inr ⟨he, ?_, hrest⟩
    cases d with
    | zero => exact hA.elim
    | succ d =>
      obtain ⟨⟨k', n'⟩, ts⟩ := t
      rw [flat_succ] at hF
      injection hF with h1 h2
      have hk : k' = 0 := congrArg (fun x => x.1) h1
      have hn : n' = [] := congrArg (fun x => x.2.1) h1
      have ht : ts.length = 0 := congrArg (fun x => x.2.2) h1
      subst hk hn
      have ht := List.eq_nil_of_length_eq_zero ht
      subst ht
      obtain ⟨v, hx, _, _, hv⟩ := hA
      obtain ⟨ad', cap', rfl⟩ := hv.len
      exact ⟨ad', cap', hx⟩
end Go.Proofs.YthcejnpknjepfaaGreatDoor

namespace Go.Proofs.YthcejnpknjepfaaGreatDoor
open Go.RowKit

/-- A bound: a name and a tree. -/
abbrev Bd := List UInt8 × Sigma Tn
/-- A row of bounds: what it says, by name and nodes. -/
def bdF (b : Bd) : List UInt8 × List Nd := (b.1, flat b.2.1 b.2.2)
/-- The slice v is a row of bounds; its block and the blocks that it leads to are below B. -/
def BdAt (w : World) (B : Nat) (v : Value) (bs : List Bd) : Prop :=
  ∃ ad cap, v = .slice ad bs.length cap ∧ bs.length < 140737488355328 ∧ (bs ≠ [] → ∃ g o, ad = some ⟨g, o, none⟩ ∧ bs.length ≤ cap ∧ g < B ∧
    ∀ j (h : j < bs.length), bs[j].1.length < 140737488355328 ∧ ∃ k n ad' len' cap', (∀ w', Below B w w' → w'.cell? ⟨g, o + j * 4, none⟩ = some (.string ⟨bs[j].1.toArray⟩) ∧ w'.cell? ⟨g, o + j * 4 + 1, none⟩ = some (.int .i64 k) ∧ w'.cell? ⟨g, o + j * 4 + 2, none⟩ = some (.string n) ∧ w'.cell? ⟨g, o + j * 4 + 3, none⟩ = some (.slice ad' len' cap')) ∧ TyAt w B bs[j].2.1 (.agg #[.int .i64 k, .string n, .slice ad' len' cap']) bs[j].2.2)
theorem BdAt.below {w w' : World} {B B' : Nat} {v : Value} {bs : List Bd} (h : BdAt w B v bs) (hb : Below B w w') (hB : B ≤ B') : BdAt w' B' v bs := by
  obtain ⟨ad, cap, hv, hl, h⟩ := h
  refine ⟨ad, cap, hv, hl, fun h0 => ?_⟩
  obtain ⟨g, o, had, hc, hg, h⟩ := h h0
  refine ⟨g, o, had, hc, by omega, fun j hj => ?_⟩
  obtain ⟨hn, k, n, ad', len', cap', hcel, hT⟩ := h j hj
  refine ⟨hn, k, n, ad', len', cap', fun w2 hb2 => hcel w2 (hb.trans (hb2.mono hB)), TyAt.below hb hB _ _ _ hT⟩
set_option maxHeartbeats 8000000 in
set_option maxRecDepth 10000 in
theorem sameBounds_true (v v' : Value) (al bs : List Bd) (w : World) (B : Nat) (hB : B ≤ w.heap.size) (h : BdAt w B v al) (h' : BdAt w B v' bs) (he : al.map bdF = bs.map bdF) :
    Calls Tryz.prog 24 #[v, v'] w fun r w' => r = .returned (.bool true) ∧ Below w.heap.size w w' := by
  have hl : al.length = bs.length := by have := congrArg List.length he; simpa using this
  have hp : ∀ j (h1 : j < al.length) (h2 : j < bs.length), al[j].1 = bs[j].1 ∧ flat al[j].2.1 al[j].2.2 = flat bs[j].2.1 bs[j].2.2 := fun j h1 h2 => by
    have e : (al.map bdF)[j]'(by simpa using h1) = (bs.map bdF)[j]'(by simpa using h2) := by simp only [he]
    simp only [List.getElem_map, bdF, Prod.mk.injEq] at e
    exact e
  have HP : Hid (∀ j (h1 : j < al.length) (h2 : j < bs.length), al[j].1 = bs[j].1 ∧ flat al[j].2.1 al[j].2.2 = flat bs[j].2.1 bs[j].2.2) := hp
  obtain ⟨ad, cap, rfl, hla, h⟩ := h
  obtain ⟨ad', cap', rfl, hlb, h'⟩ := h'
  rw [← hl]
  have HA : Hid _ := h
  have HA' : Hid _ := h'
  have HL : Hid (al.length = bs.length) := hl
  have HB : Hid (B ≤ w.heap.size) := hB
  clear h h' hl hp he hB
  go_enter Tryz.func24, Tryz.ntmps24
  go_wp2
  go_loopw [5] (fun i wr => ∃ j : Nat, j ≤ al.length ∧ i = .int .i64 j ∧ Below w.heap.size w wr) (fun i _ => al.length - (intOf i).toNat)
  case atStart => exact ⟨0, by omega, by go_num, Below.refl _ _⟩
  case round =>
    obtain ⟨j, hj, rfl, hbel⟩ := hrel
    by_cases hlt : j < al.length
    · have hlu : j < bs.length := by have := HL.out; omega
      obtain ⟨g, o, rfl, _, hg, hel⟩ := HA.out (by intro e; rw [e] at hlt; simp at hlt)
      obtain ⟨g', o', rfl, _, hg', hel'⟩ := HA'.out (by intro e; rw [e] at hlu; simp at hlu)
      obtain ⟨hn1, k1, n1, ad1, l1, cp1, hcel, T1⟩ := hel j hlt
      obtain ⟨hn2, k2, n2, ad2, l2, cp2, hcel', T2⟩ := hel' j hlu
      obtain ⟨E1, E2⟩ := HP.out j hlt hlu
      have hBw := HB.out
      have hwB := hbel.mono hBw
      obtain ⟨p0, p1, p2, p3⟩ := hcel wr hwB
      obtain ⟨q0, q1, q2, q3⟩ := hcel' wr hwB
      rw [← E1] at q0
      have CJ : ∀ W', Below B w W' → B ≤ W'.heap.size → Calls Tryz.prog 13 #[.agg #[.int .i64 k1, .string n1, .slice ad1 l1 cp1], .agg #[.int .i64 k2, .string n2, .slice ad2 l2 cp2]] W' fun r w' => r = .returned (.bool true) ∧ Below W'.heap.size W' w' := fun W' hb' hs' => by
        have := same_any _ _ _ _ _ _ W' B hs' (T1.on hb') (T2.on hb')
        rw [decide_eq_true E2] at this
        exact this
      generalize al[j].1 = nm at p0 q0 hn1
      have qn : (nm != nm) = false := by simp
      have i1 : (0 : Int) ≤ (j : Int) := by omega
      have i2 : (j : Int) < (al.length : Int) := by omega
      have hjl : j + 1 ≤ al.length := hlt
      have hwr : B ≤ wr.heap.size := by have := hbel.size; omega
      have hgr : g < wr.heap.size ∧ g' < wr.heap.size := by omega
      clear T1 T2 hcel hcel' hel hel' E1 E2 hn2
      go_wp2
      go_region_held3 (fun w' => (w'.cell? ⟨g, o + j * 4, none⟩ = some (.string ⟨nm.toArray⟩) ∧ w'.cell? ⟨g, o + j * 4 + 1, none⟩ = some (.int .i64 k1) ∧ w'.cell? ⟨g, o + j * 4 + 2, none⟩ = some (.string n1) ∧ w'.cell? ⟨g, o + j * 4 + 3, none⟩ = some (.slice ad1 l1 cp1)) ∧ w'.cell? ⟨g', o' + j * 4, none⟩ = some (.string ⟨nm.toArray⟩) ∧ w'.cell? ⟨g', o' + j * 4 + 1, none⟩ = some (.int .i64 k2) ∧ w'.cell? ⟨g', o' + j * 4 + 2, none⟩ = some (.string n2) ∧ w'.cell? ⟨g', o' + j * 4 + 3, none⟩ = some (.slice ad2 l2 cp2)) (first | exact ⟨⟨p0, p1, p2, p3⟩, q0, q1, q2, q3⟩ | assumption | (have hk : ∀ p : Addr, p.block < wr.heap.size → w1.cell? p = wr.cell? p := fun p hp => hb1.cell hp; exact ⟨⟨(hk _ (by simp; omega)).trans p0, (hk _ (by simp; omega)).trans p1, (hk _ (by simp; omega)).trans p2, (hk _ (by simp; omega)).trans p3⟩, (hk _ (by simp; omega)).trans q0, (hk _ (by simp; omega)).trans q1, (hk _ (by simp; omega)).trans q2, (hk _ (by simp; omega)).trans q3⟩) | go_keep)
        (first | (go_at_call 13; (with_reducible refine Calls.mono (CJ _ ?_ ?_) ?_); exact hwB.drew; (show B ≤ wr.heap.size; omega); rintro e' w1 ⟨rfl, hb1⟩))
      all_goals
        have a0 := (hb1.cell (p := ⟨g, o + j * 4, none⟩) hgr.1).trans p0
        have c0 := (hb1.cell (p := ⟨g', o' + j * 4, none⟩) hgr.2).trans q0
        have hb2 : Below w.heap.size w w1 := hbel.drew.trans (hb1.mono (by have := hbel.size; show w.heap.size ≤ wr.heap.size; omega))
        clear hb1 CJ p0 p1 p2 p3 q0 q1 q2 q3
        go_wp2
        go_region
        go_wp2
        go_roundw
        case rel => exact ⟨j + 1, hjl, by go_num, hb2.drew⟩
        case measure => simp [intOf]; omega
    · clear hj
      go_wp2
      go_ret
      exact ⟨rfl, hbel⟩
end Go.Proofs.YthcejnpknjepfaaGreatDoor
