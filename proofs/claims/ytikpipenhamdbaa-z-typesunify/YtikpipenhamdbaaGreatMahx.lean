/- The text of a type, written into a builder: contracts of write and writeRow. The text of a type: the contract of write. Print answers as the document says. The program's reader: contracts of skip and leaf. -/
import Derived.Test.YtikpipenhamdbaaGreatMagx
import Derived.Lib.BufferKept
import Derived.Test.YtikpipenhamdbaaGreatMaex
import Derived.Test.YtikpipenhamdbaaGreatMacx
namespace Go.Proofs.YtikpipenhamdbaaGreat
open Go.RowKit

theorem heap_cells {w : World} {b : Nat} {x y u : Value} {t : TypeId} {fr : Nat × Nat} (h : w.heap[b]? = some (.cells #[x, y, u] t fr)) : w.cell? ⟨b, 0, none⟩ = some x ∧ w.cell? ⟨b, 1, none⟩ = some y ∧ w.cell? ⟨b, 2, none⟩ = some u := by
 refine ⟨?_, ?_, ?_⟩ <;> (simp only [World.cell?, h]; rfl)
/-- The builder whose block is b holds these bytes. -/
abbrev IsB (B b : Nat) (l : List UInt8) (w : World) : Prop := Lib.IsBuilderF 77 5 B b (Lib.byteCells l) w
theorem isB_lt {B b : Nat} {l : List UInt8} {w : World} (h : IsB B b l w) : B ≤ b ∧ b < w.heap.size := by
 rcases h with ⟨h1, v, h2, _⟩ | ⟨h1, v, h2, _⟩
 ·exact ⟨h1, lt_of_heap h2⟩
 ·exact ⟨h1, lt_of_heap h2⟩
theorem isB_on {B b : Nat} {l : List UInt8} {w w' : World} (h : IsB B b l w) (hb : Below w.heap.size w w') : IsB B b l w' := by
 have hg : w.grownBy w' none := ⟨hb.os, hb.tape, hb.output, hb.size, fun k hk _ => hb.block k hk⟩
 rcases h with ⟨h1, v, h2, h3, h4⟩ | ⟨h1, v, h2, h3, h4⟩
 ·refine .inl ⟨h1, v, (hb.block b (lt_of_heap h2)).trans h2, h3.kept hg ?_, h4⟩
  cases v.ownBlock <;> simp
 ·refine .inr ⟨h1, v, (hb.block b (lt_of_heap h2)).trans h2, h3.kept hg ?_, h4⟩
  cases v.ownBlock <;> simp
theorem ws_any {B b : Nat} {l : List UInt8} {w : World} (s : ByteArray) (h : IsB B b l w) (hl : l.length + s.size ≤ 140737488355328) (hB : B ≤ w.heap.size) :
  Calls Tryz.prog 60 #[.pointer (some ⟨b, 0, none⟩), .string s] w fun r w' => r = .returned (.tuple #[.int .i64 s.size, .nilIface]) ∧ IsB B b (l ++ s.data.toList) w' ∧ Below B w w' ∧ Lib.OthersKept 5 (some b) w w' := by
 refine Calls.mono (Tryz.Builder_WriteString_k B b _ s w h (by rw [Lib.byteCells_length]; exact hl) hB) ?_
 rintro e w' ⟨rfl, h1, h2, h3⟩
 refine ⟨rfl, .inr ?_, h2, h3⟩
 rw [Lib.byteCells_append]
 exact h1
/-- What write leaves. -/
def WPost (B b : Nat) (l : List UInt8) (w : World) (r : Ending) (w' : World) : Prop := r = .returned (.tuple #[]) ∧ IsB B b l w' ∧ Below B w w' ∧ Lib.OthersKept 5 (some b) w w'
/-- Texts in a row, with something between each two. -/
def preT (d : Nat) (bt : List UInt8) : List (Tn d) → List UInt8
 | [] => []
 | t :: ts => textT d t ++ (ts.map fun u => bt ++ textT d u).flatten
theorem preT_snoc (d : Nat) (bt : List UInt8) (ts : List (Tn d)) (t : Tn d) : preT d bt (ts ++ [t]) = preT d bt ts ++ ((if ts = [] then [] else bt) ++ textT d t) := by
 cases ts with
 | nil => simp [preT]
 | cons a ts => simp [preT]
theorem preT_args (d : Nat) (t : Tn d) (ts : List (Tn d)) : 32 :: preT d [32] (t :: ts) = argsT d (t :: ts) := by
 rw [argsT_cons]
 simp [preT, argsT]
theorem preT_take (d : Nat) (bt : List UInt8) (ts : List (Tn d)) : ∀ j, (preT d bt (ts.take j)).length ≤ (preT d bt ts).length := by
 intro j
 cases ts with
 | nil => simp
 | cons t ts =>
  cases j with
  | zero => simp [preT]
  | succ j =>
   have : ∀ (l : List (Tn d)) (j : Nat), ((l.take j).map fun u => bt ++ textT d u).flatten.length ≤ (l.map fun u => bt ++ textT d u).flatten.length := by
    intro l
    induction l with
    | nil => simp
    | cons a l ih =>
     intro j
     cases j with
     | zero => simp
     | succ j =>
      have := ih j
      simp only [List.take_succ_cons, List.map_cons, List.flatten_cons, List.length_append] at this ⊢
      omega
   have := this ts j
   simp only [List.take_succ_cons, preT, List.length_append]
   omega
def Writes (d : Nat) : Prop := ∀ (x : Value) (t : Tn d) (w : World) (B b : Nat) (l : List UInt8), IsB B b l w → B ≤ w.heap.size → TyAt w B d x t → formB d t = true → l.length + (textT d t).length ≤ 70368744177664 →
  Calls Tryz.prog 37 #[.pointer (some ⟨b, 0, none⟩), x] w (WPost B b (l ++ textT d t) w)
set_option maxHeartbeats 16000000 in
set_option maxRecDepth 10000 in
theorem writeRow_step (d : Nat) (IH : Writes d) (hd bt : List UInt8) (v : Value) (ts : List (Tn d)) (w : World) (B b : Nat) (l : List UInt8) (hI : IsB B b l w) (hB : B ≤ w.heap.size) (hrow : RowP w B (TyAt w B d) v ts) (hF : ∀ t ∈ ts, formB d t = true) (hn : ts.length < 1000)
  (hl : l.length + hd.length + (preT d bt ts).length + 2 ≤ 70368744177664) : Calls Tryz.prog 61 #[.pointer (some ⟨b, 0, none⟩), .string ⟨hd.toArray⟩, v, .string ⟨bt.toArray⟩] w (WPost B b (l ++ (40 :: hd ++ preT d bt ts ++ [41])) w) := by
 obtain ⟨ad, cap, rfl, hrow2⟩ := hrow.cells
 have HC : Hid (ts ≠ [] → ∃ g o, ad = some ⟨g, o, none⟩ ∧ ts.length ≤ cap ∧ g < B ∧
  ∀ j (h : j < ts.length), ∃ k n ad' len' cap', (∀ w', Below B w w' → w'.cell? ⟨g, o + j * 3, none⟩ = some (.int .i64 k) ∧ w'.cell? ⟨g, o + j * 3 + 1, none⟩ = some (.string n) ∧ w'.cell? ⟨g, o + j * 3 + 2, none⟩ = some (.slice ad' len' cap')) ∧ TyAt w B d (.agg #[.int .i64 k, .string n, .slice ad' len' cap']) ts[j]) := hrow2
 have HF : Hid (∀ t ∈ ts, formB d t = true) := hF
 have HB : Hid (B ≤ w.heap.size) := hB
 have C0 := ws_any ((⟨#[40]⟩ : ByteArray) ++ ⟨hd.toArray⟩) hI (by rw [str_open]; show _ + (List.toArray _).size ≤ _; simp; omega) hB
 have HL : Hid (∀ j, (preT d bt (ts.take j)).length ≤ (preT d bt ts).length) := preT_take d bt ts
 have HIH : Hid (Writes d) := IH
 have HLl : Hid (l.length + hd.length + (preT d bt ts).length + 2 ≤ 70368744177664) := hl
 have hdl : hd.length ≤ 70368744177664 := by omega
 clear hrow hrow2 hI IH hF hl
 go_enter Tryz.func61, Tryz.ntmps61
 go_wp2_with (go_at_call 60; (with_reducible refine Calls.mono C0 ?_); rintro e' w1 ⟨rfl, hi1, hb1, ho1⟩)
 have HI1 : Hid (IsB B b (l ++ (40 :: hd ++ preT d bt (ts.take 0))) w1) := by
  rw [str_open] at hi1
  show IsB _ _ _ _
  simpa [preT] using hi1
 have HB1 : Hid (Below B w w1 ∧ Lib.OthersKept 5 (some b) w w1) := ⟨hb1, ho1⟩
 clear hi1 hb1 ho1
 go_loopw [16] (fun i wr => ∃ j : Nat, j ≤ ts.length ∧ i = .int .i64 j ∧ Hid (IsB B b (l ++ (40 :: hd ++ preT d bt (ts.take j))) wr ∧ Below B w wr ∧ Lib.OthersKept 5 (some b) w wr)) (fun i _ => ts.length - (intOf i).toNat)
 case atStart => exact ⟨0, by omega, by go_num, HI1.out, HB1.out⟩
 case round =>
  obtain ⟨j, hj, rfl, HJ⟩ := hrel
  clear HI1 HB1 C0
  by_cases hlt : j < ts.length
  ·obtain ⟨g, o, rfl, hcap, hg, hel⟩ := HC.out (by intro h; rw [h] at hlt; simp at hlt)
   obtain ⟨k1, n1, ad1, l1, cp1, hcel, T1⟩ := hel j hlt
   obtain ⟨hIj, hbj, hoj⟩ := HJ.out
   obtain ⟨p0, p1, p2⟩ := hcel wr hbj
   have hfj := HF.out ts[j] (List.getElem_mem hlt)
   have hsnoc : preT d bt (ts.take (j + 1)) = preT d bt (ts.take j) ++ ((if ts.take j = [] then [] else bt) ++ textT d ts[j]) := by
    rw [← preT_snoc]
    congr 1
    simp
   have hlj := HL.out (j + 1)
   have hll := HLl.out
   obtain ⟨U, hU, hbU, hsU, u0, u1, u2⟩ := cells_box wr (.int .i64 k1) (.string n1) (.slice ad1 l1 cp1) 29
   have hbox : U.heap[wr.heap.size]? = some (.cells #[.int .i64 k1, .string n1, .slice ad1 l1 cp1] 29 (0, 0)) := by rw [hU]; exact heap_alloc_new wr _
   have hIU := isB_on hIj hbU
   have hbl := isB_lt hIj
   have hBr : B ≤ wr.heap.size := Nat.le_trans HB.out hbj.size
   have HIU : Hid (IsB B b (l ++ (40 :: hd ++ preT d bt (ts.take j))) U ∧ Below B w U ∧ Lib.OthersKept 5 (some b) w U ∧ B ≤ U.heap.size) := ⟨hIU, hbj.trans (hbU.mono hBr), by rw [hU]; exact hoj.alloc _, by omega⟩
   have HT : Hid (∀ W, Below B w W → TyAt W B d (.agg #[.int .i64 k1, .string n1, .slice ad1 l1 cp1]) ts[j]) := fun W hb => T1.on hb
   have HX : Hid (∀ W, Lib.OthersKept 5 (some b) U W → W.heap[wr.heap.size]? = some (.cells #[.int .i64 k1, .string n1, .slice ad1 l1 cp1] 29 (0, 0))) := fun W ho => ho _ _ hbox (by intro e; have := Option.some.inj e; omega) (by intro c fz e; cases e)
   have i1 : (0 : Int) ≤ (j : Int) := by omega
   have i2 : (j : Int) < (ts.length : Int) := by omega
   clear T1 hcel hel HJ hIj hoj hbU hsU hIU hbl
   go_upto_region 4 with fail
   rw [← hU]
   generalize hq : wr.heap.size = z1 at u0 u1 u2 hbox HX ⊢
   clear hU hq p0 p1 p2
   have FIN : Hid (∀ W w', Below B w W → Lib.OthersKept 5 (some b) w W → WPost B b (l ++ (40 :: hd ++ preT d bt (ts.take (j + 1)))) W (.returned (.tuple #[])) w' → IsB B b (l ++ (40 :: hd ++ preT d bt (ts.take (j + 1)))) w' ∧ Below B w w' ∧ Lib.OthersKept 5 (some b) w w') := fun W w' h1 h2 h3 => ⟨h3.2.1, h1.trans h3.2.2.1, h2.trans h3.2.2.2⟩
   by_cases hj0 : j = 0
   ·subst hj0
    obtain ⟨hIU, hbU, hoU, hsU⟩ := HIU.out
    have C2 := HIH.out _ _ U B b _ hIU hsU (HT.out U hbU) hfj (by
     have := hlj
     rw [hsnoc] at this
     simp at this ⊢
     omega)
    have e2 : l ++ (40 :: hd ++ preT d bt (ts.take 0)) ++ textT d ts[0] = l ++ (40 :: hd ++ preT d bt (ts.take (0 + 1))) := by rw [hsnoc]; simp
    rw [e2] at C2
    have HUU : Hid (Below B w U ∧ Lib.OthersKept 5 (some b) w U) := ⟨hbU, hoU⟩
    clear hsnoc e2 HIU HT HX hIU hoU hbU hlj hll
    go_wp2_with (go_at_call 37; (with_reducible refine Calls.mono C2 ?_); rintro e' w2 hp; obtain ⟨rfl, hp2⟩ := id hp)
    have HP : Hid _ := FIN.out _ _ HUU.out.1 HUU.out.2 hp
    go_roundw
    case rel => exact ⟨0 + 1, by omega, by go_num, HP.out⟩
    case measure => simp [intOf]; omega
   ·have hj1 : (0 : Int) < (j : Int) := by omega
    obtain ⟨hIU, hbU, hoU, hsU⟩ := HIU.out
    have htk : ts.take j ≠ [] := by
     intro h
     have := congrArg List.length h
     rw [List.length_take, List.length_nil] at this
     omega
    rw [if_neg htk] at hsnoc
    have hln := congrArg List.length hsnoc
    simp only [List.length_append] at hln
    have C1 := ws_any (⟨bt.toArray⟩ : ByteArray) hIU (by show _ + bt.toArray.size ≤ _; simp; omega) hsU
    have C2 : ∀ W, IsB B b (l ++ (40 :: hd ++ preT d bt (ts.take j)) ++ bt) W → Below B U W → Calls Tryz.prog 37 #[.pointer (some ⟨b, 0, none⟩), .agg #[.int .i64 k1, .string n1, .slice ad1 l1 cp1]] W (WPost B b (l ++ (40 :: hd ++ preT d bt (ts.take (j + 1)))) W) := fun W hi hb => by
     have := HIH.out _ _ W B b _ hi (Nat.le_trans hsU hb.size) (HT.out W (hbU.trans hb)) hfj (by simp; omega)
     rw [hsnoc]
     simpa [List.append_assoc] using this
    have HUU : Hid (Below B w U ∧ Lib.OthersKept 5 (some b) w U) := ⟨hbU, hoU⟩
    clear hsnoc HIU HT hIU hoU hbU hlj hll hln htk
    go_wp2_with (first
     | (go_at_call 60; (with_reducible refine Calls.mono C1 ?_); rintro e' w1 ⟨rfl, hi1, hb1, ho1⟩; obtain ⟨y0, y1, y2⟩ := heap_cells (HX.out _ ho1))
     | (go_at_call 37; (with_reducible refine Calls.mono (C2 _ (by simpa using hi1) hb1) ?_); rintro e' w2 hp; obtain ⟨rfl, hp2⟩ := id hp))
    have HP : Hid _ := FIN.out _ _ (HUU.out.1.trans hb1) (HUU.out.2.trans ho1) hp
    go_roundw
    case rel => exact ⟨j + 1, by omega, by go_num, HP.out⟩
    case measure => simp [intOf]; omega
  ·obtain ⟨hIj, hbj, hoj⟩ := HJ.out
   rw [List.take_of_length_le (by omega)] at hIj
   have hll := HLl.out
   have C3 := ws_any (⟨#[41]⟩ : ByteArray) hIj (by show _ + 1 ≤ _; simp; omega) (Nat.le_trans HB.out hbj.size)
   have HBo : Hid (Below B w wr ∧ Lib.OthersKept 5 (some b) w wr) := ⟨hbj, hoj⟩
   clear HJ hIj hbj hoj hll
   go_wp2_with (go_at_call 60; (with_reducible refine Calls.mono C3 ?_); rintro e' w1 ⟨rfl, hi1, hb1, ho1⟩)
   refine bodyPost_ret (v := .tuple #[]) (by simp [results, Tryz.results61, go_sem]) rfl ?_
   exact ⟨rfl, by simpa using hi1, HBo.out.1.trans hb1, HBo.out.2.trans ho1⟩
end Go.Proofs.YtikpipenhamdbaaGreat

namespace Go.Proofs.YtikpipenhamdbaaGreat
open Go.RowKit

/-- The ways of write. -/
def WCase (w : World) (B b : Nat) (l : List UInt8) (k : Int) (n : List UInt8) (ad : Option Addr) (len cap : Nat) (tx : List UInt8) : Prop :=
 (k = 1 ∧ tx = [73, 110, 116]) ∨ ((k = 2 ∨ k = 4) ∧ len = 0 ∧ tx = n) ∨
 (k = 3 ∧ ∀ w1, IsB B b l w1 → Below B w w1 → Calls Tryz.prog 61 #[.pointer (some ⟨b, 0, none⟩), .string ⟨#[]⟩, .slice ad len cap, .string ⟨#[32, 45, 62, 32]⟩] w1 (WPost B b (l ++ tx) w1)) ∨
 (k = 4 ∧ 0 < len ∧ n.length ≤ 4096 ∧ ∀ w1, IsB B b l w1 → Below B w w1 → Calls Tryz.prog 61 #[.pointer (some ⟨b, 0, none⟩), .string ((⟨n.toArray⟩ : ByteArray) ++ ⟨#[32]⟩), .slice ad len cap, .string ⟨#[32]⟩] w1 (WPost B b (l ++ tx) w1))
set_option maxHeartbeats 16000000 in
set_option maxRecDepth 10000 in
theorem write_case (w : World) (B b : Nat) (l : List UInt8) (k : Int) (n : List UInt8) (ad : Option Addr) (len cap : Nat) (tx : List UInt8) (hC : WCase w B b l k n ad len cap tx) (hI : IsB B b l w) (hB : B ≤ w.heap.size) (h1 : n.length < 140737488355328) (h2 : len < 140737488355328) (hfn : formN k n len = k) (hl : l.length + tx.length ≤ 70368744177664) :
  Calls Tryz.prog 37 #[.pointer (some ⟨b, 0, none⟩), .agg #[.int .i64 k, .string ⟨n.toArray⟩, .slice ad len cap]] w (WPost B b (l ++ tx) w) := by
 have CF := fun W => formOf_any k n ad len cap W h1 h2
 rw [hfn] at CF
 obtain ⟨W, hW, hbW, hsW, b0, b1, b2⟩ := cells_box w (.int .i64 k) (.string ⟨n.toArray⟩) (.slice ad len cap) 29
 have HW1 : Hid (∀ w1, Below W.heap.size W w1 → (w1.cell? ⟨w.heap.size, 0, none⟩ = some (.int .i64 k) ∧ w1.cell? ⟨w.heap.size, 1, none⟩ = some (.string ⟨n.toArray⟩) ∧ w1.cell? ⟨w.heap.size, 2, none⟩ = some (.slice ad len cap)) ∧ IsB B b l w1 ∧ Below B w w1 ∧ Lib.OthersKept 5 (some b) w w1) := fun w1 hb => by
  have hb0 : Below w.heap.size w w1 := hbW.trans (hb.mono hbW.size)
  exact ⟨⟨(hb.cell (by simp; omega)).trans b0, (hb.cell (by simp; omega)).trans b1, (hb.cell (by simp; omega)).trans b2⟩, isB_on hI hb0, hb0.mono hB, (Lib.OthersKept.refl 5 (some b) w).below hb0⟩
 have FIN : Hid (∀ w1 r w', Below B w w1 → Lib.OthersKept 5 (some b) w w1 → WPost B b (l ++ tx) w1 r w' → WPost B b (l ++ tx) w r w') := fun w1 r w' h1 h2 h3 => ⟨h3.1, h3.2.1, h1.trans h3.2.2.1, h2.trans h3.2.2.2⟩
 have HBw : Hid (∀ w1, Below B w w1 → B ≤ w1.heap.size) := fun w1 hb => Nat.le_trans hB hb.size
 clear hI hbW hsW hfn hB
 rcases hC with ⟨rfl, rfl⟩ | ⟨hk, rfl, rfl⟩ | ⟨rfl, CR⟩ | ⟨rfl, hpos, hnl, CR⟩
 ·simp only [List.length_cons, List.length_nil] at hl
  have CS : ∀ w1, IsB B b l w1 → Below B w w1 → Calls Tryz.prog 60 #[.pointer (some ⟨b, 0, none⟩), .string ⟨#[73, 110, 116]⟩] w1 fun r w' => r = .returned (.tuple #[.int .i64 3, .nilIface]) ∧ IsB B b (l ++ [73, 110, 116]) w' ∧ Below B w1 w' ∧ Lib.OthersKept 5 (some b) w1 w' := fun w1 hi hb => ws_any (⟨#[73, 110, 116]⟩ : ByteArray) hi (by show _ + 3 ≤ _; omega) (HBw.out _ hb)
  go_enter Tryz.func37, Tryz.ntmps37
  go_upto_region 1 with fail
  rw [← hW]
  generalize hz : w.heap.size = z at HW1 b0 b1 b2 ⊢
  clear hW hz
  go_wp2_with (first
   | (go_at_call 49; (with_reducible refine Calls.mono (CF _) ?_); rintro e' w1 ⟨rfl, hb1⟩; obtain ⟨⟨y0, y1, y2⟩, hi1, hB1, ho1⟩ := HW1.out _ hb1)
   | (go_at_call 60; (with_reducible refine Calls.mono (CS _ hi1 hB1) ?_); rintro e' w2 ⟨rfl, hi2, hB2, ho2⟩))
  refine bodyPost_ret (v := .tuple #[]) (by simp [results, Tryz.results37, go_sem]) rfl ?_
  exact FIN.out w1 _ _ hB1 ho1 ⟨rfl, hi2, hB2, ho2⟩
 ·have CS : ∀ w1, IsB B b l w1 → Below B w w1 → Calls Tryz.prog 60 #[.pointer (some ⟨b, 0, none⟩), .string ⟨tx.toArray⟩] w1 fun r w' => r = .returned (.tuple #[.int .i64 (⟨tx.toArray⟩ : ByteArray).size, .nilIface]) ∧ IsB B b (l ++ tx) w' ∧ Below B w1 w' ∧ Lib.OthersKept 5 (some b) w1 w' := fun w1 hi hb => by
   have := ws_any (⟨tx.toArray⟩ : ByteArray) hi (by show _ + tx.toArray.size ≤ _; simp; omega) (HBw.out _ hb)
   simpa using this
  rcases hk with rfl | rfl
  all_goals
   go_enter Tryz.func37, Tryz.ntmps37
   go_upto_region 1 with fail
   rw [← hW]
   generalize hz : w.heap.size = z at HW1 b0 b1 b2 ⊢
   clear hW hz
   go_wp2_with (first
    | (go_at_call 49; (with_reducible refine Calls.mono (CF _) ?_); rintro e' w1 ⟨rfl, hb1⟩; obtain ⟨⟨y0, y1, y2⟩, hi1, hB1, ho1⟩ := HW1.out _ hb1)
    | (go_at_call 60; (with_reducible refine Calls.mono (CS _ hi1 hB1) ?_); rintro e' w2 ⟨rfl, hi2, hB2, ho2⟩))
   refine bodyPost_ret (v := .tuple #[]) (by simp [results, Tryz.results37, go_sem]) rfl ?_
   exact FIN.out w1 _ _ hB1 ho1 ⟨rfl, hi2, hB2, ho2⟩
 ·go_enter Tryz.func37, Tryz.ntmps37
  go_upto_region 1 with fail
  rw [← hW]
  generalize hz : w.heap.size = z at HW1 b0 b1 b2 ⊢
  clear hW hz
  go_wp2_with (first
   | (go_at_call 49; (with_reducible refine Calls.mono (CF _) ?_); rintro e' w1 ⟨rfl, hb1⟩; obtain ⟨⟨y0, y1, y2⟩, hi1, hB1, ho1⟩ := HW1.out _ hb1)
   | (go_at_call 61; (with_reducible refine Calls.mono (CR _ hi1 hB1) ?_); rintro e' w2 hp; obtain ⟨rfl, hp2⟩ := id hp))
  refine bodyPost_ret (v := .tuple #[]) (by simp [results, Tryz.results37, go_sem]) rfl ?_
  exact FIN.out w1 _ _ hB1 ho1 hp
 ·have hpos' : (0 : Int) < (len : Int) := by omega
  go_enter Tryz.func37, Tryz.ntmps37
  go_upto_region 1 with fail
  rw [← hW]
  generalize hz : w.heap.size = z at HW1 b0 b1 b2 ⊢
  clear hW hz
  go_wp2_with (first
   | (go_at_call 49; (with_reducible refine Calls.mono (CF _) ?_); rintro e' w1 ⟨rfl, hb1⟩; obtain ⟨⟨y0, y1, y2⟩, hi1, hB1, ho1⟩ := HW1.out _ hb1)
   | (go_at_call 61; (with_reducible refine Calls.mono (CR _ hi1 hB1) ?_); rintro e' w2 hp; obtain ⟨rfl, hp2⟩ := id hp))
  refine bodyPost_ret (v := .tuple #[]) (by simp [results, Tryz.results37, go_sem]) rfl ?_
  exact FIN.out w1 _ _ hB1 ho1 hp
theorem write_step (d : Nat) (IH : Writes d) : Writes (d + 1) := by
 intro x t w B b l hI hB h hF hl
 obtain ⟨v, hx, h1, h2, hrow⟩ := h
 subst hx
 obtain ⟨ad, cap, rfl⟩ := hrow.len
 have hok : okB t.1.1 t.1.2 t.2.length = true := by
  have := form_succ d t.1.1 t.1.2 t.2
  rw [show ((t.1.1, t.1.2), t.2) = t from rfl, hF] at this
  cases ho : okB t.1.1 t.1.2 t.2.length
  ·rw [ho] at this; cases this
  ·rfl
 have hfn : formN t.1.1 t.1.2 t.2.length = t.1.1 := by unfold formN; rw [if_pos hok]
 have HBw : ∀ w1, Below B w w1 → B ≤ w1.heap.size ∧ RowP w1 B (TyAt w1 B d) (.slice ad t.2.length cap) t.2 := fun w1 hb => ⟨Nat.le_trans hB hb.size, hrow.below hb (Nat.le_refl _) fun x t _ h => h.on hb⟩
 refine write_case w B b l _ _ _ _ _ _ ?_ hI hB h1 h2 hfn hl
 rcases form_cases hF with rfl | ⟨n, hn, rfl⟩ | ⟨a, c, ha, hc, rfl⟩ | ⟨n, ts, hn, hlen, hts, rfl⟩
 ·exact .inl ⟨rfl, rfl⟩
 ·exact .inr (.inl ⟨.inl rfl, rfl, by rw [text_var]⟩)
 ·refine .inr (.inr (.inl ⟨rfl, fun w1 hi hb => ?_⟩))
  have := writeRow_step d IH [] [32, 45, 62, 32] (.slice ad 2 cap) [a, c] w1 B b l hi (HBw w1 hb).1 (HBw w1 hb).2 (by simp [ha, hc]) (by simp) (by rw [text_fun] at hl; simp [preT] at hl ⊢; omega)
  have e : 40 :: [] ++ preT d [32, 45, 62, 32] [a, c] ++ [41] = textT (d + 1) ((3, []), [a, c]) := by rw [text_fun]; simp [preT]
  rw [e] at this
  exact this
 ·cases ts with
  | nil => exact .inr (.inl ⟨.inr rfl, rfl, by rw [text_data0]⟩)
  | cons a ts =>
   refine .inr (.inr (.inr ⟨rfl, by simp, data_len hn, fun w1 hi hb => ?_⟩))
   have := writeRow_step d IH (n ++ [32]) [32] (.slice ad (a :: ts).length cap) (a :: ts) w1 B b l hi (HBw w1 hb).1 (HBw w1 hb).2 hts (by omega) (by rw [text_data, ← preT_args] at hl; simp at hl ⊢; omega)
   have e : 40 :: (n ++ [32]) ++ preT d [32] (a :: ts) ++ [41] = textT (d + 1) ((4, n), a :: ts) := by rw [text_data, ← preT_args]; simp
   rw [e, ← str_append n [32]] at this
   exact this
theorem write_any : ∀ d, Writes d
 | 0 => fun _ t => t.elim
 | d + 1 => write_step d (write_any d)
end Go.Proofs.YtikpipenhamdbaaGreat

namespace Go.Proofs.YtikpipenhamdbaaGreat
open Go.RowKit

theorem wrongs_one (d : Nat) (t : Tn d) : wrongs [⟨d, t⟩] = wrongT d t := by
 show (if wrongT d t = 0 then 0 else wrongT d t) = _
 split
 ·rename_i h; exact h.symm
 ·rfl
theorem lt_cell {w : World} {b i : Nat} {v : Value} (h : w.cell? ⟨b, i, none⟩ = some v) : b < w.heap.size := by
 rcases Nat.lt_or_ge b w.heap.size with hlt | hge
 ·exact hlt
 ·simp [World.cell?, Array.getElem?_eq_none hge] at h
/-- One tree, in a row of its own. -/
theorem wrong_one (d : Nat) (k : Int) (n : ByteArray) (ad : Option Addr) (len cap : Nat) (t : Tn d) (w W : World) (B g : Nat) (hB : B ≤ W.heap.size) (hg : g < W.heap.size) (hT : TyAt w B d (.agg #[.int .i64 k, .string n, .slice ad len cap]) t) (hb : Below B w W) (hN : (flat d t).length ≤ 4194304)
  (c0 : W.cell? ⟨g, 0, none⟩ = some (.int .i64 k)) (c1 : W.cell? ⟨g, 1, none⟩ = some (.string n)) (c2 : W.cell? ⟨g, 2, none⟩ = some (.slice ad len cap)) :
  Calls Tryz.prog 24 #[.slice (some ⟨g, 0, none⟩) 1 1] W fun r w' => r = .returned (.int .i64 (wrongT d t)) ∧ Below W.heap.size W w' := by
 have := wrong_list [(k, n, .slice ad len cap)] [⟨d, t⟩] g 1 W B hB hg (fun j u hu => by
  match j with
  | 0 => simp [elCells] at hu; rw [← hu]; exact c0
  | 1 => simp [elCells] at hu; rw [← hu]; exact c1
  | 2 => simp [elCells] at hu; rw [← hu]; exact c2
  | j + 3 => simp [elCells] at hu) ⟨rfl, fun j hj hj' => by
   have : j = 0 := by simp at hj; omega
   subst this
   exact hT.on hb⟩ (by simpa using hN) (by simp)
 rw [wrongs_one] at this
 exact this
set_option maxHeartbeats 16000000 in
set_option maxRecDepth 10000 in
theorem print_any : Prints 20 := by
 intro d x t w B hB h hN
 obtain ⟨d, rfl⟩ : ∃ e, d = e + 1 := by
  cases d with
  | zero => exact h.elim
  | succ e => exact ⟨e, rfl⟩
 have h0 := h
 obtain ⟨v, hx, h1, h2, hrow⟩ := h
 subst hx
 obtain ⟨ad, cap, rfl⟩ := hrow.len
 clear hrow
 obtain ⟨W, hW, hbW, hsW, b0, b1, b2, c0, c1, c2⟩ := cells_boxes w (.int .i64 t.1.1) (.string ⟨t.1.2.toArray⟩) (.slice ad t.2.length cap) (.int .i64 t.1.1) (.string ⟨t.1.2.toArray⟩) (.slice ad t.2.length cap) 29
 have C1 := wrong_one (d + 1) _ _ _ _ _ t w W B (w.heap.size + 1) (Nat.le_trans hB hbW.size) (by omega) h0 (hbW.mono hB) hN c0 c1 c2
 have HX : Hid (∀ w1, Below W.heap.size W w1 → Below w.heap.size w w1 ∧ w1.cell? ⟨w.heap.size, 0, none⟩ = some (.int .i64 t.1.1) ∧ w1.cell? ⟨w.heap.size, 1, none⟩ = some (.string ⟨t.1.2.toArray⟩) ∧ w1.cell? ⟨w.heap.size, 2, none⟩ = some (.slice ad t.2.length cap)) := fun w1 hb =>
  ⟨hbW.trans (hb.mono (by omega)), (hb.cell (by simp; omega)).trans b0, (hb.cell (by simp; omega)).trans b1, (hb.cell (by simp; omega)).trans b2⟩
 unfold printV
 by_cases hw : wrongT (d + 1) t = 0
 ·obtain ⟨hF, hS⟩ := wrong_zero hw
  have hTL := text_len (d + 1) t hF
  have HW : Hid (∀ w1, Below w.heap.size w w1 → ∀ l, IsB w.heap.size w1.heap.size l (w1.alloc (Obj.cells #[.pointer none, .slice none 0 0] 77)) → l = [] → Calls Tryz.prog 37 #[.pointer (some ⟨w1.heap.size, 0, none⟩), .agg #[.int .i64 t.1.1, .string ⟨t.1.2.toArray⟩, .slice ad t.2.length cap]] (w1.alloc (Obj.cells #[.pointer none, .slice none 0 0] 77)) (WPost w.heap.size w1.heap.size (textT (d + 1) t) (w1.alloc (Obj.cells #[.pointer none, .slice none 0 0] 77)))) := fun w1 hb l hi hl0 => by
   subst hl0
   have hb2 : Below w.heap.size w (w1.alloc (Obj.cells #[.pointer none, .slice none 0 0] 77)) := hb.alloc hb.size _
   have := write_any (d + 1) _ t (w1.alloc (Obj.cells #[.pointer none, .slice none 0 0] 77)) w.heap.size w1.heap.size [] hi hb2.size (TyAt.below (hb2.mono hB) hB _ _ _ h0) hF (by simp; omega)
   simpa using this
  rw [if_neg (by simpa using hw)]
  rw [hw] at C1
  generalize hR : (if 65536 < (textT (d + 1) t).length then Value.tuple #[.string ⟨#[]⟩, .int .i64 4] else .tuple #[strV (textT (d + 1) t), .int .i64 0]) = R
  have HR : Hid ((if 65536 < (textT (d + 1) t).length then Value.tuple #[.string ⟨#[]⟩, .int .i64 4] else .tuple #[strV (textT (d + 1) t), .int .i64 0]) = R) := hR
  generalize textT (d + 1) t = tx at *
  generalize (flat (d + 1) t).length = nn at *
  generalize t.1.1 = k at *
  generalize t.1.2 = n at *
  generalize t.2.length = len at *
  have CL : Hid (∀ U w2, Below w.heap.size w U → WPost w.heap.size U.heap.size tx (U.alloc (Obj.cells #[.pointer none, .slice none 0 0] 77)) (.returned (.tuple #[])) w2 → Calls Tryz.prog 38 #[.pointer (some ⟨U.heap.size, 0, none⟩)] w2 (fun e w' => e = .returned (.int .i64 tx.length) ∧ w' = w2) ∧ Calls Tryz.prog 39 #[.pointer (some ⟨U.heap.size, 0, none⟩)] w2 (fun e w' => e = .returned (.string ⟨tx.toArray⟩) ∧ Below w.heap.size w w') ∧ Below w.heap.size w w2) := fun U w2 hb hp => by
   have hU : Below w.heap.size w (U.alloc (Obj.cells #[.pointer none, .slice none 0 0] 77)) := hb.alloc hb.size _
   have h2 := hU.trans hp.2.2.1
   refine ⟨?_, ?_, h2⟩
   ·have := Tryz.Builder_Len_f _ _ _ w2 hp.2.1
    rw [Lib.byteCells_length] at this
    exact this
   ·exact Calls.mono (Tryz.Builder_String_any_k _ _ _ w2 hp.2.1 h2.size) (fun e w' q => ⟨q.1, h2.trans q.2.2.1⟩)
  have IB : Hid (∀ U : World, w.heap.size ≤ U.heap.size → IsB w.heap.size U.heap.size [] (U.alloc (Obj.cells #[.pointer none, .slice none 0 0] 77))) := fun U hs => .inl ⟨hs, .slice none 0 0, heap_alloc_new U _, World.ownsRowF_nil _ _ _ _, by simp [Value.ownBlock]⟩
  have htx : tx.length ≤ 4194304000 := by omega
  clear hF hS hw h0 hR c0 c1 c2 hbW hsW hTL hN h1 h2 t hB
  by_cases hbig : 65536 < tx.length
  ·have hbig' : (65536 : Int) < (tx.length : Int) := by omega
   go_enter Tryz.func20, Tryz.ntmps20
   go_upto_region 2 with (first | (rw [← hW]; go_at_call 24; (with_reducible refine Calls.mono C1 ?_); rintro e' w1 ⟨rfl, hb1⟩; obtain ⟨hB1, y0, y1, y2⟩ := HX.out _ hb1))
   have hz1 : w.heap.size < w1.heap.size := by have := lt_cell y0; exact this
   have ya : ∀ o i, (w1.alloc o).cell? ⟨w.heap.size, i, none⟩ = w1.cell? ⟨w.heap.size, i, none⟩ := fun o i => World.cell?_alloc_old w1 o ⟨w.heap.size, i, none⟩ (by show w.heap.size ≠ w1.heap.size; omega)
   go_wp2_with (first
    | (go_at_call 37; (with_reducible refine Calls.mono (HW.out w1 hB1 [] (IB.out w1 hB1.size) rfl) ?_); rintro e' w2 hp; obtain ⟨rfl, _⟩ := id hp; obtain ⟨L1, L2, hB2⟩ := CL.out _ _ hB1 hp)
    | (go_at_call 38; (with_reducible refine Calls.mono L1 ?_); rintro e' w3 ⟨rfl, rfl⟩))
   refine bodyPost_ret (v := .tuple #[.string ⟨#[]⟩, .int .i64 4]) (by simp [results, Tryz.results20, go_sem]) rfl ?_
   exact ⟨by rw [← HR.out, if_pos hbig], hB2⟩
  ·have hbig' : ¬ (65536 : Int) < (tx.length : Int) := by omega
   go_enter Tryz.func20, Tryz.ntmps20
   go_upto_region 2 with (first | (rw [← hW]; go_at_call 24; (with_reducible refine Calls.mono C1 ?_); rintro e' w1 ⟨rfl, hb1⟩; obtain ⟨hB1, y0, y1, y2⟩ := HX.out _ hb1))
   have hz1 : w.heap.size < w1.heap.size := by have := lt_cell y0; exact this
   have ya : ∀ o i, (w1.alloc o).cell? ⟨w.heap.size, i, none⟩ = w1.cell? ⟨w.heap.size, i, none⟩ := fun o i => World.cell?_alloc_old w1 o ⟨w.heap.size, i, none⟩ (by show w.heap.size ≠ w1.heap.size; omega)
   go_wp2_with (first
    | (go_at_call 37; (with_reducible refine Calls.mono (HW.out w1 hB1 [] (IB.out w1 hB1.size) rfl) ?_); rintro e' w2 hp; obtain ⟨rfl, _⟩ := id hp; obtain ⟨L1, L2, hB2⟩ := CL.out _ _ hB1 hp)
    | (go_at_call 38; (with_reducible refine Calls.mono L1 ?_); rintro e' w3 ⟨rfl, rfl⟩)
    | (go_at_call 39; (with_reducible refine Calls.mono L2 ?_); rintro e' w4 ⟨rfl, hB4⟩))
   refine bodyPost_ret (v := .tuple #[.string ⟨tx.toArray⟩, .int .i64 0]) (by simp [results, Tryz.results20, go_sem]) rfl ?_
   exact ⟨by rw [← HR.out, if_neg hbig], hB4⟩
 ·rw [if_pos hw]
  generalize wrongT (d + 1) t = e at *
  generalize t.1.1 = k at *
  generalize t.1.2 = n at *
  generalize t.2.length = len at *
  have hw1 : (e != 0) = true := by simpa using hw
  have hw2 : (e == 0) = false := by simpa using hw
  clear h0 c0 c1 c2 hbW hsW hN h1 h2 hB
  go_enter Tryz.func20, Tryz.ntmps20
  go_upto_region 2 with (first | (rw [← hW]; go_at_call 24; (with_reducible refine Calls.mono C1 ?_); rintro e' w1 ⟨rfl, hb1⟩; obtain ⟨hB1, y0, y1, y2⟩ := HX.out _ hb1))
  go_wp2
  refine bodyPost_ret (v := .tuple #[.string ⟨#[]⟩, .int .i64 e]) (by simp [results, Tryz.results20, go_sem]) rfl ?_
  exact ⟨rfl, hB1⟩
end Go.Proofs.YtikpipenhamdbaaGreat

namespace Go.Proofs.YtikpipenhamdbaaGreat
open Go.RowKit

/-- The reader whose block is q has this text left. -/
abbrev RdAt (w : World) (q : Nat) (l : List UInt8) : Prop := w.heap[q]? = some (.cells #[strV l] 82 (0, 0))
/-- From w to w' nothing that was there has turned but the reader. -/
structure RdS (w w' : World) (q : Nat) (l : List UInt8) : Prop where
 grow : w.grownBy w' (some q)
 at' : RdAt w' q l
theorem heap_frozen {w : World} {b o : Nat} {cs : Array Value} {t : TypeId} (h : w.heap[b]? = some (.cells cs t (0, 0))) : w.frozen? ⟨b, o, none⟩ = false := by
 simp [World.frozen?, h]
theorem setCell_block {W : World} {b i : Nat} {c : Array Value} {t : TypeId} {v : Value} (h : W.heap[b]? = some (.cells c t (0, 0))) : (W.setCell ⟨b, i, none⟩ v).heap[b]? = some (.cells (c.setIfInBounds i v) t (0, 0)) := by
 simp [World.setCell, Array.getElem?_modify, h]
/-- Three stores into a block of three cells. -/
theorem store3 {U : World} {z : Nat} {x y u : Value} {t : TypeId} (h : U.heap[z]? = some (.cells #[x, y, u] t (0, 0))) (a b c : Value) : ∃ W, W = ((U.setCell ⟨z, 0, none⟩ a).setCell ⟨z, 1, none⟩ b).setCell ⟨z, 2, none⟩ c ∧ W.heap[z]? = some (.cells #[a, b, c] t (0, 0)) ∧ (∀ g, g ≠ z → W.heap[g]? = U.heap[g]?) ∧ W.heap.size = U.heap.size ∧ Below z U W := by
 refine ⟨_, rfl, ?_, fun g hg => ?_, by simp [World.setCell], (((Below.refl z U).setCell (Nat.le_refl _) a).setCell (Nat.le_refl _) b).setCell (Nat.le_refl _) c⟩
 ·exact (setCell_block ((setCell_block ((setCell_block h).trans rfl)).trans rfl)).trans rfl
 ·rw [Below.heap_setCell _ _ _ _ hg, Below.heap_setCell _ _ _ _ hg, Below.heap_setCell _ _ _ _ hg]
theorem rd_cell {w : World} {q : Nat} {l : List UInt8} (h : RdAt w q l) : w.cell? ⟨q, 0, none⟩ = some (strV l) := by
 simp only [World.cell?, h]; rfl
theorem rd_set {w : World} {q : Nat} {l : List UInt8} (h : RdAt w q l) (l' : List UInt8) : RdS w (w.setCell ⟨q, 0, none⟩ (strV l')) q l' :=
 ⟨⟨rfl, rfl, rfl, by simp [World.setCell], fun k _ hk => Below.heap_setCell _ _ _ _ (fun e => hk (by rw [e]))⟩, (setCell_block h).trans rfl⟩
theorem beg_prefix (p l : List UInt8) : Lib.hasPrefix l p = begB p l := by
 unfold Lib.hasPrefix begB
 rw [Bool.eq_iff_iff, List.isPrefixOf_iff_prefix, decide_eq_true_eq, List.prefix_iff_eq_take]
 exact ⟨fun h => h.symm, fun h => h.symm⟩
set_option maxHeartbeats 4000000 in
set_option maxRecDepth 10000 in
theorem skip_any (l p : List UInt8) (q : Nat) (w : World) (h : RdAt w q l) : Calls Tryz.prog 62 #[.pointer (some ⟨q, 0, none⟩), .string ⟨p.toArray⟩] w fun e w' => e = .returned (.bool (begB p l)) ∧ w'.heap.size = w.heap.size ∧ RdS w w' q (if begB p l = true then l.drop p.length else l) := by
 have C1 := fun W => Tryz.strings_CutPrefix ⟨l.toArray⟩ ⟨p.toArray⟩ W
 have e1 : (⟨l.toArray⟩ : ByteArray).data.toList = l := by simp
 have e2 : (⟨p.toArray⟩ : ByteArray).data.toList = p := by simp
 rw [e1, e2] at C1
 have e3 : Lib.trimPrefix l p = if begB p l = true then l.drop p.length else l := by
  unfold Lib.trimPrefix
  rw [beg_prefix]
 rw [beg_prefix, e3] at C1
 have HF : Hid (∀ l', RdS w (w.setCell ⟨q, 0, none⟩ (strV l')) q l') := fun l' => rd_set h l'
 have c0 := rd_cell h
 have f0 := heap_frozen (o := 0) h
 generalize (if begB p l = true then l.drop p.length else l) = l' at C1 ⊢
 generalize begB p l = bb at C1 ⊢
 clear h e1 e2 e3
 go_enter Tryz.func62, Tryz.ntmps62
 go_wp2_with (go_at_call 83; (with_reducible refine Calls.mono (C1 _) ?_); rintro e' w1 ⟨rfl, rfl⟩)
 go_ret
 exact ⟨rfl, by simp [World.setCell], HF.out l'⟩
theorem index_any : ∀ l : List UInt8, Lib.indexAny l [32, 40, 41] = if wordL l = l then -1 else ((wordL l).length : Int)
 | [] => rfl
 | c :: l => by
  have ih := index_any l
  have hc : ([32, 40, 41] : List UInt8).contains c = endB c := by
   unfold endB
   simp [Bool.or_assoc]
   rfl
  unfold Lib.indexAny
  rw [hc]
  cases he : endB c
  ·have hw : wordL (c :: l) = c :: wordL l := by simp [wordL, he]
   rw [hw, ih]
   by_cases h : wordL l = l
   ·simp [h]
   ·simp [h]
  ·have hw : wordL (c :: l) = [] := by simp [wordL, he]
   rw [hw]
   simp
theorem clone_any (s : ByteArray) (w : World) (hs : s.size ≤ 65536) : Calls Tryz.prog 85 #[.string s] w fun e w' => e = .returned (.string s) ∧ Below w.heap.size w w' := by
 have C1 := fun W => Tryz.stringslite_Clone s W (by omega)
 go_enter Tryz.func85, Tryz.ntmps85
 go_wp2_with (go_at_call 102; (with_reducible refine Calls.mono (C1 _) ?_); rintro e' w1 ⟨rfl, hb⟩)
 go_ret
 exact ⟨rfl, hb⟩
/-- What is asked of IndexAny. -/
def Finds : Prop := ∀ (l : List UInt8) (w : World), l.length ≤ 65536 → Calls Tryz.prog 84 #[strV l, .string ⟨#[32, 40, 41]⟩] w fun e w' => e = .returned (.int .i64 (Lib.indexAny l [32, 40, 41])) ∧ Below w.heap.size w w'
set_option maxHeartbeats 16000000 in
set_option maxRecDepth 10000 in
theorem leaf_any (hI : Finds) (l : List UInt8) (q : Nat) (w : World) (h : RdAt w q l) (hl : l.length ≤ 65536) : Calls Tryz.prog 63 #[.pointer (some ⟨q, 0, none⟩)] w fun e w' => e = .returned (.agg #[.int .i64 (wordT (wordL l)).1, strV (wordT (wordL l)).2, .slice none 0 0]) ∧ RdS w w' q (l.drop (wordL l).length) := by
 obtain ⟨r, hs1, hs2, hs3⟩ := word_split l
 have hwl : (wordL l).length ≤ l.length := by have := congrArg List.length hs1; rw [List.length_append] at this; omega
 have IX := fun W => hI l W hl
 rw [index_any] at IX
 have HS : Hid ((⟨l.toArray⟩ : ByteArray).extract 0 (wordL l).length = ⟨(wordL l).toArray⟩ ∧ (⟨l.toArray⟩ : ByteArray).extract (wordL l).length l.length = ⟨(l.drop (wordL l).length).toArray⟩) := by
  have ht : l.take (wordL l).length = wordL l := by
   have := congrArg (List.take (wordL l).length) hs1
   rw [List.take_left] at this
   exact this
  constructor
  ·apply ByteArray.ext
   rw [ByteArray.data_extract]
   apply Array.ext'
   simp [ht]
  ·apply ByteArray.ext
   rw [ByteArray.data_extract]
   apply Array.ext'
   simp
   rw [List.take_of_length_le (by simp)]
 have hsz : (⟨l.toArray⟩ : ByteArray).size = l.length := by show l.toArray.size = _; simp
 have CV := fun W => isVariable_any ⟨(wordL l).toArray⟩ W (by show (wordL l).toArray.size < _; simp; omega)
 have CC := fun W => clone_any ⟨(wordL l).toArray⟩ W (by show (wordL l).toArray.size ≤ _; simp; omega)
 rw [show (⟨(wordL l).toArray⟩ : ByteArray).data.toList = wordL l by simp] at CV
 obtain ⟨W0, hW0, hbW0, hsW0, _, _, _⟩ := cells_box w (.int .i64 0) (.string ⟨#[]⟩) (.slice none 0 0) 29
 have hqw := lt_of_heap h
 have HA : Hid (∀ U, Below W0.heap.size W0 U → U.heap[w.heap.size]? = some (.cells #[.int .i64 0, .string ⟨#[]⟩, .slice none 0 0] 29 (0, 0)) ∧ RdAt U q l ∧ w.grownBy U (some q)) := fun U hb => by
  have hb0 := hbW0.trans (hb.mono hbW0.size)
  refine ⟨?_, (hb0.block q hqw).trans h, hb0.os, hb0.tape, hb0.output, hb0.size, fun k hk _ => hb0.block k hk⟩
  rw [hb.block _ (by omega), hW0]
  exact heap_alloc_new w _
 have FIN : Hid (∀ U W (k : Int) (n : List UInt8), w.grownBy U (some q) → RdAt U q l → U.heap[w.heap.size]? = some (.cells #[.int .i64 0, .string ⟨#[]⟩, .slice none 0 0] 29 (0, 0)) → W = (((U.setCell ⟨q, 0, none⟩ (strV (l.drop (wordL l).length))).setCell ⟨w.heap.size, 0, none⟩ (.int .i64 k)).setCell ⟨w.heap.size, 1, none⟩ (strV n)).setCell ⟨w.heap.size, 2, none⟩ (.slice none 0 0) → W.heap[w.heap.size]? = some (.cells #[.int .i64 k, strV n, .slice none 0 0] 29 (0, 0)) ∧ RdS w W q (l.drop (wordL l).length)) := fun U W k n h1 h2 h3 e => by
  have hs := rd_set h2 (l.drop (wordL l).length)
  have h4 : (U.setCell ⟨q, 0, none⟩ (strV (l.drop (wordL l).length))).heap[w.heap.size]? = some (.cells #[.int .i64 0, .string ⟨#[]⟩, .slice none 0 0] 29 (0, 0)) := by
   rw [hs.grow.block _ (lt_of_heap h3) (by intro e; have := Option.some.inj e; omega)]
   exact h3
  obtain ⟨W', hW', k1, k2, k3, k4⟩ := store3 h4 (.int .i64 k) (strV n) (.slice none 0 0)
  rw [← hW'] at e
  subst e
  refine ⟨k1, ⟨?_, ?_⟩⟩
  ·refine ⟨k4.os.trans (hs.grow.os.trans h1.os), k4.tape.trans (hs.grow.tape.trans h1.tape), k4.output.trans (hs.grow.output.trans h1.output), ?_, fun g hg hne => ?_⟩
   ·have := h1.size
    have := hs.grow.size
    omega
   ·rw [k2 g (by omega), hs.grow.block g (by have := h1.size; omega) hne, h1.block g hg hne]
  ·show W.heap[q]? = _
   rw [k2 q (by omega)]
   exact hs.at'
 have hzq : ¬ w.heap.size = q := by omega
 have hqz : ¬ q = w.heap.size := by omega
 clear hbW0 hsW0 h hI hqw hs1 hs3
 have hwn : (wordL l).length ≤ 65536 := by omega
 have HE : Hid ((wordL l = l → (wordL l).length = l.length) ∧ (⟨(wordL l).toArray⟩ : ByteArray).toList = wordL l) := ⟨fun h => by rw [h], bytes_list _⟩
 have hi0 : (0 : Int) ≤ ((wordL l).length : Int) := by omega
 have hil : ((wordL l).length : Int) ≤ (l.length : Int) := by omega
 generalize hW1 : (⟨(wordL l).toArray⟩ : ByteArray) = wd at CV CC HS HE
 generalize hd : l.drop (wordL l).length = rest at *
 have HT : Hid (wordT (wordL l) = (if wordL l = [73, 110, 116] then (1, []) else if varB (wordL l) = true then (2, wordL l) else (4, wordL l))) := rfl
 have HD : Hid (strV (wordL l) = .string wd) := by rw [← hW1]; rfl
 obtain ⟨x1, x2⟩ := HS.out
 generalize varB (wordL l) = vb at CV HT
 generalize hww : wordT (wordL l) = ww at *
 generalize hi : (wordL l).length = i at *
 have hI : ((wd.toList == [73, 110, 116]) = decide (wordL l = [73, 110, 116])) := by rw [HE.out.2, Bool.eq_iff_iff]; simp
 have W1 : (wordL l = [73, 110, 116] → ww = (1, [])) ∧ (wordL l ≠ [73, 110, 116] → vb = true → ww = (2, wordL l)) ∧ (wordL l ≠ [73, 110, 116] → vb = false → ww = (4, wordL l)) := by
  have := HT.out
  refine ⟨fun h => ?_, fun h h' => ?_, fun h h' => ?_⟩
  ·rw [this, if_pos h]
  ·rw [this, if_neg h, if_pos h']
  ·rw [this, if_neg h, if_neg (by rw [h']; decide)]
 have hx1 : (⟨l.toArray⟩ : ByteArray).extract 0 i = wd := x1
 have hx2 : (⟨l.toArray⟩ : ByteArray).extract i l.length = ⟨rest.toArray⟩ := x2
 clear x1 x2 HS hW1 HT hww hi hd hs2 hwl
 have WALK : ∀ (idx : Int), (∀ W, Calls Tryz.prog 84 #[strV l, .string ⟨#[32, 40, 41]⟩] W fun e w' => e = .returned (.int .i64 idx) ∧ Below W.heap.size W w') → (idx = -1 ∧ i = l.length ∨ idx = i) → Calls Tryz.prog 63 #[.pointer (some ⟨q, 0, none⟩)] w fun e w' => e = .returned (.agg #[.int .i64 ww.1, strV ww.2, .slice none 0 0]) ∧ RdS w w' q rest := by
  clear IX
  intro idx IY hix
  have HEnd : Hid (wordL l = [73, 110, 116] ∨ wordL l ≠ [73, 110, 116]) := Classical.em _
  have HLs : Hid ((⟨l.toArray⟩ : ByteArray) = ⟨l.toArray⟩ ∧ strV rest = .string ((⟨l.toArray⟩ : ByteArray).extract i l.length)) := ⟨rfl, by rw [hx2]⟩
  have HL2 : Hid (strV rest = .string ((⟨l.toArray⟩ : ByteArray).extract i l.length)) := by show _ = _; rw [hx2]
  have HA2 : Hid (∀ U, RdAt U q l → U.cell? ⟨q, 0, none⟩ = some (.string ⟨l.toArray⟩) ∧ U.frozen? ⟨q, 0, none⟩ = false) := fun U h => ⟨rd_cell h, heap_frozen h⟩
  have HZ : Hid (w.heap.size = w.heap.size) := rfl
  rw [← hx1] at CC CV hI HD
  have HN : Hid (wordL l ≠ [73, 110, 116] → strV (wordL l) = .string ((⟨l.toArray⟩ : ByteArray).extract 0 i)) := fun _ => HD.out
  clear hx1 hx2 HLs HD HE
  have IX : ∀ W, Calls Tryz.prog 84 #[.string ⟨l.toArray⟩, .string ⟨#[32, 40, 41]⟩] W fun e w' => e = .returned (.int .i64 idx) ∧ Below W.heap.size W w' := IY
  clear IY
  rw [← hsz] at hil hix
  generalize hsn : (⟨l.toArray⟩ : ByteArray) = s at *
  have hs6 : s.size ≤ 65536 := by omega
  have RES : ∀ (U : World) (k : Int) (n : List UInt8) (nv : Value), nv = strV n → ww = (k, n) → w.grownBy U (some q) → RdAt U q l → U.heap[w.heap.size]? = some (.cells #[.int .i64 0, .string ⟨#[]⟩, .slice none 0 0] 29 (0, 0)) → ∃ W, W = (((U.setCell ⟨q, 0, none⟩ (.string (s.extract i s.size))).setCell ⟨w.heap.size, 0, none⟩ (.int .i64 k)).setCell ⟨w.heap.size, 1, none⟩ nv).setCell ⟨w.heap.size, 2, none⟩ (.slice none 0 0) ∧ W.heap[w.heap.size]? = some (.cells #[.int .i64 k, nv, .slice none 0 0] 29 (0, 0)) ∧ RdS w W q rest ∧ Ending.returned (.agg #[.int .i64 k, nv, .slice none 0 0]) = .returned (.agg #[.int .i64 ww.1, strV ww.2, .slice none 0 0]) := fun U k n nv e1 e2 h1 h2 h3 => by
   subst e1
   have e3 : Value.string (s.extract i s.size) = strV rest := by rw [hsz]; exact HL2.out.symm
   rw [e3]
   obtain ⟨a1, a2⟩ := FIN.out U _ k n h1 h2 h3 rfl
   exact ⟨_, rfl, a1, a2, by rw [e2]⟩
  have HRES : Hid _ := RES
  clear hsz FIN HL2 RES hwn
  rcases HEnd.out with hInt | hInt
  ·have hI1 : ((s.extract 0 i).toList == [73, 110, 116]) = true := by rw [hI]; simpa using hInt
   have hW1 := W1.1 hInt
   clear hI W1 HN
   rcases hix with ⟨rfl, rfl⟩ | rfl
   ·have ex : s.extract 0 s.size = s := by simp
    have ey : s.extract s.size s.size = ByteArray.empty := by simp
    rw [ex] at CC CV hI1
    rw [ey] at HRES
    go_enter Tryz.func63, Tryz.ntmps63
    go_upto_region 1 with fail
    rw [← hW0]
    clear hW0
    obtain ⟨a1, a2, a3⟩ := HA.out W0 (Below.refl _ _)
    obtain ⟨v0, v1⟩ := HA2.out _ a2
    go_upto_region 5 with (first
     | (go_at_call 84; (with_reducible refine Calls.mono (IX _) ?_); rintro e' w1 ⟨rfl, hb1⟩; obtain ⟨a1, a2, a3⟩ := HA.out _ hb1; obtain ⟨y0, y1⟩ := HA2.out _ a2)
     | (go_at_call 85; (with_reducible refine Calls.mono (CC _) ?_); rintro e' w2 ⟨rfl, hb2⟩; obtain ⟨b1, b2, b3⟩ := HA.out _ (hb1.trans (hb2.mono hb1.size)); obtain ⟨x0, x1⟩ := HA2.out _ b2))
    obtain ⟨z0, z1, z2⟩ := heap_cells b1
    have g0 := heap_frozen (o := 0) b1
    have g1 := heap_frozen (o := 1) b1
    have g2 := heap_frozen (o := 2) b1
    go_wp2
    obtain ⟨W, hWe, k1, k2, k3⟩ := HRES.out w2 1 [] (.string ⟨#[]⟩) rfl hW1 b3 b2 b1
    rw [← hWe]
    obtain ⟨s0, s1, s2⟩ := heap_cells k1
    refine bodyPost_ret (v := .agg #[.int .i64 1, (.string ⟨#[]⟩), .slice none 0 0]) (by simp [results, Tryz.results63, go_sem, s0, s1, s2]) rfl ?_
    exact ⟨k3, k2⟩
   ·go_enter Tryz.func63, Tryz.ntmps63
    go_upto_region 1 with fail
    rw [← hW0]
    clear hW0
    obtain ⟨a1, a2, a3⟩ := HA.out W0 (Below.refl _ _)
    obtain ⟨v0, v1⟩ := HA2.out _ a2
    go_upto_region 5 with (first
     | (go_at_call 84; (with_reducible refine Calls.mono (IX _) ?_); rintro e' w1 ⟨rfl, hb1⟩; obtain ⟨a1, a2, a3⟩ := HA.out _ hb1; obtain ⟨y0, y1⟩ := HA2.out _ a2)
     | (go_at_call 85; (with_reducible refine Calls.mono (CC _) ?_); rintro e' w2 ⟨rfl, hb2⟩; obtain ⟨b1, b2, b3⟩ := HA.out _ (hb1.trans (hb2.mono hb1.size)); obtain ⟨x0, x1⟩ := HA2.out _ b2))
    obtain ⟨z0, z1, z2⟩ := heap_cells b1
    have g0 := heap_frozen (o := 0) b1
    have g1 := heap_frozen (o := 1) b1
    have g2 := heap_frozen (o := 2) b1
    go_wp2
    obtain ⟨W, hWe, k1, k2, k3⟩ := HRES.out w2 1 [] (.string ⟨#[]⟩) rfl hW1 b3 b2 b1
    rw [← hWe]
    obtain ⟨s0, s1, s2⟩ := heap_cells k1
    refine bodyPost_ret (v := .agg #[.int .i64 1, (.string ⟨#[]⟩), .slice none 0 0]) (by simp [results, Tryz.results63, go_sem, s0, s1, s2]) rfl ?_
    exact ⟨k3, k2⟩
  ·have hI1 : ((s.extract 0 i).toList == [73, 110, 116]) = false := by rw [hI]; simpa using hInt
   have hNm := HN.out hInt
   cases vb with
   | true =>
    have hW1 := W1.2.1 hInt rfl
    clear hI W1 HN
    rcases hix with ⟨rfl, rfl⟩ | rfl
    ·have ex : s.extract 0 s.size = s := by simp
     have ey : s.extract s.size s.size = ByteArray.empty := by simp
     rw [ex] at CC CV hI1
     rw [ex] at hNm
     rw [ey] at HRES
     go_enter Tryz.func63, Tryz.ntmps63
     go_upto_region 1 with fail
     rw [← hW0]
     clear hW0
     obtain ⟨a1, a2, a3⟩ := HA.out W0 (Below.refl _ _)
     obtain ⟨v0, v1⟩ := HA2.out _ a2
     go_upto_region 5 with (first
      | (go_at_call 84; (with_reducible refine Calls.mono (IX _) ?_); rintro e' w1 ⟨rfl, hb1⟩; obtain ⟨a1, a2, a3⟩ := HA.out _ hb1; obtain ⟨y0, y1⟩ := HA2.out _ a2)
      | (go_at_call 85; (with_reducible refine Calls.mono (CC _) ?_); rintro e' w2 ⟨rfl, hb2⟩; obtain ⟨b1, b2, b3⟩ := HA.out _ (hb1.trans (hb2.mono hb1.size)); obtain ⟨x0, x1⟩ := HA2.out _ b2))
     obtain ⟨z0, z1, z2⟩ := heap_cells b1
     have g0 := heap_frozen (o := 0) b1
     have g1 := heap_frozen (o := 1) b1
     have g2 := heap_frozen (o := 2) b1
     go_wp2_with (go_at_call 41; (with_reducible refine Calls.mono (CV _) ?_); rintro e' w3 ⟨rfl, rfl⟩)
     obtain ⟨W, hWe, k1, k2, k3⟩ := HRES.out w2 2 (wordL l) (.string s) hNm.symm hW1 b3 b2 b1
     rw [← hWe]
     obtain ⟨s0, s1, s2⟩ := heap_cells k1
     refine bodyPost_ret (v := .agg #[.int .i64 2, (.string s), .slice none 0 0]) (by simp [results, Tryz.results63, go_sem, s0, s1, s2]) rfl ?_
     exact ⟨k3, k2⟩
    ·go_enter Tryz.func63, Tryz.ntmps63
     go_upto_region 1 with fail
     rw [← hW0]
     clear hW0
     obtain ⟨a1, a2, a3⟩ := HA.out W0 (Below.refl _ _)
     obtain ⟨v0, v1⟩ := HA2.out _ a2
     go_upto_region 5 with (first
      | (go_at_call 84; (with_reducible refine Calls.mono (IX _) ?_); rintro e' w1 ⟨rfl, hb1⟩; obtain ⟨a1, a2, a3⟩ := HA.out _ hb1; obtain ⟨y0, y1⟩ := HA2.out _ a2)
      | (go_at_call 85; (with_reducible refine Calls.mono (CC _) ?_); rintro e' w2 ⟨rfl, hb2⟩; obtain ⟨b1, b2, b3⟩ := HA.out _ (hb1.trans (hb2.mono hb1.size)); obtain ⟨x0, x1⟩ := HA2.out _ b2))
     obtain ⟨z0, z1, z2⟩ := heap_cells b1
     have g0 := heap_frozen (o := 0) b1
     have g1 := heap_frozen (o := 1) b1
     have g2 := heap_frozen (o := 2) b1
     go_wp2_with (go_at_call 41; (with_reducible refine Calls.mono (CV _) ?_); rintro e' w3 ⟨rfl, rfl⟩)
     obtain ⟨W, hWe, k1, k2, k3⟩ := HRES.out w2 2 (wordL l) (.string (s.extract 0 i)) hNm.symm hW1 b3 b2 b1
     rw [← hWe]
     obtain ⟨s0, s1, s2⟩ := heap_cells k1
     refine bodyPost_ret (v := .agg #[.int .i64 2, (.string (s.extract 0 i)), .slice none 0 0]) (by simp [results, Tryz.results63, go_sem, s0, s1, s2]) rfl ?_
     exact ⟨k3, k2⟩
   | false =>
    have hW1 := W1.2.2 hInt rfl
    clear hI W1 HN
    rcases hix with ⟨rfl, rfl⟩ | rfl
    ·have ex : s.extract 0 s.size = s := by simp
     have ey : s.extract s.size s.size = ByteArray.empty := by simp
     rw [ex] at CC CV hI1
     rw [ex] at hNm
     rw [ey] at HRES
     go_enter Tryz.func63, Tryz.ntmps63
     go_upto_region 1 with fail
     rw [← hW0]
     clear hW0
     obtain ⟨a1, a2, a3⟩ := HA.out W0 (Below.refl _ _)
     obtain ⟨v0, v1⟩ := HA2.out _ a2
     go_upto_region 5 with (first
      | (go_at_call 84; (with_reducible refine Calls.mono (IX _) ?_); rintro e' w1 ⟨rfl, hb1⟩; obtain ⟨a1, a2, a3⟩ := HA.out _ hb1; obtain ⟨y0, y1⟩ := HA2.out _ a2)
      | (go_at_call 85; (with_reducible refine Calls.mono (CC _) ?_); rintro e' w2 ⟨rfl, hb2⟩; obtain ⟨b1, b2, b3⟩ := HA.out _ (hb1.trans (hb2.mono hb1.size)); obtain ⟨x0, x1⟩ := HA2.out _ b2))
     obtain ⟨z0, z1, z2⟩ := heap_cells b1
     have g0 := heap_frozen (o := 0) b1
     have g1 := heap_frozen (o := 1) b1
     have g2 := heap_frozen (o := 2) b1
     go_wp2_with (go_at_call 41; (with_reducible refine Calls.mono (CV _) ?_); rintro e' w3 ⟨rfl, rfl⟩)
     obtain ⟨W, hWe, k1, k2, k3⟩ := HRES.out w2 4 (wordL l) (.string s) hNm.symm hW1 b3 b2 b1
     rw [← hWe]
     obtain ⟨s0, s1, s2⟩ := heap_cells k1
     refine bodyPost_ret (v := .agg #[.int .i64 4, (.string s), .slice none 0 0]) (by simp [results, Tryz.results63, go_sem, s0, s1, s2]) rfl ?_
     exact ⟨k3, k2⟩
    ·go_enter Tryz.func63, Tryz.ntmps63
     go_upto_region 1 with fail
     rw [← hW0]
     clear hW0
     obtain ⟨a1, a2, a3⟩ := HA.out W0 (Below.refl _ _)
     obtain ⟨v0, v1⟩ := HA2.out _ a2
     go_upto_region 5 with (first
      | (go_at_call 84; (with_reducible refine Calls.mono (IX _) ?_); rintro e' w1 ⟨rfl, hb1⟩; obtain ⟨a1, a2, a3⟩ := HA.out _ hb1; obtain ⟨y0, y1⟩ := HA2.out _ a2)
      | (go_at_call 85; (with_reducible refine Calls.mono (CC _) ?_); rintro e' w2 ⟨rfl, hb2⟩; obtain ⟨b1, b2, b3⟩ := HA.out _ (hb1.trans (hb2.mono hb1.size)); obtain ⟨x0, x1⟩ := HA2.out _ b2))
     obtain ⟨z0, z1, z2⟩ := heap_cells b1
     have g0 := heap_frozen (o := 0) b1
     have g1 := heap_frozen (o := 1) b1
     have g2 := heap_frozen (o := 2) b1
     go_wp2_with (go_at_call 41; (with_reducible refine Calls.mono (CV _) ?_); rintro e' w3 ⟨rfl, rfl⟩)
     obtain ⟨W, hWe, k1, k2, k3⟩ := HRES.out w2 4 (wordL l) (.string (s.extract 0 i)) hNm.symm hW1 b3 b2 b1
     rw [← hWe]
     obtain ⟨s0, s1, s2⟩ := heap_cells k1
     refine bodyPost_ret (v := .agg #[.int .i64 4, (.string (s.extract 0 i)), .slice none 0 0]) (by simp [results, Tryz.results63, go_sem, s0, s1, s2]) rfl ?_
     exact ⟨k3, k2⟩
 by_cases hwe : wordL l = l
 ·rw [if_pos hwe] at IX
  exact WALK (-1) IX (.inl ⟨rfl, HE.out.1 hwe⟩)
 ·rw [if_neg hwe] at IX
  exact WALK i IX (.inr rfl)
end Go.Proofs.YtikpipenhamdbaaGreat
