/- The text of a type, written into a builder: contracts of write and writeRow. The text of a type: the contract of write. -/
import Derived.Test.YtikpipenhamdbaaMfx
import Derived.Lib.BufferKept
namespace Go.Proofs.Ytikpipenhamdbaa
open Go.RowKit

theorem heap_cells {w : World} {b : Nat} {x y u : Value} {t : TypeId} {fr : Nat × Nat} (h : w.heap[b]? = some (.cells #[x, y, u] t fr)) : w.cell? ⟨b, 0, none⟩ = some x ∧ w.cell? ⟨b, 1, none⟩ = some y ∧ w.cell? ⟨b, 2, none⟩ = some u := by
  refine ⟨?_, ?_, ?_⟩ <;> (simp only [World.cell?, h]; rfl)
/-- The builder whose block is b holds these bytes. -/
abbrev IsB (B b : Nat) (l : List UInt8) (w : World) : Prop := Lib.IsBuilderF 64 5 B b (Lib.byteCells l) w
theorem isB_lt {B b : Nat} {l : List UInt8} {w : World} (h : IsB B b l w) : B ≤ b ∧ b < w.heap.size := by
  rcases h with ⟨h1, v, h2, _⟩ | ⟨h1, v, h2, _⟩
  · exact ⟨h1, lt_of_heap h2⟩
  · exact ⟨h1, lt_of_heap h2⟩
theorem isB_on {B b : Nat} {l : List UInt8} {w w' : World} (h : IsB B b l w) (hb : Below w.heap.size w w') : IsB B b l w' := by
  have hg : w.grownBy w' none := ⟨hb.os, hb.tape, hb.output, hb.size, fun k hk _ => hb.block k hk⟩
  rcases h with ⟨h1, v, h2, h3, h4⟩ | ⟨h1, v, h2, h3, h4⟩
  · refine .inl ⟨h1, v, (hb.block b (lt_of_heap h2)).trans h2, h3.kept hg ?_, h4⟩
    cases v.ownBlock <;> simp
  · refine .inr ⟨h1, v, (hb.block b (lt_of_heap h2)).trans h2, h3.kept hg ?_, h4⟩
    cases v.ownBlock <;> simp
theorem ws_any {B b : Nat} {l : List UInt8} {w : World} (s : ByteArray) (h : IsB B b l w) (hl : l.length + s.size ≤ 140737488355328) (hB : B ≤ w.heap.size) :
    Calls Try.prog 41 #[.pointer (some ⟨b, 0, none⟩), .string s] w fun r w' => r = .returned (.tuple #[.int .i64 s.size, .nilIface]) ∧ IsB B b (l ++ s.data.toList) w' ∧ Below B w w' ∧ Lib.OthersKept 5 (some b) w w' := by
  refine Calls.mono (Try.Builder_WriteString_k B b _ s w h (by rw [Lib.byteCells_length]; exact hl) hB) ?_
  rintro e w' ⟨rfl, h1, h2, h3⟩
  refine ⟨rfl, .inr ?_, h2, h3⟩
  rw [Lib.byteCells_append]
  exact h1
/-- What write leaves. -/
def WPost (B b : Nat) (l : List UInt8) (w : World) (r : Ending) (w' : World) : Prop := r = .returned (.tuple #[]) ∧ IsB B b l w' ∧ Below B w w' ∧ Lib.OthersKept 5 (some b) w w'
/-- Texts in a row, with something between each two. -/
def preT (d : Nat) (bt : List UInt8) : List (Tn d) → List UInt8
  | [] => []
  | t :: ts => textT d t ++ (ts.map fun u => bt ++ textT d u).flatten
theorem preT_snoc (d : Nat) (bt : List UInt8) (ts : List (Tn d)) (t : Tn d) : preT d bt (ts ++ [t]) = preT d bt ts ++ ((if ts = [] then [] else bt) ++ textT d t) := by
  cases ts with
  | nil => simp [preT]
  | cons a ts => simp [preT]
theorem preT_args (d : Nat) (t : Tn d) (ts : List (Tn d)) : 32 :: preT d [32] (t :: ts) = argsT d (t :: ts) := by
  rw [argsT_cons]
  simp [preT, argsT]
theorem preT_take (d : Nat) (bt : List UInt8) (ts : List (Tn d)) : ∀ j, (preT d bt (ts.take j)).length ≤ (preT d bt ts).length := by
  intro j
  cases ts with
  | nil => simp
  | cons t ts =>
    cases j with
    | zero => simp [preT]
    | succ j =>
      have : ∀ (l : List (Tn d)) (j : Nat), ((l.take j).map fun u => bt ++ textT d u).flatten.length ≤ (l.map fun u => bt ++ textT d u).flatten.length := by
        intro l
        induction l with
        | nil => simp
        | cons a l ih =>
          intro j
          cases j with
          | zero => simp
          | succ j =>
            have := ih j
            simp only [List.take_succ_cons, List.map_cons, List.flatten_cons, List.length_append] at this ⊢
            omega
      have := this ts j
      simp only [List.take_succ_cons, preT, List.length_append]
      omega
def Writes (d : Nat) : Prop := ∀ (x : Value) (t : Tn d) (w : World) (B b : Nat) (l : List UInt8), IsB B b l w → B ≤ w.heap.size → TyAt w B d x t → formB d t = true → l.length + (textT d t).length ≤ 70368744177664 →
    Calls Try.prog 24 #[.pointer (some ⟨b, 0, none⟩), x] w (WPost B b (l ++ textT d t) w)
set_option maxHeartbeats 16000000 in
set_option maxRecDepth 10000 in
theorem writeRow_step (d : Nat) (IH : Writes d) (hd bt : List UInt8) (v : Value) (ts : List (Tn d)) (w : World) (B b : Nat) (l : List UInt8) (hI : IsB B b l w) (hB : B ≤ w.heap.size) (hrow : RowP w B (TyAt w B d) v ts) (hF : ∀ t ∈ ts, formB d t = true) (hn : ts.length < 1000)
    (hl : l.length + hd.length + (preT d bt ts).length + 2 ≤ 70368744177664) : Calls Try.prog 42 #[.pointer (some ⟨b, 0, none⟩), .string ⟨hd.toArray⟩, v, .string ⟨bt.toArray⟩] w (WPost B b (l ++ (40 :: hd ++ preT d bt ts ++ [41])) w) := by
  obtain ⟨ad, cap, rfl, hrow2⟩ := hrow.cells
  have HC : Hid (ts ≠ [] → ∃ g o, ad = some ⟨g, o, none⟩ ∧ ts.length ≤ cap ∧ g < B ∧
    ∀ j (h : j < ts.length), ∃ k n ad' len' cap', (∀ w', Below B w w' → w'.cell? ⟨g, o + j * 3, none⟩ = some (.int .i64 k) ∧ w'.cell? ⟨g, o + j * 3 + 1, none⟩ = some (.string n) ∧ w'.cell? ⟨g, o + j * 3 + 2, none⟩ = some (.slice ad' len' cap')) ∧ TyAt w B d (.agg #[.int .i64 k, .string n, .slice ad' len' cap']) ts[j]) := hrow2
  have HF : Hid (∀ t ∈ ts, formB d t = true) := hF
  have HB : Hid (B ≤ w.heap.size) := hB
  have C0 := ws_any ((⟨#[40]⟩ : ByteArray) ++ ⟨hd.toArray⟩) hI (by rw [str_open]; show _ + (List.toArray _).size ≤ _; simp; omega) hB
  have HL : Hid (∀ j, (preT d bt (ts.take j)).length ≤ (preT d bt ts).length) := preT_take d bt ts
  have HIH : Hid (Writes d) := IH
  have HLl : Hid (l.length + hd.length + (preT d bt ts).length + 2 ≤ 70368744177664) := hl
  have hdl : hd.length ≤ 70368744177664 := by omega
  clear hrow hrow2 hI IH hF hl
  go_enter Try.func42, Try.ntmps42
  go_wp2_with (go_at_call 41; (with_reducible refine Calls.mono C0 ?_); rintro e' w1 ⟨rfl, hi1, hb1, ho1⟩)
  have HI1 : Hid (IsB B b (l ++ (40 :: hd ++ preT d bt (ts.take 0))) w1) := by
    rw [str_open] at hi1
    show IsB _ _ _ _
    simpa [preT] using hi1
  have HB1 : Hid (Below B w w1 ∧ Lib.OthersKept 5 (some b) w w1) := ⟨hb1, ho1⟩
  clear hi1 hb1 ho1
  go_loopw [16] (fun i wr => ∃ j : Nat, j ≤ ts.length ∧ i = .int .i64 j ∧ Hid (IsB B b (l ++ (40 :: hd ++ preT d bt (ts.take j))) wr ∧ Below B w wr ∧ Lib.OthersKept 5 (some b) w wr)) (fun i _ => ts.length - (intOf i).toNat)
  case atStart => exact ⟨0, by omega, by go_num, HI1.out, HB1.out⟩
  case round =>
    obtain ⟨j, hj, rfl, HJ⟩ := hrel
    clear HI1 HB1 C0
    by_cases hlt : j < ts.length
    · obtain ⟨g, o, rfl, hcap, hg, hel⟩ := HC.out (by intro h; rw [h] at hlt; simp at hlt)
      obtain ⟨k1, n1, ad1, l1, cp1, hcel, T1⟩ := hel j hlt
      obtain ⟨hIj, hbj, hoj⟩ := HJ.out
      obtain ⟨p0, p1, p2⟩ := hcel wr hbj
      have hfj := HF.out ts[j] (List.getElem_mem hlt)
      have hsnoc : preT d bt (ts.take (j + 1)) = preT d bt (ts.take j) ++ ((if ts.take j = [] then [] else bt) ++ textT d ts[j]) := by
        rw [← preT_snoc]
        congr 1
        simp
      have hlj := HL.out (j + 1)
      have hll := HLl.out
      obtain ⟨U, hU, hbU, hsU, u0, u1, u2⟩ := cells_box wr (.int .i64 k1) (.string n1) (.slice ad1 l1 cp1) 31
      have hbox : U.heap[wr.heap.size]? = some (.cells #[.int .i64 k1, .string n1, .slice ad1 l1 cp1] 31 (0, 0)) := by rw [hU]; exact heap_alloc_new wr _
      have hIU := isB_on hIj hbU
      have hbl := isB_lt hIj
      have hBr : B ≤ wr.heap.size := Nat.le_trans HB.out hbj.size
      have HIU : Hid (IsB B b (l ++ (40 :: hd ++ preT d bt (ts.take j))) U ∧ Below B w U ∧ Lib.OthersKept 5 (some b) w U ∧ B ≤ U.heap.size) := ⟨hIU, hbj.trans (hbU.mono hBr), by rw [hU]; exact hoj.alloc _, by omega⟩
      have HT : Hid (∀ W, Below B w W → TyAt W B d (.agg #[.int .i64 k1, .string n1, .slice ad1 l1 cp1]) ts[j]) := fun W hb => T1.on hb
      have HX : Hid (∀ W, Lib.OthersKept 5 (some b) U W → W.heap[wr.heap.size]? = some (.cells #[.int .i64 k1, .string n1, .slice ad1 l1 cp1] 31 (0, 0))) := fun W ho => ho _ _ hbox (by intro e; have := Option.some.inj e; omega) (by intro c fz e; cases e)
      have i1 : (0 : Int) ≤ (j : Int) := by omega
      have i2 : (j : Int) < (ts.length : Int) := by omega
      clear T1 hcel hel HJ hIj hoj hbU hsU hIU hbl
      go_upto_region 4 with fail
      rw [← hU]
      generalize hq : wr.heap.size = z1 at u0 u1 u2 hbox HX ⊢
      clear hU hq p0 p1 p2
      have FIN : Hid (∀ W w', Below B w W → Lib.OthersKept 5 (some b) w W → WPost B b (l ++ (40 :: hd ++ preT d bt (ts.take (j + 1)))) W (.returned (.tuple #[])) w' → IsB B b (l ++ (40 :: hd ++ preT d bt (ts.take (j + 1)))) w' ∧ Below B w w' ∧ Lib.OthersKept 5 (some b) w w') := fun W w' h1 h2 h3 => ⟨h3.2.1, h1.trans h3.2.2.1, h2.trans h3.2.2.2⟩
      by_cases hj0 : j = 0
      · subst hj0
        obtain ⟨hIU, hbU, hoU, hsU⟩ := HIU.out
        have C2 := HIH.out _ _ U B b _ hIU hsU (HT.out U hbU) hfj (by
          have := hlj
          rw [hsnoc] at this
          simp at this ⊢
          omega)
        have e2 : l ++ (40 :: hd ++ preT d bt (ts.take 0)) ++ textT d ts[0] = l ++ (40 :: hd ++ preT d bt (ts.take (0 + 1))) := by rw [hsnoc]; simp
        rw [e2] at C2
        have HUU : Hid (Below B w U ∧ Lib.OthersKept 5 (some b) w U) := ⟨hbU, hoU⟩
        clear hsnoc e2 HIU HT HX hIU hoU hbU hlj hll
        go_wp2_with (go_at_call 24; (with_reducible refine Calls.mono C2 ?_); rintro e' w2 hp; obtain ⟨rfl, hp2⟩ := id hp)
        have HP : Hid _ := FIN.out _ _ HUU.out.1 HUU.out.2 hp
        go_roundw
        case rel => exact ⟨0 + 1, by omega, by go_num, HP.out⟩
        case measure => simp [intOf]; omega
      · have hj1 : (0 : Int) < (j : Int) := by omega
        obtain ⟨hIU, hbU, hoU, hsU⟩ := HIU.out
        have htk : ts.take j ≠ [] := by
          intro h
          have := congrArg List.length h
          rw [List.length_take, List.length_nil] at this
          omega
        rw [if_neg htk] at hsnoc
        have hln := congrArg List.length hsnoc
        simp only [List.length_append] at hln
        have C1 := ws_any (⟨bt.toArray⟩ : ByteArray) hIU (by show _ + bt.toArray.size ≤ _; simp; omega) hsU
        have C2 : ∀ W, IsB B b (l ++ (40 :: hd ++ preT d bt (ts.take j)) ++ bt) W → Below B U W → Calls Try.prog 24 #[.pointer (some ⟨b, 0, none⟩), .agg #[.int .i64 k1, .string n1, .slice ad1 l1 cp1]] W (WPost B b (l ++ (40 :: hd ++ preT d bt (ts.take (j + 1)))) W) := fun W hi hb => by
          have := HIH.out _ _ W B b _ hi (Nat.le_trans hsU hb.size) (HT.out W (hbU.trans hb)) hfj (by simp; omega)
          rw [hsnoc]
          simpa [List.append_assoc] using this
        have HUU : Hid (Below B w U ∧ Lib.OthersKept 5 (some b) w U) := ⟨hbU, hoU⟩
        clear hsnoc HIU HT hIU hoU hbU hlj hll hln htk
        go_wp2_with (first
          | (go_at_call 41; (with_reducible refine Calls.mono C1 ?_); rintro e' w1 ⟨rfl, hi1, hb1, ho1⟩; obtain ⟨y0, y1, y2⟩ := heap_cells (HX.out _ ho1))
          | (go_at_call 24; (with_reducible refine Calls.mono (C2 _ (by simpa using hi1) hb1) ?_); rintro e' w2 hp; obtain ⟨rfl, hp2⟩ := id hp))
        have HP : Hid _ := FIN.out _ _ (HUU.out.1.trans hb1) (HUU.out.2.trans ho1) hp
        go_roundw
        case rel => exact ⟨j + 1, by omega, by go_num, HP.out⟩
        case measure => simp [intOf]; omega
    · obtain ⟨hIj, hbj, hoj⟩ := HJ.out
      rw [List.take_of_length_le (by omega)] at hIj
      have hll := HLl.out
      have C3 := ws_any (⟨#[41]⟩ : ByteArray) hIj (by show _ + 1 ≤ _; simp; omega) (Nat.le_trans HB.out hbj.size)
      have HBo : Hid (Below B w wr ∧ Lib.OthersKept 5 (some b) w wr) := ⟨hbj, hoj⟩
      clear HJ hIj hbj hoj hll
      go_wp2_with (go_at_call 41; (with_reducible refine Calls.mono C3 ?_); rintro e' w1 ⟨rfl, hi1, hb1, ho1⟩)
      refine bodyPost_ret (v := .tuple #[]) (by simp [results, Try.results42, go_sem]) rfl ?_
      exact ⟨rfl, by simpa using hi1, HBo.out.1.trans hb1, HBo.out.2.trans ho1⟩
end Go.Proofs.Ytikpipenhamdbaa

namespace Go.Proofs.Ytikpipenhamdbaa
open Go.RowKit

/-- The ways of write. -/
def WCase (w : World) (B b : Nat) (l : List UInt8) (k : Int) (n : List UInt8) (ad : Option Addr) (len cap : Nat) (tx : List UInt8) : Prop :=
  (k = 1 ∧ tx = [73, 110, 116]) ∨ ((k = 2 ∨ k = 4) ∧ len = 0 ∧ tx = n) ∨
  (k = 3 ∧ ∀ w1, IsB B b l w1 → Below B w w1 → Calls Try.prog 42 #[.pointer (some ⟨b, 0, none⟩), .string ⟨#[]⟩, .slice ad len cap, .string ⟨#[32, 45, 62, 32]⟩] w1 (WPost B b (l ++ tx) w1)) ∨
  (k = 4 ∧ 0 < len ∧ n.length ≤ 4096 ∧ ∀ w1, IsB B b l w1 → Below B w w1 → Calls Try.prog 42 #[.pointer (some ⟨b, 0, none⟩), .string ((⟨n.toArray⟩ : ByteArray) ++ ⟨#[32]⟩), .slice ad len cap, .string ⟨#[32]⟩] w1 (WPost B b (l ++ tx) w1))
set_option maxHeartbeats 16000000 in
set_option maxRecDepth 10000 in
theorem write_case (w : World) (B b : Nat) (l : List UInt8) (k : Int) (n : List UInt8) (ad : Option Addr) (len cap : Nat) (tx : List UInt8) (hC : WCase w B b l k n ad len cap tx) (hI : IsB B b l w) (hB : B ≤ w.heap.size) (h1 : n.length < 140737488355328) (h2 : len < 140737488355328) (hfn : formN k n len = k) (hl : l.length + tx.length ≤ 70368744177664) :
    Calls Try.prog 24 #[.pointer (some ⟨b, 0, none⟩), .agg #[.int .i64 k, .string ⟨n.toArray⟩, .slice ad len cap]] w (WPost B b (l ++ tx) w) := by
  have CF := fun W => formOf_any k n ad len cap W h1 h2
  rw [hfn] at CF
  obtain ⟨W, hW, hbW, hsW, b0, b1, b2⟩ := cells_box w (.int .i64 k) (.string ⟨n.toArray⟩) (.slice ad len cap) 31
  have HW1 : Hid (∀ w1, Below W.heap.size W w1 → (w1.cell? ⟨w.heap.size, 0, none⟩ = some (.int .i64 k) ∧ w1.cell? ⟨w.heap.size, 1, none⟩ = some (.string ⟨n.toArray⟩) ∧ w1.cell? ⟨w.heap.size, 2, none⟩ = some (.slice ad len cap)) ∧ IsB B b l w1 ∧ Below B w w1 ∧ Lib.OthersKept 5 (some b) w w1) := fun w1 hb => by
    have hb0 : Below w.heap.size w w1 := hbW.trans (hb.mono hbW.size)
    exact ⟨⟨(hb.cell (by simp; omega)).trans b0, (hb.cell (by simp; omega)).trans b1, (hb.cell (by simp; omega)).trans b2⟩, isB_on hI hb0, hb0.mono hB, (Lib.OthersKept.refl 5 (some b) w).below hb0⟩
  have FIN : Hid (∀ w1 r w', Below B w w1 → Lib.OthersKept 5 (some b) w w1 → WPost B b (l ++ tx) w1 r w' → WPost B b (l ++ tx) w r w') := fun w1 r w' h1 h2 h3 => ⟨h3.1, h3.2.1, h1.trans h3.2.2.1, h2.trans h3.2.2.2⟩
  have HBw : Hid (∀ w1, Below B w w1 → B ≤ w1.heap.size) := fun w1 hb => Nat.le_trans hB hb.size
  clear hI hbW hsW hfn hB
  rcases hC with ⟨rfl, rfl⟩ | ⟨hk, rfl, rfl⟩ | ⟨rfl, CR⟩ | ⟨rfl, hpos, hnl, CR⟩
  · simp only [List.length_cons, List.length_nil] at hl
    have CS : ∀ w1, IsB B b l w1 → Below B w w1 → Calls Try.prog 41 #[.pointer (some ⟨b, 0, none⟩), .string ⟨#[73, 110, 116]⟩] w1 fun r w' => r = .returned (.tuple #[.int .i64 3, .nilIface]) ∧ IsB B b (l ++ [73, 110, 116]) w' ∧ Below B w1 w' ∧ Lib.OthersKept 5 (some b) w1 w' := fun w1 hi hb => ws_any (⟨#[73, 110, 116]⟩ : ByteArray) hi (by show _ + 3 ≤ _; omega) (HBw.out _ hb)
    go_enter Try.func24, Try.ntmps24
    go_upto_region 1 with fail
    rw [← hW]
    generalize hz : w.heap.size = z at HW1 b0 b1 b2 ⊢
    clear hW hz
    go_wp2_with (first
      | (go_at_call 32; (with_reducible refine Calls.mono (CF _) ?_); rintro e' w1 ⟨rfl, hb1⟩; obtain ⟨⟨y0, y1, y2⟩, hi1, hB1, ho1⟩ := HW1.out _ hb1)
      | (go_at_call 41; (with_reducible refine Calls.mono (CS _ hi1 hB1) ?_); rintro e' w2 ⟨rfl, hi2, hB2, ho2⟩))
    refine bodyPost_ret (v := .tuple #[]) (by simp [results, Try.results24, go_sem]) rfl ?_
    exact FIN.out w1 _ _ hB1 ho1 ⟨rfl, hi2, hB2, ho2⟩
  · have CS : ∀ w1, IsB B b l w1 → Below B w w1 → Calls Try.prog 41 #[.pointer (some ⟨b, 0, none⟩), .string ⟨tx.toArray⟩] w1 fun r w' => r = .returned (.tuple #[.int .i64 (⟨tx.toArray⟩ : ByteArray).size, .nilIface]) ∧ IsB B b (l ++ tx) w' ∧ Below B w1 w' ∧ Lib.OthersKept 5 (some b) w1 w' := fun w1 hi hb => by
      have := ws_any (⟨tx.toArray⟩ : ByteArray) hi (by show _ + tx.toArray.size ≤ _; simp; omega) (HBw.out _ hb)
      simpa using this
    rcases hk with rfl | rfl
    all_goals
      go_enter Try.func24, Try.ntmps24
      go_upto_region 1 with fail
      rw [← hW]
      generalize hz : w.heap.size = z at HW1 b0 b1 b2 ⊢
      clear hW hz
      go_wp2_with (first
        | (go_at_call 32; (with_reducible refine Calls.mono (CF _) ?_); rintro e' w1 ⟨rfl, hb1⟩; obtain ⟨⟨y0, y1, y2⟩, hi1, hB1, ho1⟩ := HW1.out _ hb1)
        | (go_at_call 41; (with_reducible refine Calls.mono (CS _ hi1 hB1) ?_); rintro e' w2 ⟨rfl, hi2, hB2, ho2⟩))
      refine bodyPost_ret (v := .tuple #[]) (by simp [results, Try.results24, go_sem]) rfl ?_
      exact FIN.out w1 _ _ hB1 ho1 ⟨rfl, hi2, hB2, ho2⟩
  · go_enter Try.func24, Try.ntmps24
    go_upto_region 1 with fail
    rw [← hW]
    generalize hz : w.heap.size = z at HW1 b0 b1 b2 ⊢
    clear hW hz
    go_wp2_with (first
      | (go_at_call 32; (with_reducible refine Calls.mono (CF _) ?_); rintro e' w1 ⟨rfl, hb1⟩; obtain ⟨⟨y0, y1, y2⟩, hi1, hB1, ho1⟩ := HW1.out _ hb1)
      | (go_at_call 42; (with_reducible refine Calls.mono (CR _ hi1 hB1) ?_); rintro e' w2 hp; obtain ⟨rfl, hp2⟩ := id hp))
    refine bodyPost_ret (v := .tuple #[]) (by simp [results, Try.results24, go_sem]) rfl ?_
    exact FIN.out w1 _ _ hB1 ho1 hp
  · have hpos' : (0 : Int) < (len : Int) := by omega
    go_enter Try.func24, Try.ntmps24
    go_upto_region 1 with fail
    rw [← hW]
    generalize hz : w.heap.size = z at HW1 b0 b1 b2 ⊢
    clear hW hz
    go_wp2_with (first
      | (go_at_call 32; (with_reducible refine Calls.mono (CF _) ?_); rintro e' w1 ⟨rfl, hb1⟩; obtain ⟨⟨y0, y1, y2⟩, hi1, hB1, ho1⟩ := HW1.out _ hb1)
      | (go_at_call 42; (with_reducible refine Calls.mono (CR _ hi1 hB1) ?_); rintro e' w2 hp; obtain ⟨rfl, hp2⟩ := id hp))
    refine bodyPost_ret (v := .tuple #[]) (by simp [results, Try.results24, go_sem]) rfl ?_
    exact FIN.out w1 _ _ hB1 ho1 hp
theorem write_step (d : Nat) (IH : Writes d) : Writes (d + 1) := by
  intro x t w B b l hI hB h hF hl
  obtain ⟨v, hx, h1, h2, hrow⟩ := h
  subst hx
  obtain ⟨ad, cap, rfl⟩ := hrow.len
  have hok : okB t.1.1 t.1.2 t.2.length = true := by
    have := form_succ d t.1.1 t.1.2 t.2
    rw [show ((t.1.1, t.1.2), t.2) = t from rfl, hF] at this
    cases ho : okB t.1.1 t.1.2 t.2.length
    · rw [ho] at this; cases this
    · rfl
  have hfn : formN t.1.1 t.1.2 t.2.length = t.1.1 := by unfold formN; rw [if_pos hok]
  have HBw : ∀ w1, Below B w w1 → B ≤ w1.heap.size ∧ RowP w1 B (TyAt w1 B d) (.slice ad t.2.length cap) t.2 := fun w1 hb => ⟨Nat.le_trans hB hb.size, hrow.below hb (Nat.le_refl _) fun x t _ h => h.on hb⟩
  refine write_case w B b l _ _ _ _ _ _ ?_ hI hB h1 h2 hfn hl
  rcases form_cases hF with rfl | ⟨n, hn, rfl⟩ | ⟨a, c, ha, hc, rfl⟩ | ⟨n, ts, hn, hlen, hts, rfl⟩
  · exact .inl ⟨rfl, rfl⟩
  · exact .inr (.inl ⟨.inl rfl, rfl, by rw [text_var]⟩)
  · refine .inr (.inr (.inl ⟨rfl, fun w1 hi hb => ?_⟩))
    have := writeRow_step d IH [] [32, 45, 62, 32] (.slice ad 2 cap) [a, c] w1 B b l hi (HBw w1 hb).1 (HBw w1 hb).2 (by simp [ha, hc]) (by simp) (by rw [text_fun] at hl; simp [preT] at hl ⊢; omega)
    have e : 40 :: [] ++ preT d [32, 45, 62, 32] [a, c] ++ [41] = textT (d + 1) ((3, []), [a, c]) := by rw [text_fun]; simp [preT]
    rw [e] at this
    exact this
  · cases ts with
    | nil => exact .inr (.inl ⟨.inr rfl, rfl, by rw [text_data0]⟩)
    | cons a ts =>
      refine .inr (.inr (.inr ⟨rfl, by simp, data_len hn, fun w1 hi hb => ?_⟩))
      have := writeRow_step d IH (n ++ [32]) [32] (.slice ad (a :: ts).length cap) (a :: ts) w1 B b l hi (HBw w1 hb).1 (HBw w1 hb).2 hts (by omega) (by rw [text_data, ← preT_args] at hl; simp at hl ⊢; omega)
      have e : 40 :: (n ++ [32]) ++ preT d [32] (a :: ts) ++ [41] = textT (d + 1) ((4, n), a :: ts) := by rw [text_data, ← preT_args]; simp
      rw [e, ← str_append n [32]] at this
      exact this
theorem write_any : ∀ d, Writes d
  | 0 => fun _ t => t.elim
  | d + 1 => write_step d (write_any d)
end Go.Proofs.Ytikpipenhamdbaa
