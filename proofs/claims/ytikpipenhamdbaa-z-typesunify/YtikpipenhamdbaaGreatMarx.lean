/- The board: the contract of merged. The board: the contract of sortedNames. -/
import Derived.Test.YtikpipenhamdbaaGreatManx
import Derived.BigQuiet
import Derived.Deep.CutRange
import Derived.Sort.Walk0
namespace Go.Proofs.YtikpipenhamdbaaGreat
open Go.RowKit Go.Maps

/-- The value v is the row ss of strings, in a block below B. -/
def StrAt (w : World) (B : Nat) (v : Value) (ss : List (List UInt8)) : Prop :=
 ∃ ad cap, v = .slice ad ss.length cap ∧ (ss ≠ [] → ∃ g o, ad = some ⟨g, o, none⟩ ∧ ss.length ≤ cap ∧ g < B ∧ ∀ w', Below B w w' → ∀ j (h : j < ss.length), w'.cell? ⟨g, o + j, none⟩ = some (encStr ss[j]))
def lenOf : Value → Nat
 | .slice _ n _ => n
 | _ => 0
/-- Between the rounds of merged. -/
structure MgW (w wr : World) (B : Nat) (a b : List (List UInt8)) (av bv ov : Value) (a' b' out : List (List UInt8)) : Prop where
 bel : Below w.heap.size w wr
 ra : StrAt w B av a'
 rb : StrAt w B bv b'
 own : wr.ownsRow w.heap.size 9 1 ov out.length (out.map encStr)
 mg : Mg a b out a' b'
 cnt : out.length + a'.length + b'.length ≤ a.length + b.length
theorem StrAt.head {w wr : World} {B : Nat} {aa : Option Addr} {an ac : Nat} {a' : List (List UInt8)} (h : StrAt w B (.slice aa an ac) a') (hn : an = a'.length) (h0 : 0 < an) (hb : Below B w wr) : ∃ g o s r, aa = some ⟨g, o, none⟩ ∧ an ≤ ac ∧ a' = s :: r ∧ wr.cell? ⟨g, o, none⟩ = some (.string ⟨s.toArray⟩) := by
 obtain ⟨ad, cap, hv, h⟩ := h
 simp only [Value.slice.injEq] at hv
 obtain ⟨rfl, _, rfl⟩ := hv
 cases a' with
 | nil => simp at hn; omega
 | cons s r =>
  obtain ⟨g, o, e1, e2, e3, e4⟩ := h (by simp)
  have := e4 wr hb 0 (by simp)
  exact ⟨g, o, s, r, e1, by omega, rfl, by simpa using this⟩
theorem MgW.headA {w wr : World} {B : Nat} {a b a' b' out : List (List UInt8)} {aa : Option Addr} {an ac : Nat} {bv ov : Value} (h : MgW w wr B a b (.slice aa an ac) bv ov a' b' out) (hn : an = a'.length) (h0 : 0 < an) (hB : B ≤ w.heap.size) : ∃ g o s r, aa = some ⟨g, o, none⟩ ∧ an ≤ ac ∧ a' = s :: r ∧ wr.cell? ⟨g, o, none⟩ = some (.string ⟨s.toArray⟩) := h.ra.head hn h0 (h.bel.mono hB)
theorem MgW.headB {w wr : World} {B : Nat} {a b a' b' out : List (List UInt8)} {ba : Option Addr} {bn bc : Nat} {av ov : Value} (h : MgW w wr B a b av (.slice ba bn bc) ov a' b' out) (hn : bn = b'.length) (h0 : 0 < bn) (hB : B ≤ w.heap.size) : ∃ g o s r, ba = some ⟨g, o, none⟩ ∧ bn ≤ bc ∧ b' = s :: r ∧ wr.cell? ⟨g, o, none⟩ = some (.string ⟨s.toArray⟩) := h.rb.head hn h0 (h.bel.mono hB)
theorem StrAt.tail {w : World} {B : Nat} {g o an ac : Nat} {s : List UInt8} {r : List (List UInt8)} (h : StrAt w B (.slice (some ⟨g, o, none⟩) an ac) (s :: r)) : StrAt w B (.slice (if ac = 1 then some ⟨g, o, none⟩ else some ⟨g, o + 1, none⟩) (an - 1) (ac - 1)) r := by
 obtain ⟨ad, cap, hv, h⟩ := h
 simp only [Value.slice.injEq] at hv
 obtain ⟨hv1, hv2, hv3⟩ := hv
 subst hv1 hv3
 obtain ⟨g', o', e1, e2, e3, e4⟩ := h (by simp)
 simp only [Option.some.injEq, Addr.mk.injEq, and_true] at e1
 obtain ⟨rfl, rfl⟩ := e1
 rw [List.length_cons] at hv2 e2
 refine ⟨_, ac - 1, by rw [hv2, Nat.add_sub_cancel], fun h0 => ⟨g, o + 1, if_neg (fun e => ?_), by omega, e3, fun w' hb j hj => ?_⟩⟩
 ·have := List.length_pos_iff.2 h0
  omega
 ·have := e4 w' hb (j + 1) (by simpa using hj)
  rw [show o + 1 + j = o + (j + 1) by omega]
  exact this
theorem MgW.stepA {w wr : World} {B : Nat} {a b r b' out : List (List UInt8)} {s : List UInt8} {g o an ac : Nat} {bv ov : Value} (h : MgW w wr B a b (.slice (some ⟨g, o, none⟩) an ac) bv ov (s :: r) b' out) (hs : ∀ t r', b' = t :: r' → s ≤ t) :
  (out.getLast? = some s → ∀ w2, Sm wr w2 → MgW w w2 B a b (.slice (if ac = 1 then some ⟨g, o, none⟩ else some ⟨g, o + 1, none⟩) (an - 1) (ac - 1)) bv ov r b' out) ∧ (out.getLast? ≠ some s → ∀ ov' w', w'.ownsRow w.heap.size 9 1 ov' (out.length + 1) (out.map encStr ++ [encStr s]) → Below w.heap.size w w' → MgW w w' B a b (.slice (if ac = 1 then some ⟨g, o, none⟩ else some ⟨g, o + 1, none⟩) (an - 1) (ac - 1)) bv ov' r b' (out ++ [s])) := by
 obtain ⟨m1, m2⟩ := h.mg.left hs
 have hc := h.cnt
 rw [List.length_cons] at hc
 exact ⟨fun hl w2 s2 => ⟨h.bel.trans (s2.below _), h.ra.tail, h.rb, own_keep h.own fun k _ => by rw [s2.heap], m1 hl, by omega⟩, fun hl ov' w' ho hb => ⟨hb, h.ra.tail, h.rb, by simpa using ho, m2 hl, by simp; omega⟩⟩
theorem MgW.stepB {w wr : World} {B : Nat} {a b r a' out : List (List UInt8)} {s : List UInt8} {g o an ac : Nat} {av ov : Value} (h : MgW w wr B a b av (.slice (some ⟨g, o, none⟩) an ac) ov a' (s :: r) out) (hs : ∀ t r', a' = t :: r' → ¬ t ≤ s) :
  (out.getLast? = some s → ∀ w2, Sm wr w2 → MgW w w2 B a b av (.slice (if ac = 1 then some ⟨g, o, none⟩ else some ⟨g, o + 1, none⟩) (an - 1) (ac - 1)) ov a' r out) ∧ (out.getLast? ≠ some s → ∀ ov' w', w'.ownsRow w.heap.size 9 1 ov' (out.length + 1) (out.map encStr ++ [encStr s]) → Below w.heap.size w w' → MgW w w' B a b av (.slice (if ac = 1 then some ⟨g, o, none⟩ else some ⟨g, o + 1, none⟩) (an - 1) (ac - 1)) ov' a' r (out ++ [s])) := by
 obtain ⟨m1, m2⟩ := h.mg.right hs
 have hc := h.cnt
 rw [List.length_cons] at hc
 exact ⟨fun hl w2 s2 => ⟨h.bel.trans (s2.below _), h.ra, h.rb.tail, own_keep h.own fun k _ => by rw [s2.heap], m1 hl, by omega⟩, fun hl ov' w' ho hb => ⟨hb, h.ra, h.rb.tail, by simpa using ho, m2 hl, by simp; omega⟩⟩
/-- A row of one's own has grown. -/
theorem Below.of_grown2 {w w2 W3 : World} {lo n e s : Nat} {v : Value} {xs : List Value} {o : Obj} (hs : lo ≤ w2.heap.size) (hb : Below lo w w2) (ho : w2.ownsRow lo e s v n xs) (hg : (w2.alloc o).grownBy W3 v.ownBlock) : Below lo w W3 :=
 ⟨hg.os.trans hb.os, hg.tape.trans hb.tape, hg.output.trans hb.output, by have h1 := hg.size; have h2 := hb.size; simp at h1; omega, fun k hk => by
  rw [hg.block k (by simp; omega) (fun e => by have := (ho.lt k e.symm).1; omega), Below.heap_alloc _ _ _ (by omega)]
  exact hb.block k hk⟩
/-- The last of a row of one's own. -/
theorem own_last {w : World} {lo m oc : Nat} {oa : Option Addr} {out : List (List UInt8)} (h : w.ownsRow lo 9 1 (.slice oa (m + 1) oc) (m + 1) (out.map encStr)) (hl : out.length = m + 1) : ∃ og l, oa = some ⟨og, 0, none⟩ ∧ m + 1 ≤ oc ∧ out.getLast? = some l ∧ ∀ w2, Sm w w2 → w2.cell? ⟨og, m, none⟩ = some (.string ⟨l.toArray⟩) := by
 rcases id h.2 with ⟨h0, h1⟩ | ⟨g, cap, cur, hv, hg, hh, hrest⟩
 ·omega
 ·simp only [Value.slice.injEq] at hv
  obtain ⟨rfl, _, rfl⟩ := hv
  refine ⟨g, out[m], rfl, hrest.1, ?_, fun w2 s => ?_⟩
  ·rw [List.getLast?_eq_getElem?, show out.length - 1 = m by omega, List.getElem?_eq_getElem (by omega)]
  ·have := h.cellAt m (by omega)
   rw [List.getElem?_map, List.getElem?_eq_getElem (show m < out.length by omega)] at this
   simp only [World.cell?, s.heap] at this ⊢
   exact this
set_option maxHeartbeats 8000000 in
set_option maxRecDepth 10000 in
theorem merged_any (w : World) (B : Nat) (hB : B ≤ w.heap.size) (av bv : Value) (a b : List (List UInt8)) (ha : StrAt w B av a) (hb : StrAt w B bv b) (sa : a.Pairwise (fun x y => x < y)) (sb : b.Pairwise (fun x y => x < y)) (hl : a.length + b.length ≤ 200000000) :
  Calls Tryz.prog 94 #[av, bv] w fun e w' => ∃ (v : Value) (out : List (List UInt8)), e = .returned v ∧ Below w.heap.size w w' ∧ w'.ownsRow w.heap.size 9 1 v out.length (out.map encStr) ∧ out.Pairwise (fun x y => x < y) ∧ (∀ x, x ∈ out ↔ (x ∈ a ∨ x ∈ b)) ∧ out.length ≤ a.length + b.length := by
 obtain ⟨i0, hi, hz0, hz1, hz2⟩ := info_parts Tryz.info9n
 have H0 : Hid (MgW w w B a b av bv (.slice none 0 0) a b []) := ⟨Below.refl _ _, ha, hb, World.ownsRow_nil _ _ _ _, Mg.start sa sb, by simp⟩
 have hav : ∃ ad cap, av = .slice ad a.length cap := by obtain ⟨ad, cap, h, _⟩ := ha; exact ⟨ad, cap, h⟩
 have hbv : ∃ ad cap, bv = .slice ad b.length cap := by obtain ⟨ad, cap, h, _⟩ := hb; exact ⟨ad, cap, h⟩
 obtain ⟨aa, ac, rfl⟩ := hav
 obtain ⟨ba, bc, rfl⟩ := hbv
 have HL : Hid (a.length + b.length ≤ 200000000 ∧ B ≤ w.heap.size) := ⟨hl, hB⟩
 clear ha hb sa sb
 go_enter Tryz.func94, Tryz.ntmps94
 go_upto_region 2 with fail
 go_loopw [0, 1, 5] (fun av bv ov wr => ∃ (aa ba oa : Option Addr) (an bn on ac bc oc : Nat) (a' b' out : List (List UInt8)), av = .slice aa an ac ∧ bv = .slice ba bn bc ∧ ov = .slice oa on oc ∧ Hid (an = a'.length ∧ bn = b'.length ∧ on = out.length ∧ MgW w wr B a b (.slice aa an ac) (.slice ba bn bc) (.slice oa on oc) a' b' out)) (fun av bv _ _ => lenOf av + lenOf bv)
 case atStart => exact ⟨aa, ba, none, a.length, b.length, 0, ac, bc, 0, a, b, [], rfl, rfl, rfl, rfl, rfl, rfl, H0.out⟩
 case round =>
  obtain ⟨aa, ba, oa, an, bn, on, ac, bc, oc, a', b', out, rfl, rfl, rfl, HP⟩ := hrel
  clear H0
  obtain ⟨han, hbn, hon, hW⟩ := HP.out
  have hcnt := hW.cnt
  have hl' := HL.out.1
  have hanl : an ≤ 200000000 := by omega
  have hbnl : bn ≤ 200000000 := by omega
  have honl : on ≤ 200000000 := by omega
  by_cases h0 : an = 0 ∧ bn = 0
  ·obtain ⟨ha0, hb0⟩ := h0
   have HF : Hid (∃ (v : Value) (out : List (List UInt8)), Ending.returned (Value.slice oa on oc) = .returned v ∧ Below w.heap.size w wr ∧ wr.ownsRow w.heap.size 9 1 v out.length (out.map encStr) ∧ out.Pairwise (fun x y => x < y) ∧ (∀ x, x ∈ out ↔ (x ∈ a ∨ x ∈ b)) ∧ out.length ≤ a.length + b.length) := by
    have e1 : a' = [] := List.length_eq_zero_iff.1 (by omega)
    have e2 : b' = [] := List.length_eq_zero_iff.1 (by omega)
    obtain ⟨h1, h2, h3, h4, h5, h6⟩ := hW
    rw [hon] at h4
    rw [e1, e2] at h5
    obtain ⟨g1, g2⟩ := h5.done
    exact ⟨_, out, by rw [hon], h1, h4, g1, g2, by omega⟩
   clear HP hcnt han hbn hon hW
   subst ha0 hb0
   go_wp2
   go_ret
   exact HF.out
  ·have HN : Hid (on = out.length ∧ (wr.ownsRow w.heap.size 9 1 (.slice oa on oc) on (out.map encStr)) ∧ Below w.heap.size w wr) := ⟨hon, by have := hW.own; rw [← hon] at this; exact this, hW.bel⟩
   have HT : Hid (an = a'.length ∧ bn = b'.length ∧ MgW w wr B a b (.slice aa an ac) (.slice ba bn bc) (.slice oa on oc) a' b' out) := ⟨han, hbn, hW⟩
   have HNL : Hid (¬ (an = 0 ∧ bn = 0)) := h0
   have hl3 : (an = 0 → 0 < (bn : Int)) := fun e => by omega
   clear HP hcnt han hbn hon hW h0
   by_cases ha0 : an = 0
   ·have hbn0 : (0 : Int) < (bn : Int) := by omega
    obtain ⟨g, o, s, r, rfl, hbc, ea, s0⟩ := HT.out.2.2.headB HT.out.2.1 (by omega) HL.out.2
    have hst := HT.out.2.2
    rw [ea] at hst
    obtain ⟨st1, st2⟩ := hst.stepB (fun t r' e => by have := HT.out.1; rw [e] at this; simp at this; omega)
    have HS : Hid (out.getLast? = some s → ∀ w2, Sm wr w2 → an = a'.length ∧ bn - 1 = r.length ∧ on = out.length ∧ MgW w w2 B a b (.slice aa an ac) (.slice (if bc = 1 then some ⟨g, o, none⟩ else some ⟨g, o + 1, none⟩) (bn - 1) (bc - 1)) (.slice oa on oc) a' r out) := fun h w2 s2 => ⟨HT.out.1, by have := HT.out.2.1; rw [ea] at this; simp at this; omega, HN.out.1, st1 h w2 s2⟩
    have HA : Hid (out.getLast? ≠ some s → ∀ g' cap' w', w'.ownsRow w.heap.size 9 1 (.slice (some ⟨g', 0, none⟩) (on + 1) cap') (on + 1) (out.map encStr ++ [.string ⟨s.toArray⟩]) → Below w.heap.size w w' → an = a'.length ∧ bn - 1 = r.length ∧ on + 1 = (out ++ [s]).length ∧ MgW w w' B a b (.slice aa an ac) (.slice (if bc = 1 then some ⟨g, o, none⟩ else some ⟨g, o + 1, none⟩) (bn - 1) (bc - 1)) (.slice (some ⟨g', 0, none⟩) (on + 1) cap') a' r (out ++ [s])) := fun h g' cap' w' ho hb => ⟨HT.out.1, by have := HT.out.2.1; rw [ea] at this; simp at this; omega, by rw [List.length_append, ← HN.out.1]; rfl, st2 h _ w' (by rw [← HN.out.1]; exact ho) hb⟩
    clear hst st1 st2 ea
    have ha1 : (decide (0 < an)) = false := by simp; omega
    have ha3 : ¬ (0 : Int) < (an : Int) := by omega
    have hb1 : ((bn : Int) == 0) = false := by simp; omega
    have hb2 : (decide (0 < bn)) = true := by simp; omega
    have HA0 : Hid (an = 0) := ha0
    clear ha0 hl3 HNL
    go_upto_region 4 with fail
    have ha1 : (decide (0 < an)) = false := by have := HA0.out; simp; omega
    have hb1 : ((bn : Int) == 0) = false := by simp; omega
    go_quiet (fail)
    go_upto_region 9 with fail
    generalize (if bc = 1 then (some ⟨g, o, none⟩ : Option Addr) else some ⟨g, o + 1, none⟩) = ad2 at *
    generalize hw2 : wr.drewN nq = w2
    have s2 : Sm wr w2 := by rw [← hw2]; exact ⟨rfl, rfl, rfl, rfl⟩
    clear hw2
    have own2 : w2.ownsRow w.heap.size 9 1 (.slice oa on oc) on (out.map encStr) := own_keep HN.out.2.1 fun k _ => by rw [s2.heap]
    have hsz2 : w.heap.size ≤ w2.heap.size := by rw [s2.heap]; exact HN.out.2.2.size
    have HB2 : Hid (Below w.heap.size w w2) := HN.out.2.2.trans (s2.below _)
    have HOL : Hid (on = out.length) := HN.out.1
    by_cases ho0 : on = 0
    ·have ho1 : ((on : Int) == 0) = true := by simp; omega
     have HNE : Hid (out.getLast? ≠ some s) := by
      have e : out = [] := List.length_eq_zero_iff.1 (by have := HOL.out; omega)
      show _ ≠ _
      rw [e]
      simp
     clear ho0
     go_wp2_with (at_builtin; refine wpList_append_lies _ rfl _ _ 102 rfl w.heap.size 9 i0 _ 1 16 Tryz.underlying102 hi hz0 hz1 hz2 rfl (by decide) _ _ _ rfl (own2.alloc _) ⟨w2.heap.size, 0, none⟩ 1 1 [.string ⟨s.toArray⟩] rfl rfl (World.news_of_block (heap_alloc_new w2 _)) (by intro u hu; simp at hu; subst hu; rfl) (by omega) (by unfold maxLen; omega) (by omega) (by simp; omega) (w2.heap.size + 1) (by simp) ?_; intro g' cap' W3 hown3 hgr3 hat3 hlt3)
     have HX := HA.out HNE.out g' cap' W3 hown3 (Below.of_grown2 hsz2 HB2.out own2 hgr3)
     go_roundw
     case rel => exact ⟨_, _, some ⟨g', 0, none⟩, an, bn - 1, on + 1, ac, bc - 1, cap', a', r, out ++ [s], rfl, rfl, rfl, HX⟩
     case measure => simp [lenOf]; omega
    ·have ho1 : ((on : Int) == 0) = false := by simp; omega
     obtain ⟨m, hm⟩ : ∃ m, on = m + 1 := ⟨on - 1, by omega⟩
     subst hm
     obtain ⟨og, l, rfl, hoc, hlast, hcell⟩ := own_last own2 (by have := HOL.out; omega)
     have c9 := hcell w2 (Sm.refl _)
     have m9 : m < 200000000 := by omega
     by_cases hls : l = s
     ·have hls1 : (l == s) = true := by simpa using hls
      have HLS : Hid (out.getLast? = some s) := by show _ = _; rw [hlast, hls]
      clear hlast hcell hls
      go_wp2
      go_roundw
      case rel => exact ⟨_, _, some ⟨og, 0, none⟩, an, bn - 1, m + 1, ac, bc - 1, oc, a', r, out, rfl, rfl, rfl, HS.out HLS.out w2 s2⟩
      case measure => simp [lenOf]; omega
     ·have hls1 : (l == s) = false := by simpa using hls
      have HNE : Hid (out.getLast? ≠ some s) := by
       show _ ≠ _
       rw [hlast]
       simpa using hls
      clear hlast hcell hls
      go_wp2_with (at_builtin; refine wpList_append_lies _ rfl _ _ 102 rfl w.heap.size 9 i0 _ 1 16 Tryz.underlying102 hi hz0 hz1 hz2 rfl (by decide) _ _ _ rfl (own2.alloc _) ⟨w2.heap.size, 0, none⟩ 1 1 [.string ⟨s.toArray⟩] rfl rfl (World.news_of_block (heap_alloc_new w2 _)) (by intro u hu; simp at hu; subst hu; rfl) (by omega) (by unfold maxLen; omega) (by omega) (by simp; omega) (w2.heap.size + 1) (by simp) ?_; intro g' cap' W3 hown3 hgr3 hat3 hlt3)
      have HX := HA.out HNE.out g' cap' W3 hown3 (Below.of_grown2 hsz2 HB2.out own2 hgr3)
      go_roundw
      case rel => exact ⟨_, _, some ⟨g', 0, none⟩, an, bn - 1, m + 1 + 1, ac, bc - 1, cap', a', r, out ++ [s], rfl, rfl, rfl, HX⟩
      case measure => simp [lenOf]; omega
   ·have han0 : (0 : Int) < (an : Int) := by omega
    by_cases hb0 : bn = 0
    ·obtain ⟨g, o, s, r, rfl, hac, ea, s0⟩ := HT.out.2.2.headA HT.out.1 (by omega) HL.out.2
     have hst := HT.out.2.2
     rw [ea] at hst
     obtain ⟨st1, st2⟩ := hst.stepA (fun t r' e => by have := HT.out.2.1; rw [e] at this; simp at this; omega)
     have HS : Hid (out.getLast? = some s → ∀ w2, Sm wr w2 → an - 1 = r.length ∧ bn = b'.length ∧ on = out.length ∧ MgW w w2 B a b (.slice (if ac = 1 then some ⟨g, o, none⟩ else some ⟨g, o + 1, none⟩) (an - 1) (ac - 1)) (.slice ba bn bc) (.slice oa on oc) r b' out) := fun h w2 s2 => ⟨by have := HT.out.1; rw [ea] at this; simp at this; omega, HT.out.2.1, HN.out.1, st1 h w2 s2⟩
     have HA : Hid (out.getLast? ≠ some s → ∀ g' cap' w', w'.ownsRow w.heap.size 9 1 (.slice (some ⟨g', 0, none⟩) (on + 1) cap') (on + 1) (out.map encStr ++ [.string ⟨s.toArray⟩]) → Below w.heap.size w w' → an - 1 = r.length ∧ bn = b'.length ∧ on + 1 = (out ++ [s]).length ∧ MgW w w' B a b (.slice (if ac = 1 then some ⟨g, o, none⟩ else some ⟨g, o + 1, none⟩) (an - 1) (ac - 1)) (.slice ba bn bc) (.slice (some ⟨g', 0, none⟩) (on + 1) cap') r b' (out ++ [s])) := fun h g' cap' w' ho hb => ⟨by have := HT.out.1; rw [ea] at this; simp at this; omega, HT.out.2.1, by rw [List.length_append, ← HN.out.1]; rfl, st2 h _ w' (by rw [← HN.out.1]; exact ho) hb⟩
     clear hst st1 st2 ea
     have HB0 : Hid (bn = 0) := hb0
     clear hb0 hl3 HNL
     go_upto_region 4 with fail
     have hb1 : ((bn : Int) == 0) = true := by have := HB0.out; simp; omega
     go_quiet (fail)
     go_upto_region 9 with fail
     generalize (if ac = 1 then (some ⟨g, o, none⟩ : Option Addr) else some ⟨g, o + 1, none⟩) = ad2 at *
     generalize hw2 : wr.drewN nq = w2
     have s2 : Sm wr w2 := by rw [← hw2]; exact ⟨rfl, rfl, rfl, rfl⟩
     clear hw2
     have own2 : w2.ownsRow w.heap.size 9 1 (.slice oa on oc) on (out.map encStr) := own_keep HN.out.2.1 fun k _ => by rw [s2.heap]
     have hsz2 : w.heap.size ≤ w2.heap.size := by rw [s2.heap]; exact HN.out.2.2.size
     have HB2 : Hid (Below w.heap.size w w2) := HN.out.2.2.trans (s2.below _)
     have HOL : Hid (on = out.length) := HN.out.1
     by_cases ho0 : on = 0
     ·have ho1 : ((on : Int) == 0) = true := by simp; omega
      have HNE : Hid (out.getLast? ≠ some s) := by
       have e : out = [] := List.length_eq_zero_iff.1 (by have := HOL.out; omega)
       show _ ≠ _
       rw [e]
       simp
      clear ho0
      go_wp2_with (at_builtin; refine wpList_append_lies _ rfl _ _ 102 rfl w.heap.size 9 i0 _ 1 16 Tryz.underlying102 hi hz0 hz1 hz2 rfl (by decide) _ _ _ rfl (own2.alloc _) ⟨w2.heap.size, 0, none⟩ 1 1 [.string ⟨s.toArray⟩] rfl rfl (World.news_of_block (heap_alloc_new w2 _)) (by intro u hu; simp at hu; subst hu; rfl) (by omega) (by unfold maxLen; omega) (by omega) (by simp; omega) (w2.heap.size + 1) (by simp) ?_; intro g' cap' W3 hown3 hgr3 hat3 hlt3)
      have HX := HA.out HNE.out g' cap' W3 hown3 (Below.of_grown2 hsz2 HB2.out own2 hgr3)
      go_roundw
      case rel => exact ⟨_, _, some ⟨g', 0, none⟩, an - 1, bn, on + 1, ac - 1, bc, cap', r, b', out ++ [s], rfl, rfl, rfl, HX⟩
      case measure => simp [lenOf]; omega
     ·have ho1 : ((on : Int) == 0) = false := by simp; omega
      obtain ⟨m, hm⟩ : ∃ m, on = m + 1 := ⟨on - 1, by omega⟩
      subst hm
      obtain ⟨og, l, rfl, hoc, hlast, hcell⟩ := own_last own2 (by have := HOL.out; omega)
      have c9 := hcell w2 (Sm.refl _)
      have m9 : m < 200000000 := by omega
      by_cases hls : l = s
      ·have hls1 : (l == s) = true := by simpa using hls
       have HLS : Hid (out.getLast? = some s) := by show _ = _; rw [hlast, hls]
       clear hlast hcell hls
       go_wp2
       go_roundw
       case rel => exact ⟨_, _, some ⟨og, 0, none⟩, an - 1, bn, m + 1, ac - 1, bc, oc, r, b', out, rfl, rfl, rfl, HS.out HLS.out w2 s2⟩
       case measure => simp [lenOf]; omega
      ·have hls1 : (l == s) = false := by simpa using hls
       have HNE : Hid (out.getLast? ≠ some s) := by
        show _ ≠ _
        rw [hlast]
        simpa using hls
       clear hlast hcell hls
       go_wp2_with (at_builtin; refine wpList_append_lies _ rfl _ _ 102 rfl w.heap.size 9 i0 _ 1 16 Tryz.underlying102 hi hz0 hz1 hz2 rfl (by decide) _ _ _ rfl (own2.alloc _) ⟨w2.heap.size, 0, none⟩ 1 1 [.string ⟨s.toArray⟩] rfl rfl (World.news_of_block (heap_alloc_new w2 _)) (by intro u hu; simp at hu; subst hu; rfl) (by omega) (by unfold maxLen; omega) (by omega) (by simp; omega) (w2.heap.size + 1) (by simp) ?_; intro g' cap' W3 hown3 hgr3 hat3 hlt3)
       have HX := HA.out HNE.out g' cap' W3 hown3 (Below.of_grown2 hsz2 HB2.out own2 hgr3)
       go_roundw
       case rel => exact ⟨_, _, some ⟨g', 0, none⟩, an - 1, bn, m + 1 + 1, ac - 1, bc, cap', r, b', out ++ [s], rfl, rfl, rfl, HX⟩
       case measure => simp [lenOf]; omega
    ·have hbn0 : (0 : Int) < (bn : Int) := by omega
     obtain ⟨ga, oa2, sa, ra, rfl, hac, ea1, s0⟩ := HT.out.2.2.headA HT.out.1 (by omega) HL.out.2
     obtain ⟨gb, ob2, sb, rb, rfl, hbc, eb1, s1⟩ := HT.out.2.2.headB HT.out.2.1 (by omega) HL.out.2
     by_cases hle : sa ≤ sb
     ·have ea := ea1
      have hbl : (Op.bytesLess sa sb || sa == sb) = true := by
       rw [Go.Proofs.bytesLess_eq]
       rcases lt_or_eq_le hle with q | q
       ·simp [q]
       ·simp [q]
      obtain ⟨g, hg⟩ : ∃ g, g = ga := ⟨_, rfl⟩
      obtain ⟨o, ho⟩ : ∃ o, o = oa2 := ⟨_, rfl⟩
      obtain ⟨s, hs⟩ : ∃ s, s = sa := ⟨_, rfl⟩
      obtain ⟨r, hr⟩ : ∃ r, r = ra := ⟨_, rfl⟩
      subst hg ho hs hr
      have hst := HT.out.2.2
      rw [ea] at hst
      obtain ⟨st1, st2⟩ := hst.stepA (fun t r' e => by rw [eb1] at e; injection e with e _; rw [← e]; exact hle)
      have HS : Hid (out.getLast? = some s → ∀ w2, Sm wr w2 → an - 1 = r.length ∧ bn = b'.length ∧ on = out.length ∧ MgW w w2 B a b (.slice (if ac = 1 then some ⟨g, o, none⟩ else some ⟨g, o + 1, none⟩) (an - 1) (ac - 1)) (.slice (some ⟨gb, ob2, none⟩) bn bc) (.slice oa on oc) r b' out) := fun h w2 s2 => ⟨by have := HT.out.1; rw [ea] at this; simp at this; omega, HT.out.2.1, HN.out.1, st1 h w2 s2⟩
      have HA : Hid (out.getLast? ≠ some s → ∀ g' cap' w', w'.ownsRow w.heap.size 9 1 (.slice (some ⟨g', 0, none⟩) (on + 1) cap') (on + 1) (out.map encStr ++ [.string ⟨s.toArray⟩]) → Below w.heap.size w w' → an - 1 = r.length ∧ bn = b'.length ∧ on + 1 = (out ++ [s]).length ∧ MgW w w' B a b (.slice (if ac = 1 then some ⟨g, o, none⟩ else some ⟨g, o + 1, none⟩) (an - 1) (ac - 1)) (.slice (some ⟨gb, ob2, none⟩) bn bc) (.slice (some ⟨g', 0, none⟩) (on + 1) cap') r b' (out ++ [s])) := fun h g' cap' w' ho hb => ⟨by have := HT.out.1; rw [ea] at this; simp at this; omega, HT.out.2.1, by rw [List.length_append, ← HN.out.1]; rfl, st2 h _ w' (by rw [← HN.out.1]; exact ho) hb⟩
      clear hst st1 st2 ea
      clear ea1 eb1 hle hl3 HNL ha0 hb0
      go_upto_region 4 with fail
      have hb1 : ((bn : Int) == 0) = false := by simp; omega
      have ha1 : decide (0 < an) = true := by simp; omega
      go_quiet (fail)
      go_upto_region 9 with fail
      generalize (if ac = 1 then (some ⟨g, o, none⟩ : Option Addr) else some ⟨g, o + 1, none⟩) = ad2 at *
      generalize hw2 : wr.drewN nq = w2
      have s2 : Sm wr w2 := by rw [← hw2]; exact ⟨rfl, rfl, rfl, rfl⟩
      clear hw2
      have own2 : w2.ownsRow w.heap.size 9 1 (.slice oa on oc) on (out.map encStr) := own_keep HN.out.2.1 fun k _ => by rw [s2.heap]
      have hsz2 : w.heap.size ≤ w2.heap.size := by rw [s2.heap]; exact HN.out.2.2.size
      have HB2 : Hid (Below w.heap.size w w2) := HN.out.2.2.trans (s2.below _)
      have HOL : Hid (on = out.length) := HN.out.1
      by_cases ho0 : on = 0
      ·have ho1 : ((on : Int) == 0) = true := by simp; omega
       have HNE : Hid (out.getLast? ≠ some s) := by
        have e : out = [] := List.length_eq_zero_iff.1 (by have := HOL.out; omega)
        show _ ≠ _
        rw [e]
        simp
       clear ho0
       go_wp2_with (at_builtin; refine wpList_append_lies _ rfl _ _ 102 rfl w.heap.size 9 i0 _ 1 16 Tryz.underlying102 hi hz0 hz1 hz2 rfl (by decide) _ _ _ rfl (own2.alloc _) ⟨w2.heap.size, 0, none⟩ 1 1 [.string ⟨s.toArray⟩] rfl rfl (World.news_of_block (heap_alloc_new w2 _)) (by intro u hu; simp at hu; subst hu; rfl) (by omega) (by unfold maxLen; omega) (by omega) (by simp; omega) (w2.heap.size + 1) (by simp) ?_; intro g' cap' W3 hown3 hgr3 hat3 hlt3)
       have HX := HA.out HNE.out g' cap' W3 hown3 (Below.of_grown2 hsz2 HB2.out own2 hgr3)
       go_roundw
       case rel => exact ⟨_, _, some ⟨g', 0, none⟩, an - 1, bn, on + 1, ac - 1, bc, cap', r, b', out ++ [s], rfl, rfl, rfl, HX⟩
       case measure => simp [lenOf]; omega
      ·have ho1 : ((on : Int) == 0) = false := by simp; omega
       obtain ⟨m, hm⟩ : ∃ m, on = m + 1 := ⟨on - 1, by omega⟩
       subst hm
       obtain ⟨og, l, rfl, hoc, hlast, hcell⟩ := own_last own2 (by have := HOL.out; omega)
       have c9 := hcell w2 (Sm.refl _)
       have m9 : m < 200000000 := by omega
       by_cases hls : l = s
       ·have hls1 : (l == s) = true := by simpa using hls
        have HLS : Hid (out.getLast? = some s) := by show _ = _; rw [hlast, hls]
        clear hlast hcell hls
        go_wp2
        go_roundw
        case rel => exact ⟨_, _, some ⟨og, 0, none⟩, an - 1, bn, m + 1, ac - 1, bc, oc, r, b', out, rfl, rfl, rfl, HS.out HLS.out w2 s2⟩
        case measure => simp [lenOf]; omega
       ·have hls1 : (l == s) = false := by simpa using hls
        have HNE : Hid (out.getLast? ≠ some s) := by
         show _ ≠ _
         rw [hlast]
         simpa using hls
        clear hlast hcell hls
        go_wp2_with (at_builtin; refine wpList_append_lies _ rfl _ _ 102 rfl w.heap.size 9 i0 _ 1 16 Tryz.underlying102 hi hz0 hz1 hz2 rfl (by decide) _ _ _ rfl (own2.alloc _) ⟨w2.heap.size, 0, none⟩ 1 1 [.string ⟨s.toArray⟩] rfl rfl (World.news_of_block (heap_alloc_new w2 _)) (by intro u hu; simp at hu; subst hu; rfl) (by omega) (by unfold maxLen; omega) (by omega) (by simp; omega) (w2.heap.size + 1) (by simp) ?_; intro g' cap' W3 hown3 hgr3 hat3 hlt3)
        have HX := HA.out HNE.out g' cap' W3 hown3 (Below.of_grown2 hsz2 HB2.out own2 hgr3)
        go_roundw
        case rel => exact ⟨_, _, some ⟨g', 0, none⟩, an - 1, bn, m + 1 + 1, ac - 1, bc, cap', r, b', out ++ [s], rfl, rfl, rfl, HX⟩
        case measure => simp [lenOf]; omega
     ·have ea := eb1
      have hbl : (Op.bytesLess sa sb || sa == sb) = false := by
       rw [Go.Proofs.bytesLess_eq]
       have h1 : ¬ sa < sb := fun q => hle (List.le_of_lt q)
       have h2 : ¬ sa = sb := fun q => hle (by rw [q]; exact List.le_refl _)
       simp [h1, h2]
      obtain ⟨g, hg⟩ : ∃ g, g = gb := ⟨_, rfl⟩
      obtain ⟨o, ho⟩ : ∃ o, o = ob2 := ⟨_, rfl⟩
      obtain ⟨s, hs⟩ : ∃ s, s = sb := ⟨_, rfl⟩
      obtain ⟨r, hr⟩ : ∃ r, r = rb := ⟨_, rfl⟩
      subst hg ho hs hr
      have hst := HT.out.2.2
      rw [ea] at hst
      obtain ⟨st1, st2⟩ := hst.stepB (fun t r' e => by rw [ea1] at e; injection e with e _; rw [← e]; exact hle)
      have HS : Hid (out.getLast? = some s → ∀ w2, Sm wr w2 → an = a'.length ∧ bn - 1 = r.length ∧ on = out.length ∧ MgW w w2 B a b (.slice (some ⟨ga, oa2, none⟩) an ac) (.slice (if bc = 1 then some ⟨g, o, none⟩ else some ⟨g, o + 1, none⟩) (bn - 1) (bc - 1)) (.slice oa on oc) a' r out) := fun h w2 s2 => ⟨HT.out.1, by have := HT.out.2.1; rw [ea] at this; simp at this; omega, HN.out.1, st1 h w2 s2⟩
      have HA : Hid (out.getLast? ≠ some s → ∀ g' cap' w', w'.ownsRow w.heap.size 9 1 (.slice (some ⟨g', 0, none⟩) (on + 1) cap') (on + 1) (out.map encStr ++ [.string ⟨s.toArray⟩]) → Below w.heap.size w w' → an = a'.length ∧ bn - 1 = r.length ∧ on + 1 = (out ++ [s]).length ∧ MgW w w' B a b (.slice (some ⟨ga, oa2, none⟩) an ac) (.slice (if bc = 1 then some ⟨g, o, none⟩ else some ⟨g, o + 1, none⟩) (bn - 1) (bc - 1)) (.slice (some ⟨g', 0, none⟩) (on + 1) cap') a' r (out ++ [s])) := fun h g' cap' w' ho hb => ⟨HT.out.1, by have := HT.out.2.1; rw [ea] at this; simp at this; omega, by rw [List.length_append, ← HN.out.1]; rfl, st2 h _ w' (by rw [← HN.out.1]; exact ho) hb⟩
      clear hst st1 st2 ea
      clear ea1 eb1 hle hl3 HNL ha0 hb0
      go_upto_region 4 with fail
      have hb1 : ((bn : Int) == 0) = false := by simp; omega
      have ha1 : decide (0 < an) = true := by simp; omega
      go_quiet (fail)
      go_upto_region 9 with fail
      generalize (if bc = 1 then (some ⟨g, o, none⟩ : Option Addr) else some ⟨g, o + 1, none⟩) = ad2 at *
      generalize hw2 : wr.drewN nq = w2
      have s2 : Sm wr w2 := by rw [← hw2]; exact ⟨rfl, rfl, rfl, rfl⟩
      clear hw2
      have own2 : w2.ownsRow w.heap.size 9 1 (.slice oa on oc) on (out.map encStr) := own_keep HN.out.2.1 fun k _ => by rw [s2.heap]
      have hsz2 : w.heap.size ≤ w2.heap.size := by rw [s2.heap]; exact HN.out.2.2.size
      have HB2 : Hid (Below w.heap.size w w2) := HN.out.2.2.trans (s2.below _)
      have HOL : Hid (on = out.length) := HN.out.1
      by_cases ho0 : on = 0
      ·have ho1 : ((on : Int) == 0) = true := by simp; omega
       have HNE : Hid (out.getLast? ≠ some s) := by
        have e : out = [] := List.length_eq_zero_iff.1 (by have := HOL.out; omega)
        show _ ≠ _
        rw [e]
        simp
       clear ho0
       go_wp2_with (at_builtin; refine wpList_append_lies _ rfl _ _ 102 rfl w.heap.size 9 i0 _ 1 16 Tryz.underlying102 hi hz0 hz1 hz2 rfl (by decide) _ _ _ rfl (own2.alloc _) ⟨w2.heap.size, 0, none⟩ 1 1 [.string ⟨s.toArray⟩] rfl rfl (World.news_of_block (heap_alloc_new w2 _)) (by intro u hu; simp at hu; subst hu; rfl) (by omega) (by unfold maxLen; omega) (by omega) (by simp; omega) (w2.heap.size + 1) (by simp) ?_; intro g' cap' W3 hown3 hgr3 hat3 hlt3)
       have HX := HA.out HNE.out g' cap' W3 hown3 (Below.of_grown2 hsz2 HB2.out own2 hgr3)
       go_roundw
       case rel => exact ⟨_, _, some ⟨g', 0, none⟩, an, bn - 1, on + 1, ac, bc - 1, cap', a', r, out ++ [s], rfl, rfl, rfl, HX⟩
       case measure => simp [lenOf]; omega
      ·have ho1 : ((on : Int) == 0) = false := by simp; omega
       obtain ⟨m, hm⟩ : ∃ m, on = m + 1 := ⟨on - 1, by omega⟩
       subst hm
       obtain ⟨og, l, rfl, hoc, hlast, hcell⟩ := own_last own2 (by have := HOL.out; omega)
       have c9 := hcell w2 (Sm.refl _)
       have m9 : m < 200000000 := by omega
       by_cases hls : l = s
       ·have hls1 : (l == s) = true := by simpa using hls
        have HLS : Hid (out.getLast? = some s) := by show _ = _; rw [hlast, hls]
        clear hlast hcell hls
        go_wp2
        go_roundw
        case rel => exact ⟨_, _, some ⟨og, 0, none⟩, an, bn - 1, m + 1, ac, bc - 1, oc, a', r, out, rfl, rfl, rfl, HS.out HLS.out w2 s2⟩
        case measure => simp [lenOf]; omega
       ·have hls1 : (l == s) = false := by simpa using hls
        have HNE : Hid (out.getLast? ≠ some s) := by
         show _ ≠ _
         rw [hlast]
         simpa using hls
        clear hlast hcell hls
        go_wp2_with (at_builtin; refine wpList_append_lies _ rfl _ _ 102 rfl w.heap.size 9 i0 _ 1 16 Tryz.underlying102 hi hz0 hz1 hz2 rfl (by decide) _ _ _ rfl (own2.alloc _) ⟨w2.heap.size, 0, none⟩ 1 1 [.string ⟨s.toArray⟩] rfl rfl (World.news_of_block (heap_alloc_new w2 _)) (by intro u hu; simp at hu; subst hu; rfl) (by omega) (by unfold maxLen; omega) (by omega) (by simp; omega) (w2.heap.size + 1) (by simp) ?_; intro g' cap' W3 hown3 hgr3 hat3 hlt3)
        have HX := HA.out HNE.out g' cap' W3 hown3 (Below.of_grown2 hsz2 HB2.out own2 hgr3)
        go_roundw
        case rel => exact ⟨_, _, some ⟨g', 0, none⟩, an, bn - 1, m + 1 + 1, ac, bc - 1, cap', a', r, out ++ [s], rfl, rfl, rfl, HX⟩
        case measure => simp [lenOf]; omega
end Go.Proofs.YtikpipenhamdbaaGreat

namespace Go.Proofs.YtikpipenhamdbaaGreat
open Go.RowKit Go.Maps

theorem StrAt.below {w w' : World} {B B' : Nat} {v : Value} {ss : List (List UInt8)} (h : StrAt w B v ss) (hb : Below B w w') (hB : B ≤ B') : StrAt w' B' v ss := by
 obtain ⟨ad, cap, hv, h⟩ := h
 refine ⟨ad, cap, hv, fun h0 => ?_⟩
 obtain ⟨g, o, e1, e2, e3, e4⟩ := h h0
 exact ⟨g, o, e1, e2, by omega, fun w2 hb2 => e4 w2 (hb.trans (hb2.mono hB))⟩
theorem own_strAt {w : World} {lo : Nat} {v : Value} {ns : List (List UInt8)} (h : w.ownsRow lo 9 1 v ns.length (ns.map encStr)) : StrAt w w.heap.size v ns := by
 rcases id h.2 with ⟨h0, h1⟩ | ⟨g, cap, cur, hv, hg, hh, hrest⟩
 ·exact ⟨none, 0, by rw [h0, h1], fun q => absurd (List.length_eq_zero_iff.1 h1) q⟩
 ·refine ⟨_, cap, hv, fun _ => ⟨g, 0, rfl, hrest.1, lt_of_heap hh, fun w' hb j hj => ?_⟩⟩
  rw [hv] at h
  have := h.cellAt j (by omega)
  rw [List.getElem?_map, List.getElem?_eq_getElem hj] at this
  rw [Nat.zero_add]
  exact (hb.cell (p := ⟨g, j, none⟩) (lt_of_heap hh)).trans this
/-- What sortedNames answers. -/
def SnP (ss : List (List UInt8)) (v : Value) (w : World) (e : Ending) (w' : World) : Prop :=
 ∃ (v' : Value) (ns : List (List UInt8)), e = .returned v' ∧ Below w.heap.size w w' ∧ Srt ss ns ∧ ns.length ≤ ss.length ∧ ((ss.length < 2 ∧ v' = v ∧ ns = ss) ∨ (2 ≤ ss.length ∧ w'.ownsRow w.heap.size 9 1 v' ns.length (ns.map encStr)))
theorem srt_small {ss : List (List UInt8)} (h : ss.length < 2) : Srt ss ss := by
 refine ⟨?_, fun _ => Iff.rfl⟩
 match ss, h with
 | [], _ => exact List.Pairwise.nil
 | [x], _ => simp
 | _ :: _ :: _, h => simp at h; omega
theorem SnP.strAt {ss : List (List UInt8)} {v : Value} {w w' : World} {e : Ending} {B : Nat} (h : SnP ss v w e w') (hv : StrAt w B v ss) (hB : B ≤ w.heap.size) : ∃ (ad : Option Addr) (cap : Nat) (ns : List (List UInt8)), e = .returned (.slice ad ns.length cap) ∧ Below w.heap.size w w' ∧ Srt ss ns ∧ ns.length ≤ ss.length ∧ StrAt w' w'.heap.size (.slice ad ns.length cap) ns := by
 obtain ⟨v', ns, rfl, hb, hs, hl, h⟩ := h
 have key : StrAt w' w'.heap.size v' ns := by
  rcases h with ⟨_, rfl, rfl⟩ | ⟨_, ho⟩
  ·exact hv.below (hb.mono hB) (Nat.le_trans hB hb.size)
  ·exact own_strAt ho
 obtain ⟨ad, cap, rfl, _⟩ := id key
 exact ⟨ad, cap, ns, rfl, hb, hs, hl, key⟩
set_option maxHeartbeats 8000000 in
set_option maxRecDepth 10000 in
theorem sorted_zero (ss : List (List UInt8)) (v : Value) (w : World) (B : Nat) (hL : ss.length ≤ 0) (hv : StrAt w B v ss) : Calls Tryz.prog 77 #[v] w (SnP ss v w) := by
 obtain ⟨ad, cap, rfl, -⟩ := hv
 have HF : Hid (SnP ss (.slice ad ss.length cap) w (.returned (.slice ad ss.length cap)) w) := ⟨_, ss, rfl, Below.refl _ _, srt_small (by omega), Nat.le_refl _, .inl ⟨by omega, rfl, rfl⟩⟩
 have h2' : (ss.length : Int) < 2 := by omega
 clear hL
 go_enter Tryz.func77, Tryz.ntmps77
 go_wp2
 go_ret
 exact HF.out
set_option maxHeartbeats 8000000 in
set_option maxRecDepth 10000 in
theorem sorted_step (L : Nat) (IH : ∀ (ss : List (List UInt8)) (v : Value) (w : World) (B : Nat), ss.length ≤ L → B ≤ w.heap.size → StrAt w B v ss → ss.length ≤ 200000000 → Calls Tryz.prog 77 #[v] w (SnP ss v w)) (ss : List (List UInt8)) (v : Value) (w : World) (B : Nat) (hL : ss.length ≤ L + 1) (hB : B ≤ w.heap.size) (hv : StrAt w B v ss) (hn : ss.length ≤ 200000000) : Calls Tryz.prog 77 #[v] w (SnP ss v w) := by
 obtain ⟨ad, cap, rfl, hcl⟩ := id hv
 by_cases h2 : ss.length < 2
 ·have HF : Hid (SnP ss (.slice ad ss.length cap) w (.returned (.slice ad ss.length cap)) w) := ⟨_, ss, rfl, Below.refl _ _, srt_small h2, Nat.le_refl _, .inl ⟨h2, rfl, rfl⟩⟩
  have h2' : (ss.length : Int) < 2 := by omega
  clear IH hv hcl h2
  go_enter Tryz.func77, Tryz.ntmps77
  go_wp2
  go_ret
  exact HF.out
 ·have h2' : ¬ (ss.length : Int) < 2 := by omega
  obtain ⟨g, o, rfl, hcap, hgB, hcell⟩ := hcl (by intro e; rw [e] at h2; simp at h2)
  have hh : ss.length / 2 < cap ∧ ss.length / 2 ≤ ss.length ∧ 1 ≤ ss.length / 2 := by omega
  have hcne : ¬ cap = ss.length / 2 := by omega
  have l1 : (ss.take (ss.length / 2)).length = ss.length / 2 := by rw [List.length_take]; omega
  have l2 : (ss.drop (ss.length / 2)).length = ss.length - ss.length / 2 := List.length_drop
  have v1 : StrAt w B (.slice (some ⟨g, o, none⟩) (ss.length / 2) cap) (ss.take (ss.length / 2)) := by
   refine ⟨_, cap, by rw [l1], fun _ => ⟨g, o, rfl, by omega, hgB, fun w' hb j hj => ?_⟩⟩
   rw [List.getElem_take]
   exact hcell w' hb j (by omega)
  have v2 : StrAt w B (.slice (some ⟨g, o + ss.length / 2, none⟩) (ss.length - ss.length / 2) (cap - ss.length / 2)) (ss.drop (ss.length / 2)) := by
   refine ⟨_, cap - ss.length / 2, by rw [l2], fun _ => ⟨g, o + ss.length / 2, rfl, by omega, hgB, fun w' hb j hj => ?_⟩⟩
   rw [List.getElem_drop, Nat.add_assoc]
   exact hcell w' hb (ss.length / 2 + j) (by omega)
  have C1 : Calls Tryz.prog 77 #[.slice (some ⟨g, o, none⟩) (ss.length / 2) cap] w fun e w' => ∃ (ad : Option Addr) (an cp : Nat), e = .returned (.slice ad an cp) ∧ Hid (∃ ns : List (List UInt8), an = ns.length ∧ Below w.heap.size w w' ∧ Srt (ss.take (ss.length / 2)) ns ∧ ns.length ≤ ss.length / 2 ∧ StrAt w' w'.heap.size (.slice ad ns.length cp) ns) := by
   refine Calls.mono (IH _ _ w B (by omega) hB v1 (by omega)) ?_
   intro e w' h
   obtain ⟨ad, cp, ns, rfl, h1, h2, h3, h4⟩ := h.strAt v1 hB
   exact ⟨ad, _, cp, rfl, ns, rfl, h1, h2, by omega, h4⟩
  have C2 : ∀ W, Below w.heap.size w W → Calls Tryz.prog 77 #[.slice (some ⟨g, o + ss.length / 2, none⟩) (ss.length - ss.length / 2) (cap - ss.length / 2)] W fun e w' => ∃ (ad : Option Addr) (an cp : Nat), e = .returned (.slice ad an cp) ∧ Hid (∃ ns : List (List UInt8), an = ns.length ∧ Below W.heap.size W w' ∧ Srt (ss.drop (ss.length / 2)) ns ∧ ns.length ≤ ss.length - ss.length / 2 ∧ StrAt w' w'.heap.size (.slice ad ns.length cp) ns) := fun W hb => by
   have v2' := v2.below (hb.mono hB) (Nat.le_refl B)
   have hB' : B ≤ W.heap.size := Nat.le_trans hB hb.size
   refine Calls.mono (IH _ _ W B (by omega) hB' v2' (by omega)) ?_
   intro e w' h
   obtain ⟨ad, cp, ns, rfl, h1, h2, h3, h4⟩ := h.strAt v2' hB'
   exact ⟨ad, _, cp, rfl, ns, rfl, h1, h2, by omega, h4⟩
  have hHB : Hid (B ≤ w.heap.size ∧ 2 ≤ ss.length) := ⟨hB, by omega⟩
  clear IH hv h2 hcell v1 v2 l1 l2
  go_enter Tryz.func77, Tryz.ntmps77
  go_upto_region 4 with (first | (go_at_call 77; (with_reducible refine Calls.mono C1 ?_); rintro e' w1 ⟨ad1, an1, cp1, rfl, H1⟩))
  have hb1 : Below w.heap.size w w1 := by obtain ⟨ns, _, h, _⟩ := H1.out; exact h
  have C2' := C2 w1 hb1
  clear hb1 C1 C2
  go_upto_region 5 with (first | (go_at_call 77; (with_reducible refine Calls.mono C2' ?_); rintro e' w2 ⟨ad2, an2, cp2, rfl, H2⟩))
  have C3 : Calls Tryz.prog 94 #[.slice ad1 an1 cp1, .slice ad2 an2 cp2] w2 fun e w' => ∃ (ad : Option Addr) (an cp : Nat), e = .returned (.slice ad an cp) ∧ Hid (SnP ss (.slice (some ⟨g, o, none⟩) ss.length cap) w (.returned (.slice ad an cp)) w') := by
   obtain ⟨ns1, rfl, b1, s1, k1, t1⟩ := H1.out
   obtain ⟨ns2, rfl, b2, s2, k2, t2⟩ := H2.out
   refine Calls.mono (merged_any w2 w2.heap.size (Nat.le_refl _) _ _ ns1 ns2 (t1.below b2 b2.size) t2 s1.1 s2.1 (by omega)) ?_
   rintro e w' ⟨v, out, rfl, b3, ho, hp, hm, hl⟩
   have hbb : Below w.heap.size w w' := (b1.trans (b2.mono b1.size)).trans (b3.mono (Nat.le_trans b1.size b2.size))
   obtain ⟨ad, cp, rfl, _⟩ := own_strAt ho
   refine ⟨ad, _, cp, rfl, _, out, rfl, hbb, ⟨hp, fun x => ?_⟩, by omega, .inr ⟨hHB.out.2, ho.mono (Nat.le_trans b1.size b2.size)⟩⟩
   rw [hm, s1.2, s2.2, ← List.mem_append, List.take_append_drop]
  clear H1 H2 C2'
  go_wp2_with (go_at_call 94; (with_reducible refine Calls.mono C3 ?_); rintro e' w3 ⟨ad3, an3, cp3, rfl, H3⟩)
  go_ret
  exact H3.out
theorem sorted_any : ∀ (L : Nat) (ss : List (List UInt8)) (v : Value) (w : World) (B : Nat), ss.length ≤ L → B ≤ w.heap.size → StrAt w B v ss → ss.length ≤ 200000000 → Calls Tryz.prog 77 #[v] w (SnP ss v w)
 | 0, ss, v, w, B, h1, h2, h3, h4 => sorted_step 0 (fun ss v w B h1 h2 h3 h4 => sorted_zero ss v w B h1 h3) ss v w B (by omega) h2 h3 h4
 | L + 1, ss, v, w, B, h1, h2, h3, h4 => sorted_step L (sorted_any L) ss v w B h1 h2 h3 h4
end Go.Proofs.YtikpipenhamdbaaGreat
