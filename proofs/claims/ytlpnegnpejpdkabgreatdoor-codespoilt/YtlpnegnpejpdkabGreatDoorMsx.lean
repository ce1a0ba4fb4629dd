/- The four calls in one form each: an answer and a number, whatever it is. CodeSpoilt: what is needed of memory. CodeSpoilt's walk. -/
import Derived.Test.YtlpnegnpejpdkabGreatDoorMox
import Derived.Test.YtlpnegnpejpdkabGreatDoorPl
import Derived.Test.YtlpnegnpejpdkabGreatDoorMex
import Derived.Test.YtlpnegnpejpdkabGreatDoorMbx
import Derived.Laws.BitsAllLaws
import Derived.Test.YtlpnegnpejpdkabGreatDoorKz
namespace Go.Proofs.YtlpnegnpejpdkabGreatDoor
open Go.RowKit

theorem small_nil : Small ([], []) := fun g hg => by cases hg
theorem load_size {b : Byt} {x : Tab} (h : loadP b = some x) : x.1.length < 140737488355328 ∧ x.2.length < 140737488355328 ∧ (∀ g ∈ x.2, g.2.2.length < 140737488355328) ∧ Small x := by
  rw [load_body] at h
  split at h
  · split at h
    · rename_i m hm t ht
      split at h
      · cases h
        obtain ⟨t1, t2, t3⟩ := tab_lens ht
        exact ⟨by omega, by omega, fun g hg => by have := t3 g hg; omega, tab_small ht⟩
      · cases h
    · cases h
  · cases h
theorem tab_nil (w : World) (S : Nat → Prop) : TabV w S (.slice none 0 0) (.slice none 0 0) ([], []) := ⟨.inl ⟨rfl, none, 0, rfl⟩, .inl ⟨rfl, none, 0, rfl⟩, by decide, by decide⟩
theorem print_u {w : World} {sv gv : Value} {t : Tab} (h : PB w sv gv t) : Calls Tryz.prog 15 #[.agg #[sv, gv]] w fun r w' => ∃ (s : Byt) (e : Int), r = .returned (.tuple #[.string ⟨s.toArray⟩, .int .i64 e]) ∧ s.length ≤ 8388608 ∧ (e = 0 → checkP t = 0 ∧ s = textT t) ∧ Hid (Below w.heap.size w w') :=
  (print_any h).mono fun r w' hp => by
    by_cases hc : checkP t = 0
    · by_cases hl : 8388608 < (textT t).length
      · exact ⟨[], 4, hp.long hc hl, Nat.zero_le _, fun e => (by omega), hp.bel⟩
      · exact ⟨textT t, 0, hp.good hc hl, by omega, fun _ => ⟨hc, rfl⟩, hp.bel⟩
    · exact ⟨[], checkP t, hp.bad hc, Nat.zero_le _, fun e => absurd e hc, hp.bel⟩
theorem read_u {w : World} {s : Byt} (h : RdS w) (hs : s.length < 140737488355328) : Calls Tryz.prog 16 #[.string ⟨s.toArray⟩] w fun r w' => ∃ (sa : Option Addr) (sc : Nat) (ga : Option Addr) (gc : Nat) (f : Int) (x : Tab), r = .returned (.tuple #[.agg #[.slice sa x.1.length sc, .slice ga x.2.length gc], .int .i64 f]) ∧ (f = 0 → tableQ s = some x) ∧ (s.length ≤ 8388608 → ∀ y, tableQ s = some y → bigP y = false → f = 0) ∧ Hid (TabV w' (fun y => y < w'.heap.size) (.slice sa x.1.length sc) (.slice ga x.2.length gc) x ∧ Below w.heap.size w w' ∧ Small x) :=
  (read_any h hs).mono fun r w' hp => by
    by_cases hl : 8388608 < s.length
    · exact ⟨none, 0, none, 0, 2, ([], []), hp.long hl, fun e => (by omega), fun h => (by omega), tab_nil _ _, hp.bel, small_nil⟩
    · cases ht : tableQ s with
      | none => exact ⟨none, 0, none, 0, 170, ([], []), hp.bad hl ht, fun e => (by omega), fun _ y e => (by cases e), tab_nil _ _, hp.bel, small_nil⟩
      | some x =>
        cases hb : bigP x with
        | true => exact ⟨none, 0, none, 0, 4, ([], []), hp.big hl x ht hb, fun e => (by omega), fun _ y e h => (by cases e; rw [hb] at h; cases h), tab_nil _ _, hp.bel, small_nil⟩
        | false =>
          obtain ⟨sv, gv, raws, Bt, h1, _, h2⟩ := hp.good hl x ht hb
          obtain ⟨z1, z2, z3⟩ := table_q_size ht
          have h3 := h2.out.tabV (by omega) (by omega) fun g hg => by have := z3 g hg; omega
          obtain ⟨sa, sc, rfl⟩ := RowK.len h3.shp
          obtain ⟨ga, gc, rfl⟩ := RowK.len h3.glb
          exact ⟨sa, sc, ga, gc, 0, x, h1, fun _ => rfl, fun _ _ _ _ => rfl, h3, hp.bel, table_small ht (by omega)⟩
theorem bytes_u {w : World} {sv gv : Value} {t : Tab} (h : CkIn w sv gv t) : Calls Tryz.prog 6 #[.agg #[sv, gv]] w fun r w' => ∃ (ba : Option Addr) (bc : Nat) (c : Byt) (g : Int), r = .returned (.tuple #[.slice ba c.length bc, .int .i64 g]) ∧ c.length ≤ 8388608 ∧ (g = 0 → checkP t = 0 ∧ c = bytesW t) ∧ (checkP t = 0 → (bytesW t).length ≤ 8388608 → g = 0) ∧ Hid (Bts w' (.slice ba c.length bc) c ∧ Below w.heap.size w w') :=
  (bytes_any h).mono fun r w' hp => by
    obtain ⟨h0, h1, h2, h3⟩ := hp
    have hnil : Bts w' (.slice none 0 0) [] := ⟨none, 0, rfl, fun i h => by simp at h⟩
    by_cases hc : checkP t = 0
    · by_cases hl : 8388608 < (bytesW t).length
      · exact ⟨none, 0, [], 4, h2 hc hl, Nat.zero_le _, fun e => (by omega), fun _ h => (by omega), hnil, h0.out⟩
      · obtain ⟨v, h4, h5⟩ := h3 hc hl
        have h6 := own_bts h5.out
        obtain ⟨ad, cap, rfl, h7⟩ := id h6
        exact ⟨ad, cap, bytesW t, 0, h4, by omega, fun _ => ⟨hc, rfl⟩, fun _ _ => rfl, h6, h0.out⟩
    · exact ⟨none, 0, [], checkP t, h1 hc, Nat.zero_le _, fun e => absurd e hc, fun e => absurd e hc, hnil, h0.out⟩
theorem load_u {w : World} {u : Value} {b : Byt} (h : LdIn w u b) : Calls Tryz.prog 7 #[u] w fun r w' => ∃ (sa : Option Addr) (sc : Nat) (ga : Option Addr) (gc : Nat) (f : Int) (x : Tab), r = .returned (.tuple #[.agg #[.slice sa x.1.length sc, .slice ga x.2.length gc], .int .i64 f]) ∧ (f = 0 → loadP b = some x ∧ b.length ≤ 8388608) ∧ (b.length ≤ 8388608 → ∀ y, loadP b = some y → f = 0) ∧ Hid (TabV w' (fun y => y < w'.heap.size) (.slice sa x.1.length sc) (.slice ga x.2.length gc) x ∧ Below w.heap.size w w' ∧ Small x) :=
  (load_any h).mono fun r w' hp => by
    by_cases hl : 8388608 < b.length
    · exact ⟨none, 0, none, 0, 2, ([], []), hp.long hl, fun e => (by omega), fun h => (by omega), tab_nil _ _, hp.bel, small_nil⟩
    · cases ht : loadP b with
      | none => exact ⟨none, 0, none, 0, 171, ([], []), hp.bad hl ht, fun e => (by omega), fun _ y e => (by cases e), tab_nil _ _, hp.bel, small_nil⟩
      | some x =>
        obtain ⟨sv, gv, raws, Bt, h1, _, h2⟩ := hp.good hl x ht
        obtain ⟨sa, sc, rfl⟩ := h2.out.shp.len
        obtain ⟨ga, gc, rfl⟩ := h2.out.glb.len
        rw [h2.out.len] at h1
        obtain ⟨k1, k2, k3, k4⟩ := load_size ht
        have h3 := h2.out.tabV k1 k2 k3
        rw [h2.out.len] at h3
        exact ⟨sa, sc, ga, gc, 0, x, h1, fun _ => ⟨rfl, by omega⟩, fun _ _ _ => rfl, h3, hp.bel, k4⟩
end Go.Proofs.YtlpnegnpejpdkabGreatDoor

namespace Go.Proofs.YtlpnegnpejpdkabGreatDoor
open Go.RowKit

theorem load_v {w : World} {u : Value} {b : Byt} (h : LdIn w u b) : Calls Tryz.prog 7 #[u] w fun r w' => ∃ (sa : Option Addr) (na sc : Nat) (ga : Option Addr) (ng gc : Nat) (f : Int), r = .returned (.tuple #[.agg #[.slice sa na sc, .slice ga ng gc], .int .i64 f]) ∧ Hid (8388608 < b.length → f = 2) ∧ Hid (b.length ≤ 8388608 → loadP b = none → f = 171) ∧ Hid (b.length ≤ 8388608 → ∀ y, loadP b = some y → f = 0) ∧ Hid (Below w.heap.size w w') :=
  (load_any h).mono fun r w' hp => by
    by_cases hl : 8388608 < b.length
    · exact ⟨none, 0, 0, none, 0, 0, 2, hp.long hl, fun _ => rfl, fun h => (by omega), fun h => (by omega), hp.bel⟩
    · cases ht : loadP b with
      | none => exact ⟨none, 0, 0, none, 0, 0, 171, hp.bad hl ht, fun h => (by omega), fun _ _ => rfl, fun _ y e => (by cases e), hp.bel⟩
      | some x =>
        obtain ⟨sv, gv, raws, Bt, h1, _, h2⟩ := hp.good hl x ht
        obtain ⟨sa, sc, rfl⟩ := h2.out.shp.len
        obtain ⟨ga, gc, rfl⟩ := h2.out.glb.len
        exact ⟨sa, _, sc, ga, _, gc, 0, h1, fun h => (by omega), fun _ e => (by cases e), fun _ _ _ => rfl, hp.bel⟩
/-- However many bytes there are: too many. -/
theorem load_far {w : World} {ua : Option Addr} {n uc : Nat} (hlong : 8388608 < n) : Calls Tryz.prog 7 #[.slice ua n uc] w fun r w' => r = .returned (.tuple #[nilT, .int .i64 2]) ∧ Hid (Below w.heap.size w w') := by
  obtain ⟨W, hW⟩ : ∃ W, W = (w.alloc (.cells #[.slice none 0 0, .slice none 0 0] 25)).alloc (.cells #[.int .i64 0] 28) := ⟨_, rfl⟩
  have HL : Hid (LW w W (.slice none 0 0) (.slice none 0 0) (.int .i64 0)) := by rw [hW]; exact lw_start w
  obtain ⟨A, hA⟩ : ∃ A, A = w.heap.size := ⟨_, rfl⟩
  obtain ⟨B, hB⟩ : ∃ B, B = w.heap.size + 1 := ⟨_, rfl⟩
  have HAE : Hid (A = w.heap.size) := hA
  have HBE : Hid (B = w.heap.size + 1) := hB
  have hAB : A ≠ B := by omega
  have hBA : B ≠ A := by omega
  obtain ⟨F, hF⟩ : ∃ F : Ending → World → Prop, F = fun r w' => r = .returned (.tuple #[nilT, .int .i64 2]) ∧ Hid (Below w.heap.size w w') := ⟨_, rfl⟩
  rw [← hF]
  have e1 : ((n : Int) > 8388608) := by omega
  obtain ⟨⟨x0, x1, x2⟩, f0, f1, f2⟩ := HL.out.facts
  rw [← hB] at x2 f2
  rw [← hA] at x0 x1 f0 f1
  have HFE : Hid (∀ r w', LW w w' (.slice none 0 0) (.slice none 0 0) (.int .i64 2) → r = .returned (.tuple #[nilT, .int .i64 2]) → F r w') := fun r w' h1 h2 => by rw [hF]; exact ⟨h2, h1.bel⟩
  clear hF hA hB
  go_enter_defers Tryz.func7, Tryz.ntmps7
  go_upto_region 1 with fail
  rw [← hW, ← HBE.out, ← HAE.out]
  clear hW
  go_wp2
  have HZ := (HL.out.setA (.slice none 0 0) (.slice none 0 0)).setB (.int .i64 2)
  rw [← HBE.out, ← HAE.out] at HZ
  exact ⟨_, res25 HZ (by rw [HAE.out]; rfl) (by rw [HBE.out]; rfl), HFE.out _ _ HZ rfl⟩
theorem load_x {w : World} {ua : Option Addr} {n uc : Nat} {b : Byt} (hn : n = b.length) (hA : AwIn w) (hb : Bts w (.slice ua n uc) b) : Calls Tryz.prog 7 #[.slice ua n uc] w fun r w' => ∃ (sa : Option Addr) (na sc : Nat) (ga : Option Addr) (ng gc : Nat) (f : Int), r = .returned (.tuple #[.agg #[.slice sa na sc, .slice ga ng gc], .int .i64 f]) ∧ Hid (8388608 < b.length → f = 2) ∧ Hid (b.length ≤ 8388608 → loadP b = none → f = 171) ∧ Hid (b.length ≤ 8388608 → ∀ y, loadP b = some y → f = 0) ∧ Hid (Below w.heap.size w w') := by
  by_cases hl : 8388608 < b.length
  · refine (load_far (by omega)).mono fun r w' hp => ?_
    exact ⟨none, 0, 0, none, 0, 0, 2, hp.1, fun _ => rfl, fun h => (by omega), fun h => (by omega), hp.2⟩
  · exact load_v ⟨hb, by omega, hA.first, hA.rd.rows⟩
/-- An empty row of bytes that was made. -/
theorem own_fresh {w : World} {B g : Nat} (h : w.heap[g]? = some (.cells #[] 5 (0, 0))) (hB : B ≤ g) : Own EByt 5 B w (fun _ => False) (.slice (some ⟨g, 0, none⟩) 0 0) [] :=
  ⟨⟨[], Css.nil _ _ _, rfl, .inr ⟨g, 0, #[], rfl, hB, h, Nat.le_refl _, Nat.zero_le _, rfl, rfl⟩⟩, fun _ h => h.elim⟩
theorem own_byts {w : World} {B : Nat} {v : Value} {l : Byt} (h : Own EByt 5 B w (fun _ => False) v l) : Bts w v l := by
  have hlt := h.lt
  obtain ⟨ad, cap, rfl, h2⟩ := RowK.open h.rowE
  refine ⟨ad, cap, rfl, fun i hi => ?_⟩
  obtain ⟨g, o, rfl, hc, h3⟩ := h2 (fun e => by rw [e] at hi; simp at hi)
  obtain ⟨hZ, cs, rfl, h4⟩ := h3 i hi
  have := h4 0 (by decide)
  exact ⟨g, o, rfl, hc, (hlt g rfl).2, by simpa [EByt] using this⟩
/-- A row of bytes that was made, when it is not empty: its block. -/
theorem own_open {w : World} {B : Nat} {v : Value} {l : Byt} (h : Own EByt 5 B w (fun _ => False) v l) (h0 : l ≠ []) : ∃ g cap cur, v = .slice (some ⟨g, 0, none⟩) l.length cap ∧ B ≤ g ∧ w.heap[g]? = some (.cells cur 5 (0, 0)) ∧ l.length ≤ cap ∧ ∀ i (hi : i < l.length), cur[i]? = some (.int .u8 (l[i].toNat : Nat)) := by
  have hb := own_byts h
  obtain ⟨css, h1, h2⟩ := h.row
  rcases id h2.2 with ⟨_, h3⟩ | ⟨g, cap, cur, rfl, h4, h5, h6, _⟩
  · exact absurd (List.length_eq_zero_iff.1 h3) h0
  · refine ⟨g, cap, cur, rfl, h4, h5, h6, fun i hi => ?_⟩
    obtain ⟨ad, c, e, hh⟩ := hb
    cases e
    obtain ⟨g', o, e, _, _, hc⟩ := hh i hi
    cases e
    rw [Nat.zero_add] at hc
    simpa [World.cell?, h5] using hc
/-- One byte of it turned. -/
theorem own_turn {w : World} {g cap i : Nat} {cur : Array Value} {l : Byt} {y : UInt8} (h : w.heap[g]? = some (.cells cur 5 (0, 0))) (hc : l.length ≤ cap) (hh : ∀ i (hi : i < l.length), cur[i]? = some (.int .u8 (l[i].toNat : Nat))) (hi : i < l.length) : Bts (w.setCell ⟨g, i, none⟩ (.int .u8 (y.toNat : Nat))) (.slice (some ⟨g, 0, none⟩) l.length cap) (l.set i y) := by
  have h2 := setCell_block (v := .int .u8 (y.toNat : Nat)) (i := i) h
  have hci := hh i hi
  have hsz : i < cur.size := by
    rcases Nat.lt_or_ge i cur.size with q | q
    · exact q
    · rw [Array.getElem?_eq_none q] at hci
      cases hci
  refine ⟨_, cap, by rw [List.length_set], fun j hj => ⟨g, 0, rfl, by rw [List.length_set]; exact hc, lt_heap h2, heap_cl h2 ?_⟩⟩
  rw [List.length_set] at hj
  rw [Nat.zero_add, Array.getElem?_setIfInBounds]
  by_cases e : i = j
  · subst e
    rw [if_pos rfl, if_pos hsz]
    simp
  · rw [if_neg e, hh j hj]
    simp [e]
theorem turned_bad {t : Tab} {i c : Nat} (hi : i < (bytesW t).length) (hc : 0 < c) (hc2 : c < 256) {y : UInt8} (hy : y.toNat = (bytesW t)[i].toNat ^^^ c) : loadP ((bytesW t).set i y) = none := by
  refine load_turned (t := t) (by rw [List.length_set]) ⟨(bytesW t).take i, (bytesW t).drop (i + 1), (bytesW t)[i], y, ?_, ?_, fun e => ?_⟩
  · rw [List.getElem_cons_drop, List.take_append_drop]
  · rw [List.set_eq_take_append_cons_drop, if_pos hi]
  · rw [← e] at hy
    have h1 : (bytesW t)[i].toNat ^^^ ((bytesW t)[i].toNat ^^^ c) = c := by rw [← Nat.xor_assoc, Nat.xor_self, Nat.zero_xor]
    rw [← hy, Nat.xor_self] at h1
    omega
end Go.Proofs.YtlpnegnpejpdkabGreatDoor

namespace Go.Proofs.YtlpnegnpejpdkabGreatDoor
open Go.RowKit

set_option maxHeartbeats 16000000 in
set_option maxRecDepth 10000 in
theorem spoilt_any {w : World} {S : Nat → Prop} {sv gv u : Value} {t : Tab} {at_ ct : Int} {c : Nat} {mo : Byt} (hA : AwIn w) (hS : ∀ b, S b → b < w.heap.size) (hT : TabV w S sv gv t) (hs : Small t) (hc : c < 256) (hat : -9223372036854775808 ≤ at_ ∧ at_ ≤ 9223372036854775807) (hct : -9223372036854775808 ≤ ct ∧ ct ≤ 9223372036854775807) (hm : Bts w u mo) (hml : mo.length < 140737488355328) :
    Calls Tryz.prog 3 #[.agg #[sv, gv], .int .i64 at_, .int .u8 (c : Int), .int .i64 ct, u] w fun r w' => r = .returned (.bool true) ∧ Hid (Below w.heap.size w w') := by
  have HA : Hid (∀ wr, Below w.heap.size w wr → AwIn wr) := fun wr hb => hA.below hb
  obtain ⟨F, hF⟩ : ∃ F : Ending → World → Prop, F = fun r w' => r = .returned (.bool true) ∧ Hid (Below w.heap.size w w') := ⟨_, rfl⟩
  rw [← hF]
  have HF : Hid (∀ wr, Below w.heap.size w wr → F (.returned (.bool true)) wr) := fun wr hb => by rw [hF]; exact ⟨rfl, hb⟩
  obtain ⟨sa, sc, rfl⟩ := RowK.len hT.shp
  obtain ⟨ga, gc, rfl⟩ := RowK.len hT.glb
  obtain ⟨ua, uc, rfl, _⟩ := id hm
  obtain ⟨Z, hZ⟩ : ∃ Z, Z = w.heap.size := ⟨_, rfl⟩
  obtain ⟨V, hV⟩ : ∃ V, V = w.alloc (.cells #[.slice sa t.1.length sc, .slice ga t.2.length gc] 25) := ⟨_, rfl⟩
  have bV : Below w.heap.size w V := by rw [hV]; exact (Below.refl _ _).alloc (Nat.le_refl _) _
  have mV : V.heap[Z]? = some (.cells #[.slice sa t.1.length sc, .slice ga t.2.length gc] 25 (0, 0)) := by rw [hV, hZ]; exact new_blk _ _
  have HT : Hid (∀ wr, Below w.heap.size w wr → CkIn wr (.slice sa t.1.length sc) (.slice ga t.2.length gc) t) := fun wr hb => by
    have h1 := hT.on (Keeps.of hb hS)
    exact ⟨h1.up fun b hb2 => Nat.lt_of_lt_of_le (hS b hb2) hb.size, (HA.out wr hb).first, (HA.out wr hb).rd.rows, hs⟩
  have HZ : Hid (∀ wr, Below V.heap.size V wr → (wr.cell? ⟨Z, 0, none⟩ = some (.slice sa t.1.length sc) ∧ wr.cell? ⟨Z, 1, none⟩ = some (.slice ga t.2.length gc)) ∧ Below w.heap.size w wr) := fun wr hb => ⟨⟨heap_cl ((hb.block Z (lt_heap mV)).trans mV) rfl, heap_cl ((hb.block Z (lt_heap mV)).trans mV) rfl⟩, bV.trans (hb.mono bV.size)⟩
  have HM : Hid (∀ wr, Below w.heap.size w wr → Bts wr (.slice ua mo.length uc) mo) := fun wr hb => hm.on hb
  have HZE : Hid (Z = w.heap.size) := hZ
  have CA := awake_any (HA.out V bV)
  clear hF hA hT hS mV hZ hm
  go_enter Tryz.func3, Tryz.ntmps3
  go_upto_region 1 with fail
  rw [← hV, ← HZE.out]
  clear hV
  go_upto_region 2 with (go_at_call 5; (with_reducible refine Calls.mono CA ?_); rintro e1 w1 ⟨rfl, H1⟩)
  obtain ⟨⟨x0, x1⟩, hw1⟩ := HZ.out w1 H1.out
  have CB := bytes_u (HT.out w1 hw1)
  clear CA
  go_upto_region 3 with (go_at_call 6; (with_reducible refine Calls.mono CB ?_); rintro e2 w2 ⟨ba, bc, b, n2, rfl, hb2, hn2, hm2, H2⟩; have HB2 : Hid (Below V.heap.size V w2) := H1.out.trans (H2.out.2.mono H1.out.size))
  clear CB x0 x1 hw1 H1 hm2
  have HW2 := (HZ.out w2 HB2.out).2
  by_cases q2 : n2 = 0
  case neg =>
    go_wp2
    exact HF.out _ HW2
  obtain ⟨hck, hbt⟩ := hn2 q2
  subst q2
  have hb0 : 0 < b.length := by rw [hbt]; unfold bytesW markP; simp
  have HBL : Hid (loadP b = some t) := by show _ = _; rw [hbt]; exact load_bytes hck hs
  have HBT : Hid (b = bytesW t) := hbt
  have HCK : Hid (checkP t = 0) := hck
  clear hn2 hck hbt HW2
  have hbn : ¬ b.length = 0 := by omega
  have CL := load_v (w := w2) (b := b) ⟨H2.out.1, by omega, (HA.out w2 (HZ.out w2 HB2.out).2).first, (HA.out w2 (HZ.out w2 HB2.out).2).rd.rows⟩
  go_upto_region 6 with (go_at_call 7; (with_reducible refine Calls.mono CL ?_); rintro e3 w3 ⟨la3, na3, lc3, ka3, ng3, kc3, n3, rfl, _, _, HN3, H3⟩)
  obtain rfl : n3 = 0 := HN3.out hb2 t HBL.out
  have HB3 : Hid (Below V.heap.size V w3) := HB2.out.trans (H3.out.mono HB2.out.size)
  have HBS : Hid (Bts w3 (.slice ba b.length bc) b) := H2.out.1.on H3.out
  clear CL HN3 H2 H3 HB2
  obtain ⟨Z3, hZ⟩ : ∃ Z, Z = w3.heap.size := ⟨_, rfl⟩
  obtain ⟨V3, hV⟩ : ∃ V, V = w3.alloc (.cells #[.slice la3 na3 lc3, .slice ka3 ng3 kc3] 25) := ⟨_, rfl⟩
  rw [← hZ, ← hV]
  have b3 : Below w3.heap.size w3 V3 := by rw [hV]; exact (Below.refl _ _).alloc (Nat.le_refl _) _
  have HV3 : Hid (Below V.heap.size V V3) := HB3.out.trans (b3.mono HB3.out.size)
  have HBV : Hid (Bts V3 (.slice ba b.length bc) b) := HBS.out.on b3
  clear HBS HB3 b3 hZ hV
  have bE : Below V3.heap.size V3 (V3.alloc (.cells #[] 5)) := (Below.refl _ _).alloc (Nat.le_refl _) _
  have HBE : Hid (Bts (V3.alloc (.cells #[] 5)) (.slice ba b.length bc) b) := HBV.out.on bE
  have HOE : Hid (Own EByt 5 V3.heap.size (V3.alloc (.cells #[] 5)) (fun _ => False) (.slice (some ⟨V3.heap.size, 0, none⟩) 0 0) []) := own_fresh (new_blk _ _) (Nat.le_refl _)
  have HSE : Hid (V3.heap.size ≤ (V3.alloc (.cells #[] 5)).heap.size) := bE.size
  have HEE : Hid (Below V3.heap.size V3 (V3.alloc (.cells #[] 5))) := bE
  clear bE
  go_upto_region 7 with (at_builtin; refine wpList_more (B := V3.heap.size) rfl _ _ rfl rfl HOE.out rfl HBE.out (by simp) (by omega) HSE.out ?_; intro v4 w4 O4 B4)
  have HB4 : Hid (Below V3.heap.size V3 w4) := HEE.out.trans B4
  rw [List.nil_append] at O4
  obtain ⟨g4, cap4, cur4, rfl, hg4, hh4, hc4, hr4⟩ := own_open O4 (by intro e; rw [e] at hb0; exact absurd hb0 (by decide))
  have HB5 : Hid (Below V.heap.size V w4) := HV3.out.trans (HB4.out.mono HV3.out.size)
  clear HBE HOE HSE HEE B4 O4
  obtain ⟨m, hmm⟩ : ∃ m : Nat, max 0 at_ = (m : Int) := ⟨(max 0 at_).toNat, by omega⟩
  obtain ⟨i, hii⟩ : ∃ i : Nat, i = m % b.length := ⟨_, rfl⟩
  have hil : i < b.length := by rw [hii]; exact Nat.mod_lt _ hb0
  obtain ⟨k, hkk⟩ : ∃ k : UInt8, k = b[i] := ⟨_, rfl⟩
  obtain ⟨y, hy⟩ : ∃ y : UInt8, y.toNat = k.toNat ^^^ c := ⟨UInt8.ofNat (k.toNat ^^^ c), by
    have h1 : k.toNat ^^^ c < 2 ^ 8 := Nat.xor_lt_two_pow k.toNat_lt hc
    rw [UInt8.toNat_ofNat']
    omega⟩
  obtain ⟨D, hD⟩ : ∃ D : World, D = w4.drew := ⟨_, rfl⟩
  have hhD : D.heap[g4]? = some (.cells cur4 5 (0, 0)) := by rw [hD]; exact hh4
  have HDB : Hid (Below V3.heap.size V3 D) := by rw [hD]; exact HB4.out.drew
  have HDV : Hid (Below V.heap.size V D) := by rw [hD]; exact HB5.out.drew
  have HBS : Hid (Bts D (.slice ba b.length bc) b) := HBV.out.on HDB.out
  have hcell : D.cell? ⟨g4, i, none⟩ = some (.int .u8 (k.toNat : Nat)) := by rw [hkk]; exact heap_cl hhD (hr4 i hil)
  have HTR : Hid (Bts (D.setCell ⟨g4, i, none⟩ (.int .u8 (y.toNat : Nat))) (.slice (some ⟨g4, 0, none⟩) b.length cap4) (b.set i y)) := own_turn hhD hc4 hr4 hil
  have HTB : Hid (Below V3.heap.size V3 (D.setCell ⟨g4, i, none⟩ (.int .u8 (y.toNat : Nat)))) := HDB.out.setCell (by exact hg4) _
  have HTF : Hid (D.frozen? ⟨g4, i, none⟩ = false) := heap_frozen hhD
  have HXR : Hid (bits .xor .u8 (k.toNat : Int) (c : Int) = (y.toNat : Int)) := by show _ = _; rw [u8_xor_nat _ _ k.toNat_lt hc, hy]
  have HMX : Hid (max 0 at_ = (m : Int)) := hmm
  have HRM : Hid ((m : Int).tmod (b.length : Int) = (i : Int)) := by show _ = _; rw [hii]; exact (Int.ofNat_tmod _ _).symm
  obtain ⟨m2, hm2⟩ : ∃ m : Nat, max 0 ct = (m : Int) := ⟨(max 0 ct).toNat, by omega⟩
  obtain ⟨j, hjj⟩ : ∃ j : Nat, j = m2 % b.length := ⟨_, rfl⟩
  have hjl : j < b.length := by rw [hjj]; exact Nat.mod_lt _ hb0
  have hrm2 : (m2 : Int).tmod (b.length : Int) = (j : Int) := by rw [hjj]; exact (Int.ofNat_tmod _ _).symm
  have HBD : Hid (0 < c → loadP (b.set i y) = none) := fun h => by
    have hb := HBT.out
    subst hb
    exact turned_bad hil h hc (by rw [hy, hkk])
  clear hmm hii hkk hy hh4 hr4 hjj hhD HB4 HB5
  have hS0 : (fun w' : World => w'.cell? ⟨g4, i, none⟩ = some (.int .u8 (k.toNat : Nat))) D := hcell
  refine wp_region_M (S := (fun w' : World => w'.cell? ⟨g4, i, none⟩ = some (.int .u8 (k.toNat : Nat)))) (L := 17) (n := 18) (by kernel_rfl) rfl (by kernel_rfl) ?_
  rw [← hD]
  clear hD hcell
  refine wpAnyK_go (i := 0) (m' := 1) (some 50) (v := .slice (some ⟨g4, 0, none⟩) b.length cap4) rfl rfl (by kernel_rfl) (by kernel_rfl) (by kernel_rfl) (by kernel_rfl) (by kernel_rfl) (fun _ _ _ h => h) (Or.inl ⟨by rfl, ?_⟩) hS0 ?_
  · intro w' hSw
    go_simp
  simp only [Act.put, List.setIfInBounds_toArray, List.set_cons_zero, List.set_cons_succ]
  refine wpAnyK_go (i := 1) (m' := 3) (some 51) (v := .int .i64 at_) rfl rfl (by kernel_rfl) (by kernel_rfl) (by kernel_rfl) (by kernel_rfl) (by kernel_rfl) (fun _ _ _ h => h) (Or.inl ⟨by rfl, ?_⟩) hS0 ?_
  · intro w' hSw
    go_simp
  simp only [Act.put, List.setIfInBounds_toArray, List.set_cons_zero, List.set_cons_succ]
  refine wpAnyK_go (i := 2) (m' := 7) (some 52) (v := .int .i64 (m : Int)) rfl rfl (by kernel_rfl) (by kernel_rfl) (by kernel_rfl) (by kernel_rfl) (by kernel_rfl) (fun _ _ _ h => h) (Or.inl ⟨by rfl, ?_⟩) hS0 ?_
  · intro w' hSw
    go_simp
    exact HMX.out
  simp only [Act.put, List.setIfInBounds_toArray, List.set_cons_zero, List.set_cons_succ]
  refine wpAnyK_go (i := 3) (m' := 15) (some 53) (v := .slice ba b.length bc) rfl rfl (by kernel_rfl) (by kernel_rfl) (by kernel_rfl) (by kernel_rfl) (by kernel_rfl) (fun _ _ _ h => h) (Or.inl ⟨by rfl, ?_⟩) hS0 ?_
  · intro w' hSw
    go_simp
  simp only [Act.put, List.setIfInBounds_toArray, List.set_cons_zero, List.set_cons_succ]
  refine wpAnyK_go (i := 4) (m' := 31) (some 54) (v := .int .i64 (b.length : Int)) rfl rfl (by kernel_rfl) (by kernel_rfl) (by kernel_rfl) (by kernel_rfl) (by kernel_rfl) (fun _ _ _ h => h) (Or.inl ⟨by rfl, ?_⟩) hS0 ?_
  · intro w' hSw
    go_simp
  simp only [Act.put, List.setIfInBounds_toArray, List.set_cons_zero, List.set_cons_succ]
  refine wpAnyK_go (i := 5) (m' := 63) (some 55) (v := .int .i64 (i : Int)) rfl rfl (by kernel_rfl) (by kernel_rfl) (by kernel_rfl) (by kernel_rfl) (by kernel_rfl) (fun _ _ _ h => h) (Or.inl ⟨by rfl, ?_⟩) hS0 ?_
  · intro w' hSw
    go_simp
    exact HRM.out
  simp only [Act.put, List.setIfInBounds_toArray, List.set_cons_zero, List.set_cons_succ]
  refine wpAnyK_go (i := 6) (m' := 127) (some 56) (v := .slice (some ⟨g4, 0, none⟩) b.length cap4) rfl rfl (by kernel_rfl) (by kernel_rfl) (by kernel_rfl) (by kernel_rfl) (by kernel_rfl) (fun _ _ _ h => h) (Or.inl ⟨by rfl, ?_⟩) hS0 ?_
  · intro w' hSw
    go_simp
  simp only [Act.put, List.setIfInBounds_toArray, List.set_cons_zero, List.set_cons_succ]
  refine wpAnyK_go (i := 7) (m' := 255) (some 57) (v := .int .i64 at_) rfl rfl (by kernel_rfl) (by kernel_rfl) (by kernel_rfl) (by kernel_rfl) (by kernel_rfl) (fun _ _ _ h => h) (Or.inl ⟨by rfl, ?_⟩) hS0 ?_
  · intro w' hSw
    go_simp
  simp only [Act.put, List.setIfInBounds_toArray, List.set_cons_zero, List.set_cons_succ]
  refine wpAnyK_go (i := 8) (m' := 511) (some 58) (v := .int .i64 (m : Int)) rfl rfl (by kernel_rfl) (by kernel_rfl) (by kernel_rfl) (by kernel_rfl) (by kernel_rfl) (fun _ _ _ h => h) (Or.inl ⟨by rfl, ?_⟩) hS0 ?_
  · intro w' hSw
    go_simp
    exact HMX.out
  simp only [Act.put, List.setIfInBounds_toArray, List.set_cons_zero, List.set_cons_succ]
  refine wpAnyK_go (i := 9) (m' := 1023) (some 59) (v := .slice ba b.length bc) rfl rfl (by kernel_rfl) (by kernel_rfl) (by kernel_rfl) (by kernel_rfl) (by kernel_rfl) (fun _ _ _ h => h) (Or.inl ⟨by rfl, ?_⟩) hS0 ?_
  · intro w' hSw
    go_simp
  simp only [Act.put, List.setIfInBounds_toArray, List.set_cons_zero, List.set_cons_succ]
  refine wpAnyK_go (i := 10) (m' := 2047) (some 60) (v := .int .i64 (b.length : Int)) rfl rfl (by kernel_rfl) (by kernel_rfl) (by kernel_rfl) (by kernel_rfl) (by kernel_rfl) (fun _ _ _ h => h) (Or.inl ⟨by rfl, ?_⟩) hS0 ?_
  · intro w' hSw
    go_simp
  simp only [Act.put, List.setIfInBounds_toArray, List.set_cons_zero, List.set_cons_succ]
  refine wpAnyK_go (i := 11) (m' := 4095) (some 61) (v := .int .i64 (i : Int)) rfl rfl (by kernel_rfl) (by kernel_rfl) (by kernel_rfl) (by kernel_rfl) (by kernel_rfl) (fun _ _ _ h => h) (Or.inl ⟨by rfl, ?_⟩) hS0 ?_
  · intro w' hSw
    go_simp
    exact HRM.out
  simp only [Act.put, List.setIfInBounds_toArray, List.set_cons_zero, List.set_cons_succ]
  refine wpAnyK_go (i := 12) (m' := 8191) (some 62) (v := .pointer (some ⟨g4, i, none⟩)) rfl rfl (by kernel_rfl) (by kernel_rfl) (by kernel_rfl) (by kernel_rfl) (by kernel_rfl) (fun _ _ _ h => h) (Or.inl ⟨by rfl, ?_⟩) hS0 ?_
  · intro w' hSw
    go_simp
  simp only [Act.put, List.setIfInBounds_toArray, List.set_cons_zero, List.set_cons_succ]
  refine wpAnyK_go (i := 13) (m' := 16383) (some 63) (v := .int .u8 (k.toNat : Int)) rfl rfl (by kernel_rfl) (by kernel_rfl) (by kernel_rfl) (by kernel_rfl) (by kernel_rfl) (fun _ _ _ h => h) (Or.inl ⟨by rfl, ?_⟩) hS0 ?_
  · intro w' hSw
    have p0 := hSw
    go_simp
  simp only [Act.put, List.setIfInBounds_toArray, List.set_cons_zero, List.set_cons_succ]
  refine wpAnyK_go (i := 14) (m' := 32767) (some 64) (v := .int .u8 (c : Int)) rfl rfl (by kernel_rfl) (by kernel_rfl) (by kernel_rfl) (by kernel_rfl) (by kernel_rfl) (fun _ _ _ h => h) (Or.inl ⟨by rfl, ?_⟩) hS0 ?_
  · intro w' hSw
    go_simp
  simp only [Act.put, List.setIfInBounds_toArray, List.set_cons_zero, List.set_cons_succ]
  refine wpAnyK_go (i := 15) (m' := 65535) (some 65) (v := .int .u8 (y.toNat : Int)) rfl rfl (by kernel_rfl) (by kernel_rfl) (by kernel_rfl) (by kernel_rfl) (by kernel_rfl) (fun _ _ _ h => h) (Or.inl ⟨by rfl, ?_⟩) hS0 ?_
  · intro w' hSw
    go_simp
    exact HXR.out
  simp only [Act.put, List.setIfInBounds_toArray, List.set_cons_zero, List.set_cons_succ]
  refine wpAnyK_go (i := 16) (m' := 131071) (some 66) (v := .pointer (some ⟨g4, i, none⟩)) rfl rfl (by kernel_rfl) (by kernel_rfl) (by kernel_rfl) (by kernel_rfl) (by kernel_rfl) (fun _ _ _ h => h) (Or.inl ⟨by rfl, ?_⟩) hS0 ?_
  · intro w' hSw
    go_simp
  simp only [Act.put, List.setIfInBounds_toArray, List.set_cons_zero, List.set_cons_succ]
  refine wpAnyK_only (i := 17) (m' := 262143) (by kernel_rfl) rfl (by kernel_rfl) fun K hK => ?_
  have p0 : D.cell? ⟨g4, i, none⟩ = some (.int .u8 (k.toNat : Nat)) := hS0
  have f0 := HTF.out
  go_simp
  refine hK.out _ _ (fun h => absurd rfl h) ?_
  clear hK K p0 f0 hS0
  refine wpAnyK_done (by kernel_rfl) ?_ _
  obtain ⟨W7, hW7⟩ : ∃ W : World, W = D.setCell ⟨g4, i, none⟩ (.int .u8 (y.toNat : Nat)) := ⟨_, rfl⟩
  rw [← hW7] at HTR HTB ⊢
  have HW7 : Hid (Below V.heap.size V W7) := HV3.out.trans (HTB.out.mono HV3.out.size)
  have HBS7 : Hid (Bts W7 (.slice ba b.length bc) b) := HBV.out.on HTB.out
  clear hW7 HTF HXR HMX HRM HDB HDV HBS HTB HBV HV3
  rename_i K7 a7
  refine a7 _ _ ?_
  clear a7 K7
  obtain ⟨b7, hb7⟩ : ∃ b7, b7 = b.set i y := ⟨_, rfl⟩
  have hl7 : b7.length = b.length := by rw [hb7, List.length_set]
  rw [← hb7] at HTR HBD
  obtain ⟨_, hwv⟩ := HZ.out W7 HW7.out
  have CL := load_v (w := W7) (b := b7) ⟨HTR.out, by omega, (HA.out W7 hwv).first, (HA.out W7 hwv).rd.rows⟩
  clear hb7 hwv
  go_upto_region 9 with (go_at_call 7; (with_reducible refine Calls.mono CL ?_); rintro e8 w8 ⟨la8, na8, lc8, ka8, ng8, kc8, n8, rfl, _, HP8, _, H8⟩)
  have HN8 : Hid (c = 0 ∨ n8 = 171) := by
    by_cases h0 : c = 0
    · exact Or.inl h0
    · exact Or.inr (HP8.out (by omega) (HBD.out (by omega)))
  have HB8 : Hid (Below V.heap.size V w8) := HW7.out.trans (H8.out.mono HW7.out.size)
  have HBS8 : Hid (Bts w8 (.slice ba b.length bc) b) := HBS7.out.on H8.out
  clear CL HP8 H8 HBD HTR HW7 HBS7
  obtain ⟨Z8, hZ⟩ : ∃ Z, Z = w8.heap.size := ⟨_, rfl⟩
  obtain ⟨V8, hV⟩ : ∃ V, V = w8.alloc (.cells #[.slice la8 na8 lc8, .slice ka8 ng8 kc8] 25) := ⟨_, rfl⟩
  rw [← hZ, ← hV]
  have b8 : Below w8.heap.size w8 V8 := by rw [hV]; exact (Below.refl _ _).alloc (Nat.le_refl _) _
  have HV8 : Hid (Below V.heap.size V V8) := HB8.out.trans (b8.mono HB8.out.size)
  have HBV8 : Hid (Bts V8 (.slice ba b.length bc) b) := HBS8.out.on b8
  clear HBS8 HB8 b8 hZ hV
  obtain ⟨gb, ob, cb, hsb, _, _⟩ := bts_at HBV8.out hb0
  obtain ⟨rfl, -, rfl⟩ := Value.slice.inj hsb
  have HCT : Hid (Bts V8 (.slice (some ⟨gb, ob, none⟩) (b.length - 1 - j) bc) (b.take (b.length - 1 - j))) := Bts.take HBV8.out (by omega)
  have HTK : Hid (loadP (b.take (b.length - 1 - j)) = none) := by
    have hb := HBT.out
    subst hb
    exact load_cut HCK.out hs (by omega)
  obtain ⟨_, hwv⟩ := HZ.out V8 HV8.out
  have CL := load_v (w := V8) (b := b.take (b.length - 1 - j)) ⟨HCT.out, by rw [List.length_take]; omega, (HA.out V8 hwv).first, (HA.out V8 hwv).rd.rows⟩
  clear hwv hsb
  go_upto_region 10 with (go_at_call 7; (with_reducible refine Calls.mono CL ?_); rintro e9 w9 ⟨la9, na9, lc9, ka9, ng9, kc9, n9, rfl, _, HP9, _, H9⟩)
  obtain rfl : n9 = 171 := HP9.out (by rw [List.length_take]; omega) HTK.out
  have HB9 : Hid (Below V.heap.size V w9) := HV8.out.trans (H9.out.mono HV8.out.size)
  have HBS9 : Hid (Bts w9 (.slice (some ⟨gb, ob, none⟩) b.length bc) b) := HBV8.out.on H9.out
  clear CL HP9 H9 HTK HCT HV8 HBV8
  obtain ⟨Z9, hZ⟩ : ∃ Z, Z = w9.heap.size := ⟨_, rfl⟩
  obtain ⟨V9, hV⟩ : ∃ V, V = w9.alloc (.cells #[.slice la9 na9 lc9, .slice ka9 ng9 kc9] 25) := ⟨_, rfl⟩
  rw [← hZ, ← hV]
  have b9 : Below w9.heap.size w9 V9 := by rw [hV]; exact (Below.refl _ _).alloc (Nat.le_refl _) _
  have HV9 : Hid (Below V.heap.size V V9) := HB9.out.trans (b9.mono HB9.out.size)
  have HBV9 : Hid (Bts V9 (.slice (some ⟨gb, ob, none⟩) b.length bc) b) := HBS9.out.on b9
  clear HBS9 HB9 b9 hZ hV
  have bE : Below V9.heap.size V9 (V9.alloc (.cells #[] 5)) := (Below.refl _ _).alloc (Nat.le_refl _) _
  have HBE : Hid (Bts (V9.alloc (.cells #[] 5)) (.slice (some ⟨gb, ob, none⟩) b.length bc) b) := HBV9.out.on bE
  have HOE : Hid (Own EByt 5 V9.heap.size (V9.alloc (.cells #[] 5)) (fun _ => False) (.slice (some ⟨V9.heap.size, 0, none⟩) 0 0) []) := own_fresh (new_blk _ _) (Nat.le_refl _)
  have HSE : Hid (V9.heap.size ≤ (V9.alloc (.cells #[] 5)).heap.size) := bE.size
  have HEE : Hid (Below V9.heap.size V9 (V9.alloc (.cells #[] 5))) := bE
  clear bE
  go_upto_region 11 with (at_builtin; refine wpList_more (B := V9.heap.size) rfl _ _ rfl rfl HOE.out rfl HBE.out (by simp) (by omega) HSE.out ?_; intro v10 w10 O10 B10)
  rw [List.nil_append] at O10
  have HB10 : Hid (Below V.heap.size V w10) := HV9.out.trans ((HEE.out.trans B10).mono HV9.out.size)
  have HO10 : Hid (Own EByt 5 V9.heap.size w10 (fun _ => False) v10 b) := O10
  have HM10 : Hid (Bts w10 (.slice ua mo.length uc) mo) := HM.out _ (HZ.out _ HB10.out).2
  have HS10 : Hid (V9.heap.size ≤ w10.heap.size) := Nat.le_trans HSE.out B10.size
  obtain ⟨ad10, cap10, rfl⟩ := O10.len
  clear O10 B10 HBE HOE HSE HEE
  go_upto_region 12 with (at_builtin; refine wpList_more (B := V9.heap.size) rfl _ _ rfl rfl HO10.out rfl HM10.out (by omega) hml HS10.out ?_; intro v11 w11 O11 B11)
  have HB11 : Hid (Below V.heap.size V w11) := HB10.out.trans (B11.mono (Nat.le_trans HV9.out.size (Nat.le_refl _)))
  obtain ⟨ad11, cap11, rfl⟩ := O11.len
  have HBS11 : Hid (Bts w11 (.slice ad11 (b.length + mo.length) cap11) (b ++ mo)) := by have h := own_byts O11; rw [List.length_append] at h; exact h
  clear O11 B11 HO10 HM10 HS10 HB10
  obtain ⟨_, hwv⟩ := HZ.out w11 HB11.out
  obtain ⟨b11, hb11⟩ : ∃ x, x = b ++ mo := ⟨_, rfl⟩
  have hl11 : b11.length = b.length + mo.length := by rw [hb11, List.length_append]
  rw [← hb11] at HBS11
  have HLN : Hid (mo.length = 0 ∨ loadP b11 = none) := by
    by_cases h0 : mo = []
    · exact Or.inl (by rw [h0]; rfl)
    · refine Or.inr ?_
      rw [hb11, HBT.out]
      exact load_longer HCK.out hs h0
  have CL := load_x (w := w11) (b := b11) (n := b.length + mo.length) hl11.symm (HA.out w11 hwv) HBS11.out
  clear hwv hb11
  go_upto_region 13 with (go_at_call 7; (with_reducible refine Calls.mono CL ?_); rintro e12 w12 ⟨la12, na12, lc12, ka12, ng12, kc12, n12, rfl, HL12, HP12, _, H12⟩)
  have HB12 : Hid (Below V.heap.size V w12) := HB11.out.trans (H12.out.mono HB11.out.size)
  clear CL H12 HBS11 HB11
  obtain ⟨Z12, hZ⟩ : ∃ Z, Z = w12.heap.size := ⟨_, rfl⟩
  obtain ⟨V12, hV⟩ : ∃ V, V = w12.alloc (.cells #[.slice la12 na12 lc12, .slice ka12 ng12 kc12] 25) := ⟨_, rfl⟩
  rw [← hZ, ← hV]
  have b12 : Below w12.heap.size w12 V12 := by rw [hV]; exact (Below.refl _ _).alloc (Nat.le_refl _) _
  have HEND := HF.out V12 ((HZ.out w12 HB12.out).2.trans (b12.mono (HZ.out w12 HB12.out).2.size))
  clear hZ hV b12 HB12
  have hcases : (mo.length = 0 ∨ (¬ mo.length = 0 ∧ n12 = 171) ∨ (¬ mo.length = 0 ∧ ¬ n12 = 171 ∧ n12 = 2 ∧ (b.length : Int) + (mo.length : Int) > 8388608)) := by
    by_cases h0 : mo.length = 0
    · exact Or.inl h0
    · by_cases hl : 8388608 < b11.length
      · have := HL12.out hl
        exact Or.inr (Or.inr ⟨h0, by omega, this, by omega⟩)
      · rcases HLN.out with h | h
        · exact absurd h h0
        · exact Or.inr (Or.inl ⟨h0, HP12.out (by omega) h⟩)
  clear HL12 HP12 HLN
  have hc8 : c = 0 ∨ (¬ c = 0 ∧ n8 = 171) := by
    by_cases h0 : c = 0
    · exact Or.inl h0
    · exact Or.inr ⟨h0, HN8.out.resolve_left h0⟩
  clear HN8
  rcases hc8 with rfl | ⟨hc0, rfl⟩ <;> rcases hcases with h0 | ⟨h0, rfl⟩ | ⟨h0, h1, rfl, h2⟩
  all_goals
    go_wp2
    exact HEND
end Go.Proofs.YtlpnegnpejpdkabGreatDoor
