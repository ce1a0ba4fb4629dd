/- byteReader: names. byteReader: the numbers of an instruction. byteReader: an instruction's numbers are read into it. -/
import Derived.Test.YtlpnegnpejpdkaaGreatDoorMhx
import Derived.Lib.SlBytesRow
import Derived.Test.YtlpnegnpejpdkaaGreatDoorMgx
namespace Go.Proofs.YtlpnegnpejpdkaaGreatDoor
open Go.RowKit

/-- What a reader's call leaves that answers a text. -/
def RS (w : World) (R : Nat) (left : Int) (x : Option (Byt × Byt)) (r : Ending) (w' : World) : Prop := match x with
  | some (s, m) => r = .returned (.string ⟨s.toArray⟩) ∧ Hid (Rd w' R left m ∧ Rk w R w')
  | none => r = thrown 171 ∧ Hid (Rk w R w')
theorem Rd.lt {w : World} {R : Nat} {left : Int} {l : Byt} (h : Rd w R left l) : R < w.heap.size := by
  obtain ⟨_, _, _, h1, _⟩ := h
  exact lt_heap h1
set_option maxHeartbeats 16000000 in
set_option maxRecDepth 10000 in
theorem rname {w : World} {R : Nat} {left : Int} {l : Byt} (h : Rd w R left l) (hl : l.length < 9223372036854775808) : Calls Tryz.prog 100 #[.pointer (some ⟨R, 0, none⟩)] w fun r w' => RS w R left (nameR l) r w' := by
  have CN := rcnt h 4096 hl
  have hlt := h.lt
  obtain ⟨F, hF⟩ : ∃ F : Ending → World → Prop, F = fun r w' => RS w R left (nameR l) r w' := ⟨_, rfl⟩
  rw [← hF]
  cases hn : cntR 4096 l with
  | none =>
    rw [hn] at CN
    replace CN : Calls Tryz.prog 99 #[.pointer (some ⟨R, 0, none⟩), .int .i64 4096] w fun r w' => r = .panicked [{ v := .iface 28 (.int .i64 171), recovered := false }] ∧ Hid (Rk w R w') := CN
    have HF1 : Hid (∀ r w', r = thrown 171 → Rk w R w' → F r w') := fun r w' h1 h2 => by
      rw [hF]
      have e : nameR l = none := by unfold nameR; rw [hn]; rfl
      show RS w R left (nameR l) r w'
      rw [e]
      exact ⟨h1, h2⟩
    clear hF h
    go_enter Tryz.func100, Tryz.ntmps100
    go_wp2_with (go_at_call 99; (with_reducible refine Calls.mono CN ?_); rintro e2 w2 ⟨rfl, HH⟩)
    exact ⟨rfl, HF1.out _ _ rfl HH.out⟩
  | some p =>
    obtain ⟨n, m⟩ := p
    rw [hn] at CN
    replace CN : Calls Tryz.prog 99 #[.pointer (some ⟨R, 0, none⟩), .int .i64 4096] w fun r w' => r = .returned (.int .i64 n) ∧ Hid (Rd w' R left m ∧ Rk w R w') := CN
    obtain ⟨_, hnm⟩ : n ≤ 4096 ∧ n ≤ m.length := (cnt_is hn).2
    obtain ⟨S, hS⟩ : ∃ S : ByteArray, S = ⟨(m.take n).toArray⟩ := ⟨_, rfl⟩
    have hSs : S.size = n := by rw [hS]; show (m.take n).toArray.size = n; rw [List.size_toArray, List.length_take]; omega
    have HF2 : Hid (∀ r w', r = .returned (.string S) → Rd w' R left (m.drop n) → Rk w R w' → F r w') := fun r w' h2 h3 h4 => by
      rw [hF]
      have e : nameR l = some (m.take n, m.drop n) := by unfold nameR; rw [hn]; rfl
      show RS w R left (nameR l) r w'
      rw [e]
      exact ⟨by rw [h2, hS], h3, h4⟩
    have HBY : Hid (∀ (w2 : World) (g o : Nat), (∀ i (h : i < m.length), w2.cell? ⟨g, o + i, none⟩ = some (.int .u8 (m[i].toNat : Nat))) → ∀ cap, (convert 40 9 (.slice (some ⟨g, o, none⟩) n cap)).run Tryz.prog w2 = .ok (.string S) w2) := fun w2 g o hh cap => by
      rw [← hSs]
      refine Lib.run_convert_whole w2 40 5 9 (by kernel_rfl) (by kernel_rfl) (by kernel_rfl) g o S (fun i hi => ?_) cap
      have him : i < m.length := by omega
      rw [hh i him]
      have : S[i] = m[i] := by
        subst hS
        show (m.take n).toArray[i] = _
        simp
      rw [this]
    have hml : m.length < 9223372036854775808 := by
      obtain ⟨e, _⟩ := cnt_is hn
      rw [e, List.length_append] at hl
      omega
    clear hF h hn hS hSs
    go_enter Tryz.func100, Tryz.ntmps100
    go_upto_region 2 with (go_at_call 99; (with_reducible refine Calls.mono CN ?_); rintro e2 w2 ⟨rfl, HH⟩)
    obtain ⟨g, o, cap, hRb, hc, hg, hb⟩ := HH.out.1
    have p0 : w2.cell? ⟨R, 0, none⟩ = some (.slice (some ⟨g, o, none⟩) m.length cap) := heap_cl hRb rfl
    have f0 : w2.frozen? ⟨R, 0, none⟩ = false := heap_frozen hRb
    have HQ := HBY.out w2 g o hb
    have HC : Hid (∀ o', (o' = o + n ∨ m.length = n) → Rd (w2.setCell ⟨R, 0, none⟩ (.slice (some ⟨g, o', none⟩) (m.length - n) (cap - n))) R left (m.drop n) ∧ Rk w R (w2.setCell ⟨R, 0, none⟩ (.slice (some ⟨g, o', none⟩) (m.length - n) (cap - n)))) := fun o' ho => by
      obtain ⟨h1, h2⟩ := rd_cut hRb hc hg hb hnm ho
      exact ⟨h1, HH.out.2.trans (HH.out.2.size (Nat.le_of_lt hlt)) h2⟩
    have n1 : (n : Int) ≤ (cap : Int) := by omega
    have n2 : (n : Int) ≤ (m.length : Int) := by omega
    clear hb hRb HBY HH
    by_cases hcp : cap = n
    · have HC1 := HC.out o (.inr (by omega))
      rw [show cap - n = 0 by omega] at HC1
      replace HC1 : Hid (Rd (w2.setCell ⟨R, 0, none⟩ (.slice (some ⟨g, o, none⟩) (m.length - n) 0)) R left (m.drop n) ∧ Rk w R (w2.setCell ⟨R, 0, none⟩ (.slice (some ⟨g, o, none⟩) (m.length - n) 0))) := HC1
      have hcp0 : cap - n = 0 := by omega
      go_wp2
      exact HF2.out _ _ rfl HC1.out.1 HC1.out.2
    · have HC1 := HC.out (o + n) (.inl rfl)
      replace HC1 : Hid (Rd (w2.setCell ⟨R, 0, none⟩ (.slice (some ⟨g, o + n, none⟩) (m.length - n) (cap - n))) R left (m.drop n) ∧ Rk w R (w2.setCell ⟨R, 0, none⟩ (.slice (some ⟨g, o + n, none⟩) (m.length - n) (cap - n)))) := HC1
      have hcp2 : ¬ cap - n = 0 := by omega
      go_wp2
      exact HF2.out _ _ rfl HC1.out.1 HC1.out.2
end Go.Proofs.YtlpnegnpejpdkaaGreatDoor

namespace Go.Proofs.YtlpnegnpejpdkaaGreatDoor
open Go.RowKit

/-- What a reader's call leaves that answers a whole number. -/
def RI (w : World) (R : Nat) (left : Int) (x : Option (Int × Byt)) (r : Ending) (w' : World) : Prop := match x with
  | some (n, m) => r = .returned (.int .i64 n) ∧ Hid (Rd w' R left m ∧ Rk w R w')
  | none => r = thrown 171 ∧ Hid (Rk w R w')
set_option maxRecDepth 10000 in
theorem unfolded_any (n : Nat) (h : n < 9223372036854775808) (w : World) : Calls Tryz.prog 135 #[.int .i64 n] w fun r w' => r = .returned (.int .i64 (unfoldP n)) ∧ w' = w := by
  have HU : Hid ((n % 2 = 0 → unfoldP n = ((n : Int) / 2)) ∧ (¬ n % 2 = 0 → unfoldP n = -((n : Int) / 2) - 1)) := by
    unfold unfoldP
    refine ⟨fun e => by rw [if_pos e]; omega, fun e => by rw [if_neg e]; omega⟩
  generalize unfoldP n = u at *
  by_cases h2 : n % 2 = 0
  · have e1 : ((n : Int) % 2 != 0) = false := by simp; omega
    go_enter Tryz.func135, Tryz.ntmps135
    go_wp2
    go_ret
    exact ⟨by rw [HU.out.1 h2]; rfl, rfl⟩
  · have e1 : ((n : Int) % 2 != 0) = true := by simp; omega
    go_enter Tryz.func135, Tryz.ntmps135
    go_wp2
    go_ret
    exact ⟨by rw [HU.out.2 h2]; rfl, rfl⟩
set_option maxHeartbeats 16000000 in
set_option maxRecDepth 10000 in
theorem rarg {w : World} {R : Nat} {left : Int} {l : Byt} (h : Rd w R left l) (kind : Nat) : Calls Tryz.prog 121 #[.pointer (some ⟨R, 0, none⟩), .int .i64 kind] w fun r w' => RI w R left (argR kind l) r w' := by
  have CN := rnum h
  obtain ⟨F, hF⟩ : ∃ F : Ending → World → Prop, F = fun r w' => RI w R left (argR kind l) r w' := ⟨_, rfl⟩
  rw [← hF]
  cases hn : numR 0 0 l with
  | none =>
    rw [hn] at CN
    replace CN : Calls Tryz.prog 101 #[.pointer (some ⟨R, 0, none⟩)] w fun r w' => r = .panicked [{ v := .iface 28 (.int .i64 171), recovered := false }] ∧ Hid (Rk w R w') := CN
    have HF1 : Hid (∀ r w', r = thrown 171 → Rk w R w' → F r w') := fun r w' h1 h2 => by
      rw [hF]
      have e : argR kind l = none := by unfold argR; rw [hn]; rfl
      show RI w R left (argR kind l) r w'
      rw [e]
      exact ⟨h1, h2⟩
    clear hF h
    go_enter Tryz.func121, Tryz.ntmps121
    go_wp2_with (go_at_call 101; (with_reducible refine Calls.mono CN ?_); rintro e2 w2 ⟨rfl, HH⟩)
    exact ⟨rfl, HF1.out _ _ rfl HH.out⟩
  | some p =>
    obtain ⟨n, m⟩ := p
    rw [hn] at CN
    replace CN : Calls Tryz.prog 101 #[.pointer (some ⟨R, 0, none⟩)] w fun r w' => r = .returned (.int .i64 n) ∧ Hid (Rd w' R left m ∧ Rk w R w') := CN
    have hn63 := (numW_is hn).2
    have HF2 : Hid (∀ r w', r = .returned (.int .i64 (if kind = 3 then unfoldP n else (n : Int))) → Rd w' R left m → Rk w R w' → F r w') := fun r w' h2 h3 h4 => by
      rw [hF]
      have e : argR kind l = some (if kind = 3 then unfoldP n else (n : Int), m) := by unfold argR; rw [hn]; rfl
      show RI w R left (argR kind l) r w'
      rw [e]
      exact ⟨h2, h3, h4⟩
    have CU := fun W => unfolded_any n hn63 W
    clear hF h hn
    by_cases hk : kind = 3
    · have e1 : ((kind : Int) == 3) = true := by simp [hk]
      have HRE : Hid ((if kind = 3 then unfoldP n else (n : Int)) = unfoldP n) := if_pos hk
      rw [HRE.out] at HF2
      clear hk HRE
      generalize unfoldP n = u at *
      go_enter Tryz.func121, Tryz.ntmps121
      go_wp2_with (first | (go_at_call 101; (with_reducible refine Calls.mono CN ?_); rintro e2 w2 ⟨rfl, HH⟩) | (go_at_call 135; (with_reducible refine Calls.mono (CU _) ?_); rintro e3 w3 ⟨rfl, hw⟩; obtain rfl := hw.symm; clear hw))
      exact HF2.out _ _ rfl HH.out.1 HH.out.2
    · have e1 : ((kind : Int) == 3) = false := by simp; omega
      have HRE : Hid ((if kind = 3 then unfoldP n else (n : Int)) = (n : Int)) := if_neg hk
      rw [HRE.out] at HF2
      clear hk HRE
      go_enter Tryz.func121, Tryz.ntmps121
      go_wp2_with (go_at_call 101; (with_reducible refine Calls.mono CN ?_); rintro e2 w2 ⟨rfl, HH⟩)
      exact HF2.out _ _ rfl HH.out.1 HH.out.2
end Go.Proofs.YtlpnegnpejpdkaaGreatDoor

namespace Go.Proofs.YtlpnegnpejpdkaaGreatDoor
open Go.RowKit

def restR (op : Int) (r : Byt) : Option (Ins × Byt) :=
  if kindB op ≠ 0 then bindR (argR (kindA op) r) fun a r => bindR (argR (kindB op) r) fun b r => some ((op, a, b), r)
  else if kindA op ≠ 0 then bindR (argR (kindA op) r) fun a r => some ((op, a, 0), r) else some ((op, 0, 0), r)
theorem insR_rest (l : Byt) : insR l = bindR (numR 0 0 l) fun op r => if isOpP op = false then none else restR op r := rfl
/-- What a reader's call leaves that answers an instruction. -/
def RX (w : World) (R : Nat) (left : Int) (x : Option (Ins × Byt)) (r : Ending) (w' : World) : Prop := match x with
  | some (n, m) => r = .returned (.agg #[.int .i64 n.1, .int .i64 n.2.1, .int .i64 n.2.2]) ∧ Hid (Rd w' R left m ∧ Rk w R w')
  | none => r = thrown 171 ∧ Hid (Rk w R w')
theorem Rd.on {w w' : World} {R : Nat} {left : Int} {l : Byt} (h : Rd w R left l) (hb : Below R w w') (hR : w'.heap[R]? = w.heap[R]?) : Rd w' R left l := by
  obtain ⟨g, o, cap, h1, h2, h3, h4⟩ := h
  exact ⟨g, o, cap, hR.trans h1, h2, h3, fun i hi => (hb.cell (p := ⟨g, o + i, none⟩) h3).trans (h4 i hi)⟩
/-- Between instrOf's steps: the result's block and the instruction's. -/
structure IW (w W : World) (R : Nat) (left : Int) (m : Byt) (op a b : Int) : Prop where
  x : ∃ u v z, W.heap[w.heap.size]? = some (.cells #[u, v, z] 53 (0, 0))
  y : W.heap[w.heap.size + 1]? = some (.cells #[.int .i64 op, .int .i64 a, .int .i64 b] 53 (0, 0))
  rd : Rd W R left m
  rk : Rk w R W
  lt : R < w.heap.size
theorem IW.call {w W W' : World} {R : Nat} {left : Int} {m m' : Byt} {op a b : Int} (h : IW w W R left m op a b) (h1 : Rd W' R left m') (h2 : Rk W R W') : IW w W' R left m' op a b := by
  obtain ⟨⟨u, v, z, hx⟩, hy, hr, hk, hl⟩ := h
  exact ⟨⟨u, v, z, (h2.2 _ (lt_heap hx) (by omega)).trans hx⟩, (h2.2 _ (lt_heap hy) (by omega)).trans hy, h1, hk.trans (by have := lt_heap hx; omega) h2, hl⟩
theorem IW.thrown {w W W' : World} {R : Nat} {left : Int} {m : Byt} {op a b : Int} (h : IW w W R left m op a b) (h2 : Rk W R W') : Rk w R W' := h.rk.trans (by obtain ⟨_, _, _, hx⟩ := h.x; have := lt_heap hx; omega) h2
theorem IW.turn {w W W' : World} {R : Nat} {left : Int} {m : Byt} {op a b a' b' : Int} (h : IW w W R left m op a b) (hy : W'.heap[w.heap.size + 1]? = some (.cells #[.int .i64 op, .int .i64 a', .int .i64 b'] 53 (0, 0))) (hb : Below (w.heap.size + 1) W W') (hs : ∀ y, y ≠ w.heap.size + 1 → W'.heap[y]? = W.heap[y]?) : IW w W' R left m op a' b' := by
  obtain ⟨⟨u, v, z, hx⟩, _, hr, hk, hl⟩ := h
  refine ⟨⟨u, v, z, (hs _ (by omega)).trans hx⟩, hy, hr.on (hb.mono (by omega)) (hs _ (by omega)), ⟨hk.1.trans (hb.mono (by omega)), fun y hy hR => (hs _ (by omega)).trans (hk.2 y hy hR)⟩, hl⟩
theorem IW.setA {w W : World} {R : Nat} {left : Int} {m : Byt} {op a b : Int} (h : IW w W R left m op a b) (a' : Int) : IW w (W.setCell ⟨w.heap.size + 1, 1, none⟩ (.int .i64 a')) R left m op a' b :=
  h.turn ((setCell_block h.y).trans rfl) ((Below.refl (w.heap.size + 1) W).setCell (p := ⟨w.heap.size + 1, _, none⟩) (Nat.le_refl _) _) fun _ hy => Below.heap_setCell _ _ _ _ hy
theorem IW.setB {w W : World} {R : Nat} {left : Int} {m : Byt} {op a b : Int} (h : IW w W R left m op a b) (b' : Int) : IW w (W.setCell ⟨w.heap.size + 1, 2, none⟩ (.int .i64 b')) R left m op a b' :=
  h.turn ((setCell_block h.y).trans rfl) ((Below.refl (w.heap.size + 1) W).setCell (p := ⟨w.heap.size + 1, _, none⟩) (Nat.le_refl _) _) fun _ hy => Below.heap_setCell _ _ _ _ hy
theorem IW.fin {w W : World} {R : Nat} {left : Int} {m : Byt} {op a b : Int} (h : IW w W R left m op a b) (x y z : Value) :
    Rd (((W.setCell ⟨w.heap.size, 0, none⟩ x).setCell ⟨w.heap.size, 1, none⟩ y).setCell ⟨w.heap.size, 2, none⟩ z) R left m ∧ Rk w R (((W.setCell ⟨w.heap.size, 0, none⟩ x).setCell ⟨w.heap.size, 1, none⟩ y).setCell ⟨w.heap.size, 2, none⟩ z) := by
  obtain ⟨⟨u, v, q, hx⟩, _, hr, hk, hl⟩ := h
  have hb := (((Below.refl w.heap.size W).setCell (p := ⟨w.heap.size, 0, none⟩) (Nat.le_refl _) x).setCell (p := ⟨w.heap.size, 1, none⟩) (Nat.le_refl _) y).setCell (p := ⟨w.heap.size, 2, none⟩) (Nat.le_refl _) z
  have hs : ∀ g, g ≠ w.heap.size → (((W.setCell ⟨w.heap.size, 0, none⟩ x).setCell ⟨w.heap.size, 1, none⟩ y).setCell ⟨w.heap.size, 2, none⟩ z).heap[g]? = W.heap[g]? := fun g hg => by
    rw [Below.heap_setCell _ _ _ _ hg, Below.heap_setCell _ _ _ _ hg, Below.heap_setCell _ _ _ _ hg]
  exact ⟨hr.on (hb.mono (Nat.le_of_lt hl)) (hs _ (by omega)), hk.1.trans (hb.mono (Nat.le_of_lt hl)), fun y hy hR => (hs _ (by omega)).trans (hk.2 y hy hR)⟩
theorem IW.drew {w W : World} {R : Nat} {left : Int} {m : Byt} {op a b : Int} (h : IW w W R left m op a b) : IW w W.drew R left m op a b := by
  obtain ⟨⟨u, v, q, hx⟩, hy, hr, hk, hl⟩ := h
  exact ⟨⟨u, v, q, hx⟩, hy, hr.on ((Below.refl _ _).drew) rfl, ⟨hk.1.drew, hk.2⟩, hl⟩
/-- What may be asked of the memory there. -/
theorem IW.facts {w W : World} {R : Nat} {left : Int} {m : Byt} {op a b : Int} (h : IW w W R left m op a b) : (W.cell? ⟨w.heap.size + 1, 0, none⟩ = some (.int .i64 op) ∧ W.cell? ⟨w.heap.size + 1, 1, none⟩ = some (.int .i64 a) ∧ W.cell? ⟨w.heap.size + 1, 2, none⟩ = some (.int .i64 b)) ∧ (∃ u v z, W.cell? ⟨w.heap.size, 0, none⟩ = some u ∧ W.cell? ⟨w.heap.size, 1, none⟩ = some v ∧ W.cell? ⟨w.heap.size, 2, none⟩ = some z) ∧ (W.frozen? ⟨w.heap.size, 0, none⟩ = false ∧ W.frozen? ⟨w.heap.size, 1, none⟩ = false ∧ W.frozen? ⟨w.heap.size, 2, none⟩ = false) ∧ W.frozen? ⟨w.heap.size + 1, 1, none⟩ = false ∧ W.frozen? ⟨w.heap.size + 1, 2, none⟩ = false := by
  obtain ⟨⟨u, v, q, hx⟩, hy, _⟩ := h
  exact ⟨⟨heap_cl hy rfl, heap_cl hy rfl, heap_cl hy rfl⟩, ⟨u, v, q, heap_cl hx rfl, heap_cl hx rfl, heap_cl hx rfl⟩, ⟨heap_frozen hx, heap_frozen hx, heap_frozen hx⟩, heap_frozen hy, heap_frozen hy⟩
theorem res116 {w : World} {X : Nat} {tm : Array Value} {a b c : Value} (h4 : tm[4]? = some (.pointer (some ⟨X, 0, none⟩))) (x0 : w.cell? ⟨X, 0, none⟩ = some a) (x1 : w.cell? ⟨X, 1, none⟩ = some b) (x2 : w.cell? ⟨X, 2, none⟩ = some c) : (results Tryz.f116 tm).run Tryz.prog w = .ok (.agg #[a, b, c]) w := by
  simp [results, Tryz.f116, go_sem, h4, x0, x1, x2]
theorem IW.setA' {w W : World} {R Y : Nat} {left : Int} {m : Byt} {op a b : Int} (h : IW w W R left m op a b) (hY : Y = w.heap.size + 1) (a' : Int) : IW w (W.setCell ⟨Y, 1, none⟩ (.int .i64 a')) R left m op a' b := by subst hY; exact h.setA a'
theorem IW.setB' {w W : World} {R Y : Nat} {left : Int} {m : Byt} {op a b : Int} (h : IW w W R left m op a b) (hY : Y = w.heap.size + 1) (b' : Int) : IW w (W.setCell ⟨Y, 2, none⟩ (.int .i64 b')) R left m op a b' := by subst hY; exact h.setB b'
theorem IW.facts' {w W : World} {R X Y : Nat} {left : Int} {m : Byt} {op a b : Int} (h : IW w W R left m op a b) (hX : X = w.heap.size) (hY : Y = w.heap.size + 1) : (W.cell? ⟨Y, 0, none⟩ = some (.int .i64 op) ∧ W.cell? ⟨Y, 1, none⟩ = some (.int .i64 a) ∧ W.cell? ⟨Y, 2, none⟩ = some (.int .i64 b)) ∧ (∃ u v z, W.cell? ⟨X, 0, none⟩ = some u ∧ W.cell? ⟨X, 1, none⟩ = some v ∧ W.cell? ⟨X, 2, none⟩ = some z) ∧ (W.frozen? ⟨X, 0, none⟩ = false ∧ W.frozen? ⟨X, 1, none⟩ = false ∧ W.frozen? ⟨X, 2, none⟩ = false) ∧ W.frozen? ⟨Y, 1, none⟩ = false ∧ W.frozen? ⟨Y, 2, none⟩ = false := by subst hX; subst hY; exact h.facts
theorem IW.done {w W : World} {R X : Nat} {left : Int} {m : Byt} {op a b : Int} {F : Ending → World → Prop} (h : IW w W R left m op a b) (hX : X = w.heap.size) (hF : ∀ w', Rd w' R left m ∧ Rk w R w' → F (.returned (.agg #[.int .i64 op, .int .i64 a, .int .i64 b])) w') (A : Act) (h4 : A.tmps[4]? = some (.pointer (some ⟨X, 0, none⟩))) (hd : A.defers = []) :
    bodyPost Tryz.prog Tryz.f116 F .ret A (((W.setCell ⟨X, 0, none⟩ (.int .i64 op)).setCell ⟨X, 1, none⟩ (.int .i64 a)).setCell ⟨X, 2, none⟩ (.int .i64 b)) := by
  obtain ⟨x, y, z, hx⟩ := h.x
  subst hX
  have hb := (setCell_block ((setCell_block ((setCell_block hx (v := .int .i64 op) (i := 0)).trans rfl) (v := .int .i64 a) (i := 1)).trans rfl) (v := .int .i64 b) (i := 2)).trans rfl
  refine bodyPost_ret (v := .agg #[.int .i64 op, .int .i64 a, .int .i64 b]) (res116 h4 (heap_cl hb rfl) (heap_cl hb rfl) (heap_cl hb rfl)) hd (hF _ (h.fin _ _ _))
set_option maxHeartbeats 16000000 in
set_option maxRecDepth 10000 in
theorem rins {w : World} {rd : Option Addr} {rcap R : Nat} {left : Int} {l : Byt} (hR : RowsAt w rd rcap) (h : Rd w R left l) (h1R : 1 < R) (hgR : ∀ g o, rd = some ⟨g, o, none⟩ → g < R) (op : Nat) (hop : isOpP (op : Int) = true) :
    Calls Tryz.prog 116 #[.int .i64 (op : Int), .func (.func 121) #[.pointer (some ⟨R, 0, none⟩)] #[]] w fun r w' => RX w R left (restR (op : Int) l) r w' := by
  have hop2 := op_range hop
  have hRl := h.lt
  obtain ⟨W, hW⟩ : ∃ W, W = (w.alloc (.cells #[.int .i64 0, .int .i64 0, .int .i64 0] 53)).alloc (.cells #[.int .i64 (op : Int), .int .i64 0, .int .i64 0] 53) := ⟨_, rfl⟩
  have hBW : Below w.heap.size w W := by rw [hW]; exact ((Below.refl _ _).alloc (Nat.le_refl _) _).alloc ((Below.refl _ _).alloc (Nat.le_refl _) _).size _
  have HI : Hid (IW w W R left l (op : Int) 0 0) := by
    refine ⟨⟨.int .i64 0, .int .i64 0, .int .i64 0, ?_⟩, ?_, h.on (hBW.mono (Nat.le_of_lt hRl)) (hBW.block R hRl), ⟨hBW.mono (Nat.le_of_lt hRl), fun y hy _ => hBW.block y hy⟩, hRl⟩
    · rw [hW]
      have e1 := new_blk w (.cells #[.int .i64 0, .int .i64 0, .int .i64 0] 53)
      exact (((Below.refl (w.alloc (.cells #[.int .i64 0, .int .i64 0, .int .i64 0] 53)).heap.size _).alloc (Nat.le_refl _) _).block _ (lt_heap e1)).trans e1
    · rw [hW]
      have e1 := new_blk (w.alloc (.cells #[.int .i64 0, .int .i64 0, .int .i64 0] 53)) (.cells #[.int .i64 (op : Int), .int .i64 0, .int .i64 0] 53)
      have e2 : (w.alloc (.cells #[.int .i64 0, .int .i64 0, .int .i64 0] 53)).heap.size = w.heap.size + 1 := by show (w.heap.push _).size = _; exact Array.size_push _
      rw [e2] at e1
      exact e1
  have HM : Hid (manyP (op : Int) = if kindB (op : Int) ≠ 0 then 2 else if kindA (op : Int) ≠ 0 then 1 else 0) := rfl
  obtain ⟨F, hF⟩ : ∃ F : Ending → World → Prop, F = fun r w' => RX w R left (restR (op : Int) l) r w' := ⟨_, rfl⟩
  rw [← hF]
  have HFN : Hid (∀ r w', restR (op : Int) l = none → r = thrown 171 → Rk w R w' → F r w') := fun r w' h1 h2 h3 => by rw [hF]; show RX w R left (restR (op : Int) l) r w'; rw [h1]; exact ⟨h2, h3⟩
  have HFS : Hid (∀ r w' a b m, restR (op : Int) l = some (((op : Int), a, b), m) → r = .returned (.agg #[.int .i64 (op : Int), .int .i64 a, .int .i64 b]) → Rd w' R left m ∧ Rk w R w' → F r w') := fun r w' a b m h1 h2 h3 => by rw [hF]; show RX w R left (restR (op : Int) l) r w'; rw [h1]; exact ⟨h2, h3⟩
  have HRE : Hid (restR (op : Int) l = if kindB (op : Int) ≠ 0 then bindR (argR (kindA (op : Int)) l) fun a r => bindR (argR (kindB (op : Int)) r) fun b r => some (((op : Int), a, b), r) else if kindA (op : Int) ≠ 0 then bindR (argR (kindA (op : Int)) l) fun a r => some (((op : Int), a, 0), r) else some (((op : Int), 0, 0), l)) := rfl
  have HRW : Hid (∀ w2 : World, Below R w w2 → w.heap.size ≤ w2.heap.size → RowsAt w2 rd rcap) := fun w2 hb hs => hR.under h1R hgR hb hs
  have hrw := HRW.out W (hBW.mono (Nat.le_of_lt hRl)) hBW.size
  obtain ⟨g, o, rfl, hc, hg, q1, q2, q3⟩ := hrw.row op (by omega)
  have r0 := hrw.cell
  obtain ⟨k1, k2⟩ := kinds_at (i := op) rfl
  rw [← k1] at q2
  rw [← k2] at q3
  have CM := numbers_any (w := W.drew) (hrw.below ((Below.refl _ _).drew)) (op : Int) hop
  have i1 : (0 : Int) ≤ (op : Int) := by omega
  have i2 : (op : Int) < 18 := by omega
  obtain ⟨X, hX⟩ : ∃ X, X = w.heap.size := ⟨_, rfl⟩
  obtain ⟨Y, hY⟩ : ∃ Y, Y = w.heap.size + 1 := ⟨_, rfl⟩
  have HXE : Hid (X = w.heap.size) := hX
  have HYE : Hid (Y = w.heap.size + 1) := hY
  obtain ⟨⟨y0, y1, y2⟩, ⟨xu, xv, xz, x0, x1, x2⟩, ⟨fx0, fx1, fx2⟩, fy1, fy2⟩ := HI.out.facts
  rw [← hX] at x0 x1 x2 fx0 fx1 fx2
  rw [← hY] at y0 y1 y2 fy1 fy2
  have hXY : X ≠ Y := by omega
  have hYX : Y ≠ X := by omega
  clear hF hBW k1 k2 hX hY hop hop2 hR h hrw q1
  go_enter Tryz.func116, Tryz.ntmps116
  go_upto_region 2 with fail
  rw [← hW, ← HYE.out, ← HXE.out]
  clear hW
  go_region
  all_goals
    by_cases hb : kindB (op : Int) = 0
    · clear q2 q3 r0
      by_cases ha : kindA (op : Int) = 0
      · rw [HM.out, if_neg (by simp [hb]), if_neg (by simp [ha])] at CM
        go_wp2_with (go_at_call 118; (with_reducible refine Calls.mono CM ?_); rintro e2 w2 ⟨rfl, hw⟩; obtain rfl := hw.symm; clear hw)
        exact HI.out.drew.done HXE.out (fun w' hw => HFS.out _ _ 0 0 l (by rw [HRE.out, if_neg (by simp [hb]), if_neg (by simp [ha])]) rfl hw) _ rfl rfl
      · rw [HM.out, if_neg (by simp [hb]), if_pos ha] at CM
        have CA := rarg HI.out.drew.rd (kindA (op : Int))
        cases hA : argR (kindA (op : Int)) l with
        | none =>
          rw [hA] at CA
          replace CA : Calls Tryz.prog 121 #[.pointer (some ⟨R, 0, none⟩), .int .i64 (kindA (op : Int) : Nat)] W.drew fun r w' => r = .panicked [{ v := .iface 28 (.int .i64 171), recovered := false }] ∧ Hid (Rk W.drew R w') := CA
          go_wp2_with (first | (go_at_call 118; (with_reducible refine Calls.mono CM ?_); rintro e2 w2 ⟨rfl, hw⟩; obtain rfl := hw.symm; clear hw) | (go_at_call 121; (with_reducible refine Calls.mono CA ?_); rintro e3 w3 ⟨rfl, H3⟩))
          exact ⟨rfl, HFN.out _ _ (by rw [HRE.out, if_neg (by simp [hb]), if_pos ha, hA]; rfl) rfl (HI.out.drew.thrown H3.out)⟩
        | some p =>
          obtain ⟨a, m⟩ := p
          rw [hA] at CA
          replace CA : Calls Tryz.prog 121 #[.pointer (some ⟨R, 0, none⟩), .int .i64 (kindA (op : Int) : Nat)] W.drew fun r w' => r = .returned (.int .i64 a) ∧ Hid (Rd w' R left m ∧ Rk W.drew R w') := CA
          clear y0 y1 y2 x0 x1 x2 fx0 fx1 fx2 fy1 fy2
          go_wp2_with (first | (go_at_call 118; (with_reducible refine Calls.mono CM ?_); rintro e2 w2 ⟨rfl, hw⟩; obtain rfl := hw.symm; clear hw) | (go_at_call 121; (with_reducible refine Calls.mono CA ?_); rintro e3 w3 ⟨rfl, H3⟩; have HI3 : Hid (IW w w3 R left m (op : Int) 0 0) := HI.out.drew.call H3.out.1 H3.out.2; obtain ⟨⟨y0, y1, y2⟩, ⟨xu, xv, xz, x0, x1, x2⟩, ⟨fx0, fx1, fx2⟩, fy1, fy2⟩ := HI3.out.facts' HXE.out HYE.out))
          exact (HI3.out.setA' HYE.out a).done HXE.out (fun w' hw => HFS.out _ _ a 0 m (by rw [HRE.out, if_neg (by simp [hb]), if_pos ha, hA]; rfl) rfl hw) _ rfl rfl
    · rw [HM.out, if_pos hb] at CM
      have CA := rarg HI.out.drew.rd (kindA (op : Int))
      clear q2 q3 r0
      cases hA : argR (kindA (op : Int)) l with
      | none =>
        rw [hA] at CA
        replace CA : Calls Tryz.prog 121 #[.pointer (some ⟨R, 0, none⟩), .int .i64 (kindA (op : Int) : Nat)] W.drew fun r w' => r = .panicked [{ v := .iface 28 (.int .i64 171), recovered := false }] ∧ Hid (Rk W.drew R w') := CA
        go_wp2_with (first | (go_at_call 118; (with_reducible refine Calls.mono CM ?_); rintro e2 w2 ⟨rfl, hw⟩; obtain rfl := hw.symm; clear hw) | (go_at_call 121; (with_reducible refine Calls.mono CA ?_); rintro e3 w3 ⟨rfl, H3⟩))
        exact ⟨rfl, HFN.out _ _ (by rw [HRE.out, if_pos hb, hA]; rfl) rfl (HI.out.drew.thrown H3.out)⟩
      | some p =>
        obtain ⟨a, m⟩ := p
        rw [hA] at CA
        replace CA : Calls Tryz.prog 121 #[.pointer (some ⟨R, 0, none⟩), .int .i64 (kindA (op : Int) : Nat)] W.drew fun r w' => r = .returned (.int .i64 a) ∧ Hid (Rd w' R left m ∧ Rk W.drew R w') := CA
        clear y0 y1 y2 x0 x1 x2 fx0 fx1 fx2 fy1 fy2
        go_upto_region 7 with (first | (go_at_call 118; (with_reducible refine Calls.mono CM ?_); rintro e2 w2 ⟨rfl, hw⟩; obtain rfl := hw.symm; clear hw) | (go_at_call 121; (with_reducible refine Calls.mono CA ?_); rintro e3 w3 ⟨rfl, H3⟩; have HI3 : Hid (IW w w3 R left m (op : Int) 0 0) := HI.out.drew.call H3.out.1 H3.out.2; obtain ⟨⟨y0, y1, y2⟩, ⟨xu, xv, xz, x0, x1, x2⟩, ⟨fx0, fx1, fx2⟩, fy1, fy2⟩ := HI3.out.facts' HXE.out HYE.out))
        have HI4 : Hid (IW w (w3.setCell ⟨Y, 1, none⟩ (.int .i64 a)) R left m (op : Int) a 0) := HI3.out.setA' HYE.out a
        clear y0 y1 y2 x0 x1 x2 fx0 fx1 fx2 fy1 fy2 HI3 H3 CA CM HI
        generalize w3.setCell ⟨Y, 1, none⟩ (.int .i64 a) = W4 at *
        have hrw4 := HRW.out W4 HI4.out.rk.1 (HI4.out.rk.size (Nat.le_of_lt hRl))
        obtain ⟨g4, o4, ge4, hc4, hg4, -, q2, q3⟩ := hrw4.row op (by omega)
        obtain ⟨rfl, rfl⟩ : g = g4 ∧ o = o4 := by cases ge4; exact ⟨rfl, rfl⟩
        obtain ⟨k1, k2⟩ := kinds_at (i := op) rfl
        rw [← k1] at q2
        rw [← k2] at q3
        have r0 := hrw4.cell
        have CB := rarg HI4.out.drew.rd (kindB (op : Int))
        obtain ⟨⟨y0, y1, y2⟩, ⟨xu, xv, xz, x0, x1, x2⟩, ⟨fx0, fx1, fx2⟩, fy1, fy2⟩ := HI4.out.facts' HXE.out HYE.out
        clear k1 k2 hrw4 hg4 ge4
        go_region
        all_goals
          clear q2 q3 r0 y0 y1 y2 x0 x1 x2 fx0 fx1 fx2 fy1 fy2
          cases hB : argR (kindB (op : Int)) m with
          | none =>
            rw [hB] at CB
            replace CB : Calls Tryz.prog 121 #[.pointer (some ⟨R, 0, none⟩), .int .i64 (kindB (op : Int) : Nat)] W4.drew fun r w' => r = .panicked [{ v := .iface 28 (.int .i64 171), recovered := false }] ∧ Hid (Rk W4.drew R w') := CB
            go_wp2_with (go_at_call 121; (with_reducible refine Calls.mono CB ?_); rintro e5 w5 ⟨rfl, H5⟩)
            exact ⟨rfl, HFN.out _ _ (by rw [HRE.out, if_pos hb, hA]; show bindR (argR (kindB (op : Int)) m) _ = _; rw [hB]; rfl) rfl (HI4.out.drew.thrown H5.out)⟩
          | some p =>
            obtain ⟨b, n⟩ := p
            rw [hB] at CB
            replace CB : Calls Tryz.prog 121 #[.pointer (some ⟨R, 0, none⟩), .int .i64 (kindB (op : Int) : Nat)] W4.drew fun r w' => r = .returned (.int .i64 b) ∧ Hid (Rd w' R left n ∧ Rk W4.drew R w') := CB
            go_wp2_with (go_at_call 121; (with_reducible refine Calls.mono CB ?_); rintro e5 w5 ⟨rfl, H5⟩; have HI3 : Hid (IW w w5 R left n (op : Int) a 0) := HI4.out.drew.call H5.out.1 H5.out.2; obtain ⟨⟨y0, y1, y2⟩, ⟨xu, xv, xz, x0, x1, x2⟩, ⟨fx0, fx1, fx2⟩, fy1, fy2⟩ := HI3.out.facts' HXE.out HYE.out)
            exact (HI3.out.setB' HYE.out b).done HXE.out (fun w' hw => HFS.out _ _ a b n (by rw [HRE.out, if_pos hb, hA]; show bindR (argR (kindB (op : Int)) m) _ = _; rw [hB]; rfl) rfl hw) _ rfl rfl
end Go.Proofs.YtlpnegnpejpdkaaGreatDoor
