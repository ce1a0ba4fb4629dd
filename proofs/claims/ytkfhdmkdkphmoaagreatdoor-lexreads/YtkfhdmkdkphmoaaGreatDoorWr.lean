/- The contract of write, but for numbers: what a token is written as. -/
import Derived.Test.YtkfhdmkdkphmoaaGreatDoorWb
import Derived.Test.YtkfhdmkdkphmoaaGreatDoorCutW
import Derived.Lib.AppendStr
namespace Go.Proofs.YtkfhdmkdkphmoaaGreatDoor
open Go.RowKit

/-- What a token is written as (numbers left out). -/
def writeL (kd nm : Nat) (tx : List UInt8) : List UInt8 :=
  if kd = 7 then [39] ++ escB 39 nm ++ [39] else if kd = 8 then [34] ++ quoteL 34 tx ++ [34] else tx

theorem Grew.under {B : Nat} {w w0 w' : World} {v' : Value} {t : List UInt8} (h : Grew B w0 w' v' t) (hb : Below B w w0) : Grew B w w' v' t := ⟨h.own, hb.trans h.bel⟩

set_option maxHeartbeats 2000000 in
set_option maxRecDepth 10000 in
theorem write_any (v : Value) (t : List UInt8) (kd nm : Nat) (at' : Int) (tx : List UInt8) (B : Nat) (w : World) (hk : kd ≠ 6) (h7 : kd = 7 → nm < 256) (hl7 : tx.length ≤ 65536) (hB : B ≤ w.heap.size) (hl : t.length ≤ 100000000) (hown : w.ownsRow B 5 1 v t.length (t.map byteV)) :
    Calls Tryz.prog 38 #[v, .agg #[.int .i64 kd, .string ⟨tx.toArray⟩, .int .i64 nm, .int .i64 at']] w fun e w' => ∃ v', e = .returned v' ∧ Grew B w w' v' (t ++ writeL kd nm tx) := by
  obtain ⟨i0, hi, hz0, hz1, hz2⟩ := info_parts Tryz.info5
  have hbo : ∀ o, Below B w (w.alloc o) := fun o => (Below.refl B w).alloc hB o
  have k6 : ¬ (kd : Int) = 6 := by omega
  by_cases hk7 : kd = 7
  · have hnm := h7 hk7
    subst hk7
    have HE : Hid (writeL 7 nm tx = [39] ++ escB 39 nm ++ [39]) := by show writeL 7 nm tx = _; simp [writeL]
    have hrun : ∀ W : World, (convert 63 9 (.slice (some ⟨W.heap.size, 0, none⟩) 1 1)).run Tryz.prog (W.alloc (Obj.cells #[.int .u8 (nm : Int)] 5)) = .ok (.string ⟨#[nm.toUInt8]⟩) (W.alloc (Obj.cells #[.int .u8 (nm : Int)] 5)) := by
      intro W
      refine run_convert_bytes_back _ 63 9 5 ⟨W.heap.size, 0, none⟩ 1 [nm.toUInt8] Tryz.underlying63 Tryz.underlying5 Tryz.underlying9 ?_
      intro j hj
      match j, hj with
      | 0, _ =>
        simp [Addr.add]
        omega
    have HQ : Hid (quoteL 39 [nm.toUInt8] = escB 39 nm) := by
      show quoteL 39 [nm.toUInt8] = _
      simp [quoteL]
      congr 1
      omega
    have WQ : ∀ W, B ≤ W.heap.size → W.ownsRow B 5 1 v t.length (t.map byteV) → Calls Tryz.prog 67 #[v, .string ⟨#[nm.toUInt8]⟩, .int .u8 39] W fun e w' => ∃ v', e = .returned v' ∧ Grew B W w' v' (t ++ [39] ++ quoteL 39 [nm.toUInt8] ++ [39]) :=
      fun W h1 h2 => writeQuoted_any v t ⟨#[nm.toUInt8]⟩ 39 B W (by omega) (by show 1 ≤ 65536; omega) h1 hl h2
    have hr := hrun (w.alloc (Obj.cells #[.int .i64 7, .string ⟨tx.toArray⟩, .int .i64 nm, .int .i64 at'] 39))
    simp only [World.size_alloc] at hr
    go_enter Tryz.func38, Tryz.ntmps38
    go_wp2_with (go_at_call 67; refine Calls.mono (WQ _ ?_ ?_) ?_; (simp; omega); exact (hown.alloc _).alloc _; rintro e w1 ⟨v1, rfl, G⟩)
    go_ret
    refine ⟨v1, rfl, ?_⟩
    rw [HE.out, ← HQ.out]
    have G' := G.under (((hbo _)).alloc (by simp; omega) _)
    simpa using G'
  · have k7 : ¬ (kd : Int) = 7 := by omega
    by_cases hk8 : kd = 8
    · subst hk8
      have HE : Hid (writeL 8 nm tx = [34] ++ quoteL 34 tx ++ [34]) := by show writeL 8 nm tx = _; simp [writeL]
      have WQ : ∀ W, B ≤ W.heap.size → W.ownsRow B 5 1 v t.length (t.map byteV) → Calls Tryz.prog 67 #[v, .string ⟨tx.toArray⟩, .int .u8 34] W fun e w' => ∃ v', e = .returned v' ∧ Grew B W w' v' (t ++ [34] ++ quoteL 34 tx ++ [34]) :=
        fun W h1 h2 => writeQuoted_any v t ⟨tx.toArray⟩ 34 B W (by omega) (by show tx.toArray.size ≤ 65536; simpa using hl7) h1 hl h2
      go_enter Tryz.func38, Tryz.ntmps38
      go_wp2_with (go_at_call 67; refine Calls.mono (WQ _ ?_ ?_) ?_; (simp; omega); exact hown.alloc _; rintro e w1 ⟨v1, rfl, G⟩)
      go_ret
      refine ⟨v1, rfl, ?_⟩
      rw [HE.out]
      have G' := G.under (hbo _)
      simpa using G'
    · have k8 : ¬ (kd : Int) = 8 := by omega
      have HE : Hid (writeL kd nm tx = tx) := by show writeL kd nm tx = _; simp [writeL, hk7, hk8]
      have hsz : (⟨tx.toArray⟩ : ByteArray).size = tx.length := by show tx.toArray.size = _; simp
      go_enter Tryz.func38, Tryz.ntmps38
      go_wp2_with (at_builtin; refine Lib.wpList_append_own_string _ rfl _ _ 63 9 rfl B 5 i0 Tryz.underlying63 Tryz.underlying9 hi hz0 hz1 hz2 _ _ _ rfl (hown.alloc _) ⟨tx.toArray⟩ rfl (by rw [hsz]; unfold maxLen; omega) (by rw [hsz]; omega) (by simp; omega) ?_; intro v1 w1 hown' hgrow hnil)
      go_ret
      refine ⟨v1, rfl, ?_⟩
      rw [HE.out]
      refine ⟨?_, ?_⟩
      · rw [hsz] at hown'
        have e : Lib.strCells (⟨tx.toArray⟩ : ByteArray) = tx.map byteV := by simp [Lib.strCells, byteV]
        rw [e] at hown'
        simpa using hown'
      · exact (hbo _).grown hgrow (by simp; omega) (fun k hk => (hown.lt k hk).1)
end Go.Proofs.YtkfhdmkdkphmoaaGreatDoor
