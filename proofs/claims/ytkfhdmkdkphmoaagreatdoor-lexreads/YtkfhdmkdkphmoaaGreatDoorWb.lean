/- Contracts of what writes bytes between quotes. -/
import Derived.Test.YtkfhdmkdkphmoaaGreatDoorW5
namespace Go.Proofs.YtkfhdmkdkphmoaaGreatDoor
open Go.RowKit

/-- How a byte is written between quotes of one kind. -/
def escB (a b : Nat) : List UInt8 :=
  if b = 10 then [92, 110] else if b = 9 then [92, 116] else if b = 92 ∨ b = a then [92, b.toUInt8]
  else if plainB b = true then [b.toUInt8] else [92, (48 + b / 100).toUInt8, (48 + b / 10 % 10).toUInt8, (48 + b % 10).toUInt8]

theorem escB_len (a b : Nat) : (escB a b).length ≤ 4 := by
  unfold escB
  repeat' split
  all_goals simp

/-- A row of bytes of the call's own, grown by some. -/
structure Grew (B : Nat) (w w' : World) (v' : Value) (t : List UInt8) : Prop where
  own : w'.ownsRow B 5 1 v' t.length (t.map byteV)
  bel : Below B w w'

theorem app_step {w w1 : World} {B n : Nat} {v v' : Value} {t : List UInt8} {o : Obj} (bs : List UInt8) {news : List Value} (hn : n = bs.length) (hnews : news = bs.map byteV) (hB : B ≤ w.heap.size) (hown : w.ownsRow B 5 1 v t.length (t.map byteV))
    (hown' : w1.ownsRow B 5 1 v' (t.length + n) (t.map byteV ++ news)) (hg : (w.alloc o).grownBy w1 v.ownBlock) : Grew B w w1 v' (t ++ bs) := by
  subst hn hnews
  refine ⟨by simpa using hown', ?_⟩
  exact ((Below.refl B w).alloc hB o).grown hg (by simp; omega) (fun k hk => (hown.lt k hk).1)

theorem byteV_toUInt8 {b : Nat} (h : b < 256) : byteV b.toUInt8 = .int .u8 (b : Int) := by
  simp [byteV]
  omega

theorem cells_new (w : World) (l : List Value) : ∀ j u, l[j]? = some u → (w.alloc (Obj.cells l.toArray 5)).cell? ((⟨w.heap.size, 0, none⟩ : Addr).add j) = some u := by
  intro j u hu
  have hadd : (⟨w.heap.size, 0, none⟩ : Addr).add j = ⟨w.heap.size, j, none⟩ := by unfold Addr.add; split <;> simp_all
  rw [hadd]
  simp
  exact hu

set_option maxHeartbeats 2000000 in
set_option maxRecDepth 10000 in
theorem writeByte_any (v : Value) (t : List UInt8) (a b B : Nat) (w : World) (hb : b < 256) (ha : a < 256) (hB : B ≤ w.heap.size) (hl : t.length ≤ 1000000000) (hown : w.ownsRow B 5 1 v t.length (t.map byteV)) :
    Calls Tryz.prog 82 #[v, .int .u8 b, .int .u8 a] w fun e w' => ∃ v', e = .returned v' ∧ Grew B w w' v' (t ++ escB a b) := by
  obtain ⟨i0, hi, hz0, hz1, hz2⟩ := info_parts Tryz.info5
  have PL := isPlain_any b w
  by_cases h10 : b = 10
  · have HE : Hid ([92, 110] = escB a b) := by show _ = escB a b; simp [escB, h10]
    have h' : (b : Int) = 10 := by omega
    clear h10 hb PL
    generalize escB a b = eb at HE ⊢
    go_enter Tryz.func82, Tryz.ntmps82
    go_wp2_with (first | (at_builtin; refine wpList_append_own _ rfl _ _ 63 rfl B 5 i0 (.int .u8 0) 1 1 Tryz.underlying63 hi hz0 hz1 hz2 rfl (by decide) _ _ _ rfl (hown.alloc _) _ 2 2 [.int .u8 92, .int .u8 110] rfl rfl (cells_new _ _) (by intro u hu; simp at hu; rcases hu with rfl | rfl <;> rfl) (by unfold maxLen; omega) (by omega) (by simp; omega) ?_; intro v' w1 hown' hgrow hnil) | (go_at_call 86; refine Calls.mono PL ?_; rintro e w' ⟨rfl, rfl⟩))
    go_ret
    exact ⟨v', rfl, HE.out ▸ app_step [92, 110] rfl rfl hB hown hown' hgrow⟩
  · by_cases h9 : b = 9
    · have HE : Hid ([92, 116] = escB a b) := by show _ = escB a b; simp [escB, h9]
      have h' : (b : Int) = 9 := by omega
      clear h10 h9 hb PL
      generalize escB a b = eb at HE ⊢
      go_enter Tryz.func82, Tryz.ntmps82
      go_wp2_with (first | (at_builtin; refine wpList_append_own _ rfl _ _ 63 rfl B 5 i0 (.int .u8 0) 1 1 Tryz.underlying63 hi hz0 hz1 hz2 rfl (by decide) _ _ _ rfl (hown.alloc _) _ 2 2 [.int .u8 92, .int .u8 116] rfl rfl (cells_new _ _) (by intro u hu; simp at hu; rcases hu with rfl | rfl <;> rfl) (by unfold maxLen; omega) (by omega) (by simp; omega) ?_; intro v' w1 hown' hgrow hnil) | (go_at_call 86; refine Calls.mono PL ?_; rintro e w' ⟨rfl, rfl⟩))
      go_ret
      exact ⟨v', rfl, HE.out ▸ app_step [92, 116] rfl rfl hB hown hown' hgrow⟩
    · have n10 : ¬ (b : Int) = 10 := by omega
      have n9 : ¬ (b : Int) = 9 := by omega
      by_cases hq : b = 92 ∨ b = a
      · have HE : Hid ([92, b.toUInt8] = escB a b) := by show _ = escB a b; simp [escB, h10, h9, hq]
        have HV : Hid (byteV b.toUInt8 = .int .u8 (b : Int)) := byteV_toUInt8 hb
        have hq1 : (((b : Int) == 92) || ((b : Int) == (a : Int))) = true := by simp; omega
        generalize escB a b = eb at HE ⊢
        generalize b.toUInt8 = bb at HE HV
        clear PL h10 h9
        by_cases hq9 : b = 92
        · have h92 : (b : Int) = 92 := by omega
          have HV2 : Hid (byteV bb = .int .u8 92) := by show byteV bb = _; rw [HV.out, h92]
          clear hq hq9 hq1 n10 n9 HV hb
          go_enter Tryz.func82, Tryz.ntmps82
          go_wp2_with (first | (at_builtin; refine wpList_append_own _ rfl _ _ 63 rfl B 5 i0 (.int .u8 0) 1 1 Tryz.underlying63 hi hz0 hz1 hz2 rfl (by decide) _ _ _ rfl (hown.alloc _) _ 2 2 [.int .u8 92, .int .u8 92] rfl rfl (cells_new _ _) (by intro u hu; simp at hu; rcases hu with rfl | rfl <;> rfl) (by unfold maxLen; omega) (by omega) (by simp; omega) ?_; intro v' w1 hown' hgrow hnil) | (go_at_call 86; refine Calls.mono PL ?_; rintro e w' ⟨rfl, rfl⟩))
          go_ret
          exact ⟨v', rfl, HE.out ▸ app_step [92, bb] rfl (by show _ = [byteV 92, byteV bb]; rw [HV2.out]; rfl) hB hown hown' hgrow⟩
        · have hqa : b = a := by omega
          subst hqa
          have n92 : ¬ (b : Int) = 92 := by omega
          have q92 : ((b : Int) == 92) = false := by simp; omega
          clear hq1 hb hq
          go_enter Tryz.func82, Tryz.ntmps82
          go_wp2_with (first | (at_builtin; refine wpList_append_own _ rfl _ _ 63 rfl B 5 i0 (.int .u8 0) 1 1 Tryz.underlying63 hi hz0 hz1 hz2 rfl (by decide) _ _ _ rfl (hown.alloc _) _ 2 2 [.int .u8 92, .int .u8 (b : Int)] rfl rfl (cells_new _ _) (by intro u hu; simp at hu; rcases hu with rfl | rfl <;> rfl) (by unfold maxLen; omega) (by omega) (by simp; omega) ?_; intro v' w1 hown' hgrow hnil) | (go_at_call 86; refine Calls.mono PL ?_; rintro e w' ⟨rfl, rfl⟩))
          go_ret
          exact ⟨v', rfl, HE.out ▸ app_step [92, bb] rfl (by show _ = [byteV 92, byteV bb]; rw [HV.out]; rfl) hB hown hown' hgrow⟩
      · have n92 : ¬ (b : Int) = 92 := by omega
        have na : ¬ (b : Int) = (a : Int) := by omega
        have q92 : ((b : Int) == 92) = false := by simp; omega
        have qa : ((b : Int) == (a : Int)) = false := by simp; omega
        cases hp : plainB b
        · have HE : Hid ([92, (48 + b / 100).toUInt8, (48 + b / 10 % 10).toUInt8, (48 + b % 10).toUInt8] = escB a b) := by show _ = escB a b; simp [escB, h10, h9, hq, hp]
          rw [hp] at PL
          generalize escB a b = eb at HE ⊢
          clear h10 h9 hq hp
          go_enter Tryz.func82, Tryz.ntmps82
          go_wp2_with (first | (at_builtin; refine wpList_append_own _ rfl _ _ 63 rfl B 5 i0 (.int .u8 0) 1 1 Tryz.underlying63 hi hz0 hz1 hz2 rfl (by decide) _ _ _ rfl (hown.alloc _) _ 4 4 [.int .u8 92, _, _, _] rfl rfl (cells_new _ _) (by intro u hu; simp at hu; rcases hu with rfl | rfl | rfl | rfl <;> rfl) (by unfold maxLen; omega) (by omega) (by simp; omega) ?_; intro v' w1 hown' hgrow hnil) | (go_at_call 86; refine Calls.mono PL ?_; rintro e w' ⟨rfl, rfl⟩))
          go_ret
          exact ⟨v', rfl, HE.out ▸ app_step [92, (48 + b / 100).toUInt8, (48 + b / 10 % 10).toUInt8, (48 + b % 10).toUInt8] rfl (by simp [byteV]; omega) hB hown hown' hgrow⟩
        · have HE : Hid ([b.toUInt8] = escB a b) := by show _ = escB a b; simp [escB, h10, h9, hq, hp]
          have HV : Hid (byteV b.toUInt8 = .int .u8 (b : Int)) := byteV_toUInt8 hb
          rw [hp] at PL
          generalize escB a b = eb at HE ⊢
          generalize b.toUInt8 = bb at HE HV
          clear h10 h9 hq hp
          go_enter Tryz.func82, Tryz.ntmps82
          go_wp2_with (first | (at_builtin; refine wpList_append_own _ rfl _ _ 63 rfl B 5 i0 (.int .u8 0) 1 1 Tryz.underlying63 hi hz0 hz1 hz2 rfl (by decide) _ _ _ rfl (hown.alloc _) _ 1 1 [.int .u8 (b : Int)] rfl rfl (cells_new _ _) (by intro u hu; simp at hu; subst hu; rfl) (by unfold maxLen; omega) (by omega) (by simp; omega) ?_; intro v' w1 hown' hgrow hnil) | (go_at_call 86; refine Calls.mono PL ?_; rintro e w' ⟨rfl, rfl⟩))
          go_ret
          exact ⟨v', rfl, HE.out ▸ app_step [bb] rfl (by show _ = [byteV bb]; rw [HV.out]) hB hown hown' hgrow⟩

/-- Text between quotes, as it is written. -/
def quoteL (a : Nat) (l : List UInt8) : List UInt8 := l.flatMap (fun c => escB a c.toNat)

theorem quote_step (s : ByteArray) (a j : Nat) (h : j < s.size) : quoteL a (s.data.toList.take (j + 1)) = quoteL a (s.data.toList.take j) ++ escB a s[j].toNat := by
  rw [List.take_succ_eq_append_getElem (by simpa using h)]
  simp [quoteL]
  rfl
theorem quote_len (a : Nat) (l : List UInt8) : (quoteL a l).length ≤ 4 * l.length := by
  induction l with
  | nil => simp [quoteL]
  | cons c r ih =>
    have := escB_len a c.toNat
    simp [quoteL] at ih ⊢
    omega

set_option maxHeartbeats 2000000 in
set_option maxRecDepth 10000 in
theorem writeQuoted_any (v : Value) (t : List UInt8) (s : ByteArray) (a B : Nat) (w : World) (ha : a < 256) (hs : s.size ≤ 65536) (hB : B ≤ w.heap.size) (hl : t.length ≤ 100000000) (hown : w.ownsRow B 5 1 v t.length (t.map byteV)) :
    Calls Tryz.prog 67 #[v, .string s, .int .u8 a] w fun e w' => ∃ v', e = .returned v' ∧ Grew B w w' v' (t ++ [a.toUInt8] ++ quoteL a s.data.toList ++ [a.toUInt8]) := by
  obtain ⟨i0, hi, hz0, hz1, hz2⟩ := info_parts Tryz.info5
  have HV : Hid (byteV a.toUInt8 = .int .u8 (a : Int)) := byteV_toUInt8 ha
  generalize a.toUInt8 = aa at HV ⊢
  go_enter Tryz.func67, Tryz.ntmps67
  go_wp2_with (at_builtin; refine wpList_append_own _ rfl _ _ 63 rfl B 5 i0 (.int .u8 0) 1 1 Tryz.underlying63 hi hz0 hz1 hz2 rfl (by decide) _ _ _ rfl (hown.alloc _) ⟨w.heap.size, 0, none⟩ 1 1 [.int .u8 (a : Int)] rfl rfl (cells_new _ _) (by intro u hu; simp at hu; subst hu; rfl) (by unfold maxLen; omega) (by omega) (by simp; omega) ?_; intro v1 w1 hown' hgrow hnil; have G1 := app_step [aa] rfl (by show _ = [byteV aa]; rw [HV.out]) hB hown hown' hgrow; clear hown' hgrow hnil hown)
  have hB1 : B ≤ w1.heap.size := by have := G1.bel.size; omega
  go_loopw [0, 14] (fun u i wr => ∃ j : Nat, j ≤ s.size ∧ i = .int .i64 j ∧ Grew B w wr u (t ++ [aa] ++ quoteL a (s.data.toList.take j))) (fun _ i _ => s.size - (intOf i).toNat)
  case atStart => exact ⟨0, by omega, by go_num, by simpa [quoteL] using G1⟩
  case round =>
    obtain ⟨j, hj, rfl, G⟩ := hrel
    have hlen := quote_len a (s.data.toList.take j)
    have hlen2 : (s.data.toList.take j).length ≤ j := List.length_take_le _ _
    have hBr : B ≤ wr.heap.size := by have := G.bel.size; omega
    by_cases hlt : j < s.size
    · have WB := writeByte_any u0 (t ++ [aa] ++ quoteL a (s.data.toList.take j)) a s[j].toNat B wr (s[j].toNat_lt) ha hBr (by simp; omega) G.own
      have HQ : Hid (quoteL a (s.data.toList.take (j + 1)) = quoteL a (s.data.toList.take j) ++ escB a s[j].toNat) := quote_step s a j hlt
      go_wp2_with (go_at_call 82; refine Calls.mono WB ?_; rintro e w2 ⟨v2, rfl, G2⟩)
      go_roundw
      case rel => exact ⟨j + 1, by omega, by go_num, by rw [HQ.out, ← List.append_assoc]; exact ⟨G2.own, G.bel.trans G2.bel⟩⟩
      case measure => simp [intOf]; omega
    · have HQ : Hid (s.data.toList.take j = s.data.toList) := List.take_of_length_le (by simp; omega)
      have hown := G.own
      go_wp2_with (at_builtin; refine wpList_append_own _ rfl _ _ 63 rfl B 5 i0 (.int .u8 0) 1 1 Tryz.underlying63 hi hz0 hz1 hz2 rfl (by decide) _ _ _ rfl (hown.alloc _) _ 1 1 [.int .u8 (a : Int)] rfl rfl (cells_new _ _) (by intro u hu; simp at hu; subst hu; rfl) (by unfold maxLen; simp; omega) (by simp; omega) (by simp; omega) ?_; intro v3 w3 hown' hgrow hnil)
      go_ret
      have G3 := app_step [aa] rfl (by show _ = [byteV aa]; rw [HV.out]) hBr hown hown' hgrow
      rw [HQ.out] at G3
      exact ⟨_, rfl, G3.own, G.bel.trans G3.bel⟩
end Go.Proofs.YtkfhdmkdkphmoaaGreatDoor
