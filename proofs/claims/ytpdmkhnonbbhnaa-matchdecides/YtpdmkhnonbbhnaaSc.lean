/- split: the spots that a case is of, and all others. -/
import Derived.Test.YtpdmkhnonbbhnaaMcx
import Derived.Test.YtpdmkhnonbbhnaaMb
namespace Go.Proofs.Ytpdmkhnonbbhnaa
open Go.RowKit

theorem Try.info106' : (Try.prog.info? 106).map (fun i => (i.zero, i.size, i.bytes)) = some (some (.agg #[.int .i64 0, .pointer none]), 2, 16) := by kernel_rfl
/-- A case without its tree. -/
def csV (c : Cs) : Value := .agg #[.string ⟨c.1.toArray⟩, .int .i64 c.2, .int .i64 0, .int .i64 0, .slice none 0 0, .slice none 0 0, .slice none 0 0]
theorem bytes_list (n : List UInt8) : (⟨n.toArray⟩ : ByteArray).toList = n := by rw [ByteArray.toList_eq]
theorem filter_snoc {α : Type} (p : α → Bool) (l : List α) (i : Nat) (h : i < l.length) : (l.take (i + 1)).filter p = (l.take i).filter p ++ (if p l[i] then [l[i]] else []) := by
  rw [List.take_add_one, List.getElem?_eq_getElem h, List.filter_append]
  congr 1
  simp only [Option.toList_some, List.filter_cons, List.filter_nil]
set_option maxHeartbeats 4000000 in
set_option maxRecDepth 10000 in
theorem split_any {w : World} {S : Nat → Prop} (sv : Value) (spots : List Sp) (c : Cs) (hS : ∀ b, S b → b < w.heap.size) (hp : Spots w S sv spots) (hbig : spots.length ≤ 200) :
    Calls Try.prog 46 #[sv, csV c] w fun r w' => Below w.heap.size w w' ∧ ∃ a b, r = .returned (.tuple #[a, b]) ∧ Spots w' (fun b => S b ∨ (w.heap.size ≤ b ∧ b < w'.heap.size)) a (spots.filter (isOf c)) ∧ Spots w' (fun b => S b ∨ (w.heap.size ≤ b ∧ b < w'.heap.size)) b (spots.filter fun s => !isOf c s) := by
  obtain ⟨L, hL, hrow, hpat⟩ := hp.list
  have hlen : L.length ≤ 200 := by rw [← hL, List.length_map] at hbig; exact hbig
  have hW : ∃ W, W = w.alloc (Obj.cells #[.string ⟨c.1.toArray⟩, .int .i64 c.2, .int .i64 0, .int .i64 0, .slice none 0 0, .slice none 0 0, .slice none 0 0] 53) ∧ Below w.heap.size w W ∧ W.heap.size = w.heap.size + 1 ∧ W.cell? ⟨w.heap.size, 0, none⟩ = some (.string ⟨c.1.toArray⟩) ∧ W.cell? ⟨w.heap.size, 1, none⟩ = some (.int .i64 c.2) := ⟨_, rfl, (Below.refl _ _).alloc (Nat.le_refl _) _, by simp, heap_cell' (new_block' w _) rfl, heap_cell' (new_block' w _) rfl⟩
  obtain ⟨W, hW, hbW, hsW, d0, d1⟩ := hW
  have HbW : Hid (Below w.heap.size w W ∧ W.heap.size = w.heap.size + 1 ∧ W.cell? ⟨w.heap.size, 0, none⟩ = some (.string ⟨c.1.toArray⟩) ∧ W.cell? ⟨w.heap.size, 1, none⟩ = some (.int .i64 c.2)) := ⟨hbW, hsW, d0, d1⟩
  have HEND : Hid (∀ (a b : Value) (w' : World), Two W (w.heap.size + 1) (L.filter fun s => isOf c (sS s)) (L.filter fun s => !isOf c (sS s)) a b w' → Below w.heap.size w w' ∧ ∃ a' b', Ending.returned (.tuple #[a, b]) = .returned (.tuple #[a', b']) ∧ Spots w' (fun b => S b ∨ (w.heap.size ≤ b ∧ b < w'.heap.size)) a' (spots.filter (isOf c)) ∧ Spots w' (fun b => S b ∨ (w.heap.size ≤ b ∧ b < w'.heap.size)) b' (spots.filter fun s => !isOf c s)) := fun a b w' h => by
    have hbb : Below w.heap.size w w' := hbW.trans (h.below.mono (by omega))
    have hk : Keeps S w w' := Keeps.of hbb hS
    refine ⟨hbb, a, b, rfl, ?_, ?_⟩
    · have := (spots_own h.fst (fun s hs => (hpat s (List.mem_filter.1 hs).1).on hk)).up (S' := fun b => S b ∨ (w.heap.size ≤ b ∧ b < w'.heap.size)) (fun b hb => hb.imp_right fun e => by have := h.fst.lt b e; omega)
      rw [← hL, List.filter_map]
      exact this
    · have := (spots_own h.snd (fun s hs => (hpat s (List.mem_filter.1 hs).1).on hk)).up (S' := fun b => S b ∨ (w.heap.size ≤ b ∧ b < w'.heap.size)) (fun b hb => hb.imp_right fun e => by have := h.snd.lt b e; omega)
      rw [← hL, List.filter_map]
      exact this
  have HPAT : Hid (∀ s ∈ L, PtP w S s.2.1 s.2.2.1 s.2.2.2) := hpat
  have HS : Hid (∀ b, S b → b < w.heap.size) := hS
  obtain ⟨ad, cap, rfl, hrow2⟩ := hrow.open
  have HROW : Hid (L ≠ [] → ∃ g o, ad = some ⟨g, o, none⟩ ∧ L.length ≤ cap ∧ ∀ j (h : j < L.length), S g ∧ w.cell? ⟨g, o + j * 2, none⟩ = some (.int .i64 L[j].1) ∧ w.cell? ⟨g, o + j * 2 + 1, none⟩ = some (.pointer (some ⟨L[j].2.1, L[j].2.2.1, none⟩))) := hrow2
  clear hrow hrow2 hpat hS hL hbig hp hbW hsW d0 d1
  unfold csV
  generalize hcb : (⟨c.1.toArray⟩ : ByteArray) = cb at *
  have HCB : Hid ((⟨c.1.toArray⟩ : ByteArray) = cb) := hcb
  generalize hcm : c.2 = cm at *
  have HCM : Hid (c.2 = cm) := hcm
  clear hcb hcm
  have HT0 : Hid (Two W (w.heap.size + 1) [] [] (.slice none 0 0) (.slice none 0 0) W) := Two.start W _
  go_enter Try.func46, Try.ntmps46
  go_upto_region 1 with fail
  rw [← hW]
  clear hW
  go_wp2
  go_loopw [4, 5, 10] (fun av bv iv wr => ∃ i : Nat, i ≤ L.length ∧ iv = .int .i64 i ∧ Hid (Two W (w.heap.size + 1) ((L.take i).filter fun s => isOf c (sS s)) ((L.take i).filter fun s => !isOf c (sS s)) av bv wr)) (fun _ _ iv _ => L.length - (intOf iv).toNat)
  case atStart => exact ⟨0, by omega, by go_num, HT0.out⟩
  case round =>
    obtain ⟨i, hi, rfl, HT⟩ := hrel
    have HB : Hid (Below (w.heap.size + 1) W wr) := HT.out.below
    by_cases hil : i < L.length
    · obtain ⟨g, o, rfl, hc, hr⟩ := HROW.out (fun e => by rw [e] at hil; simp at hil)
      obtain ⟨s0, q1, q2⟩ := hr i hil
      have HBw : Hid (Below w.heap.size w wr) := HbW.out.1.trans (HB.out.mono (by omega))
      have hk := Keeps.of HBw.out HS.out
      have q1 := (hk.cell (p := ⟨g, o + i * 2, none⟩) s0).trans q1
      have q2 := (hk.cell (p := ⟨g, o + i * 2 + 1, none⟩) s0).trans q2
      obtain ⟨hp0, _, t1, t2, _, _⟩ := ((HPAT.out L[i] (List.getElem_mem hil)).on hk).open
      have hsz : w.heap.size < wr.heap.size := by have := HB.out.size; have := HbW.out.2.1; omega
      have hpg : L[i].2.1 < wr.heap.size := by have := HS.out _ hp0; omega
      have d0 := (HB.out.cell (p := ⟨w.heap.size, 0, none⟩) (by simp)).trans HbW.out.2.2.1
      have d1 := (HB.out.cell (p := ⟨w.heap.size, 1, none⟩) (by simp)).trans HbW.out.2.2.2
      have i1 : (0 : Int) ≤ (i : Int) := by omega
      have i2 : (i : Int) < (L.length : Int) := by omega
      go_upto_region 4 with fail
      have hW1 : ∃ W1, W1 = wr.alloc (Obj.cells #[.int .i64 L[i].1, .pointer (some ⟨L[i].2.1, L[i].2.2.1, none⟩)] 106) ∧ Below wr.heap.size wr W1 ∧ W1.heap.size = wr.heap.size + 1 ∧ W1.cell? ⟨wr.heap.size, 0, none⟩ = some (.int .i64 L[i].1) ∧ W1.cell? ⟨wr.heap.size, 1, none⟩ = some (.pointer (some ⟨L[i].2.1, L[i].2.2.1, none⟩)) := ⟨_, rfl, (Below.refl _ _).alloc (Nat.le_refl _) _, by simp, heap_cell' (new_block' wr _) rfl, heap_cell' (new_block' wr _) rfl⟩
      obtain ⟨W1, hW1, hb1, hs1, x0, x1⟩ := hW1
      rw [← hW1]
      clear hW1
      have t1 := (hb1.cell (p := ⟨L[i].2.1, L[i].2.2.1 + 1, none⟩) hpg).trans t1
      have t2 := (hb1.cell (p := ⟨L[i].2.1, L[i].2.2.1 + 2, none⟩) hpg).trans t2
      have d0 := (hb1.cell (p := ⟨w.heap.size, 0, none⟩) hsz).trans d0
      have d1 := (hb1.cell (p := ⟨w.heap.size, 1, none⟩) hsz).trans d1
      have HB1 : Hid (Below (w.heap.size + 1) W W1) := HB.out.trans (hb1.mono (by omega))
      have HT1 : Hid (Two W (w.heap.size + 1) ((L.take i).filter fun s => isOf c (sS s)) ((L.take i).filter fun s => !isOf c (sS s)) u4 u5 W1) := HT.out.on (by have := HbW.out.2.1; omega) hb1
      have HS1 : Hid (W1.heap.size = wr.heap.size + 1) := hs1
      have e1 := filter_snoc (fun s => isOf c (sS s)) L i hil
      have e2 := filter_snoc (fun s => !isOf c (sS s)) L i hil
      have HE : Hid (((L.take (i + 1)).filter (fun s => isOf c (sS s)) = (L.take i).filter (fun s => isOf c (sS s)) ++ if isOf c (sS L[i]) then [L[i]] else []) ∧ (L.take (i + 1)).filter (fun s => !isOf c (sS s)) = (L.take i).filter (fun s => !isOf c (sS s)) ++ if !isOf c (sS L[i]) then [L[i]] else []) := ⟨e1, e2⟩
      have his : isOf c (sS L[i]) = if c.1 = [] then L[i].2.2.2.num == cm else L[i].2.2.2.name == c.1 := by rw [← HCM.out]; rfl
      have hl1 : ((L.take i).filter fun s => isOf c (sS s)).length ≤ 200 := Nat.le_trans (List.length_filter_le _ _) (by rw [List.length_take]; omega)
      have hl2 : ((L.take i).filter fun s => !isOf c (sS s)).length ≤ 200 := Nat.le_trans (List.length_filter_le _ _) (by rw [List.length_take]; omega)
      obtain ⟨i0, hi0, hz0, hz1, hz2⟩ := info_parts Try.info106'
      have hown1 := HT1.out.fst
      have hown2 := HT1.out.snd
      have hbw2 : w.heap.size ≤ W1.heap.size := by omega
      have hX : wr.heap.size < W1.heap.size := by omega
      have HSE : Hid (sE L[i] = [.int .i64 L[i].1, .pointer (some ⟨L[i].2.1, L[i].2.2.1, none⟩)]) := rfl
      clear hk q1 q2 HPAT hs1 e1 e2 hb1 hr
      generalize hRes : isOf c (sS L[i]) = res at *
      clear hRes
      generalize L[i].2.2.2.num = nu at *
      generalize L[i].2.2.2.name = na at *
      generalize hA : (L.take i).filter (fun s => isOf c (sS s)) = A at *
      generalize hB : (L.take i).filter (fun s => !isOf c (sS s)) = B at *
      clear hA hB HT
      clear hown1 hown2
      by_cases hc0 : c.1 = []
      · rw [if_pos hc0] at his
        have hce : cb.toList.isEmpty = true := by rw [← HCB.out, hc0, bytes_list]; rfl
        by_cases hn : nu = cm
        · obtain rfl : res = true := by rw [his]; simpa using hn
          have hq : (nu == cm) = true := by simpa using hn
          clear his hn hc0
          go_quiet (fail)
          generalize hw3 : W1.drewN _ = W3
          have HW3 : Hid (Below W1.heap.size W1 W3 ∧ W3.heap.size = W1.heap.size) := by rw [← hw3]; exact ⟨⟨rfl, rfl, rfl, Nat.le_refl _, fun _ _ => rfl⟩, rfl⟩
          have y0 := (HW3.out.1.cell (p := ⟨wr.heap.size, 0, none⟩) hX).trans x0
          have y1 := (HW3.out.1.cell (p := ⟨wr.heap.size, 1, none⟩) hX).trans x1
          have HT3 : Hid (Two W (w.heap.size + 1) A B u4 u5 W3) := HT1.out.on (by have := HbW.out.2.1; omega) HW3.out.1
          have hown3 := HT3.out.fst
          have hb3 : w.heap.size + 1 ≤ W3.heap.size := by have := HW3.out.2; have := HS1.out; omega
          clear hw3 x0 x1 t1 t2 d0 d1
          go_wp2_with (at_builtin; refine wpList_append_lies _ rfl _ _ 89 rfl (w.heap.size + 1) 106 i0 _ 2 16 Try.underlying89 hi0 hz0 hz1 hz2 rfl (by decide) _ _ _ rfl (hown3.alloc _) ⟨W3.heap.size, 0, none⟩ 1 1 [.int .i64 L[i].1, .pointer (some ⟨L[i].2.1, L[i].2.2.1, none⟩)] rfl rfl (World.news_of_block (new_block' W3 _)) (by intro u hu; simp at hu; rcases hu with rfl | rfl <;> rfl) (by omega) (by unfold maxLen; omega) (by omega) (by simp; omega) (W3.heap.size + 1) (by simp) ?_; intro g' cap' W4 hown4 hgr4 hat4 hlt4)
          have HT4 := HT3.out.put1 (s := L[i]) (by have := HbW.out.2.1; omega) hown4 hgr4 hat4 (by omega)
          have HT5 : Hid (Two W (w.heap.size + 1) ((L.take (i + 1)).filter fun s => isOf c (sS s)) ((L.take (i + 1)).filter fun s => !isOf c (sS s)) (.slice (some ⟨g', 0, none⟩) (A.length + 1) cap') u5 W4) := by
            show Two _ _ _ _ _ _ _
            rw [HE.out.1, HE.out.2]
            simpa using HT4
          clear hown4 hgr4 hat4 hlt4 hown3 HT4
          go_wp2
          go_roundw
          case rel => exact ⟨i + 1, hil, by go_num, HT5.out⟩
          case measure => simp [intOf]; omega
        · obtain rfl : res = false := by rw [his]; simpa using hn
          have hq : (nu == cm) = false := by simpa using hn
          clear his hn hc0
          go_quiet (fail)
          generalize hw3 : W1.drewN _ = W3
          have HW3 : Hid (Below W1.heap.size W1 W3 ∧ W3.heap.size = W1.heap.size) := by rw [← hw3]; exact ⟨⟨rfl, rfl, rfl, Nat.le_refl _, fun _ _ => rfl⟩, rfl⟩
          have y0 := (HW3.out.1.cell (p := ⟨wr.heap.size, 0, none⟩) hX).trans x0
          have y1 := (HW3.out.1.cell (p := ⟨wr.heap.size, 1, none⟩) hX).trans x1
          have HT3 : Hid (Two W (w.heap.size + 1) A B u4 u5 W3) := HT1.out.on (by have := HbW.out.2.1; omega) HW3.out.1
          have hown3 := HT3.out.snd
          have hb3 : w.heap.size + 1 ≤ W3.heap.size := by have := HW3.out.2; have := HS1.out; omega
          clear hw3 x0 x1 t1 t2 d0 d1
          go_wp2_with (at_builtin; refine wpList_append_lies _ rfl _ _ 89 rfl (w.heap.size + 1) 106 i0 _ 2 16 Try.underlying89 hi0 hz0 hz1 hz2 rfl (by decide) _ _ _ rfl (hown3.alloc _) ⟨W3.heap.size, 0, none⟩ 1 1 [.int .i64 L[i].1, .pointer (some ⟨L[i].2.1, L[i].2.2.1, none⟩)] rfl rfl (World.news_of_block (new_block' W3 _)) (by intro u hu; simp at hu; rcases hu with rfl | rfl <;> rfl) (by omega) (by unfold maxLen; omega) (by omega) (by simp; omega) (W3.heap.size + 1) (by simp) ?_; intro g' cap' W4 hown4 hgr4 hat4 hlt4)
          have HT4 := HT3.out.swap.put1 (s := L[i]) (by have := HbW.out.2.1; omega) hown4 hgr4 hat4 (by omega)
          have HT5 : Hid (Two W (w.heap.size + 1) ((L.take (i + 1)).filter fun s => isOf c (sS s)) ((L.take (i + 1)).filter fun s => !isOf c (sS s)) u4 (.slice (some ⟨g', 0, none⟩) (B.length + 1) cap') W4) := by
            show Two _ _ _ _ _ _ _
            rw [HE.out.1, HE.out.2]
            simpa using HT4.swap
          clear hown4 hgr4 hat4 hlt4 hown3 HT4
          go_wp2
          go_roundw
          case rel => exact ⟨i + 1, hil, by go_num, HT5.out⟩
          case measure => simp [intOf]; omega
      · rw [if_neg hc0] at his
        have hce : cb.toList.isEmpty = false := by rw [← HCB.out, bytes_list]; simpa using hc0
        by_cases hn : na = c.1
        · obtain rfl : res = true := by rw [his]; simpa using hn
          rw [hn, HCB.out] at t1
          have hq : (cb.toList == cb.toList) = true := by simp
          clear his hn hc0
          go_quiet (fail)
          generalize hw3 : W1.drewN _ = W3
          have HW3 : Hid (Below W1.heap.size W1 W3 ∧ W3.heap.size = W1.heap.size) := by rw [← hw3]; exact ⟨⟨rfl, rfl, rfl, Nat.le_refl _, fun _ _ => rfl⟩, rfl⟩
          have y0 := (HW3.out.1.cell (p := ⟨wr.heap.size, 0, none⟩) hX).trans x0
          have y1 := (HW3.out.1.cell (p := ⟨wr.heap.size, 1, none⟩) hX).trans x1
          have HT3 : Hid (Two W (w.heap.size + 1) A B u4 u5 W3) := HT1.out.on (by have := HbW.out.2.1; omega) HW3.out.1
          have hown3 := HT3.out.fst
          have hb3 : w.heap.size + 1 ≤ W3.heap.size := by have := HW3.out.2; have := HS1.out; omega
          clear hw3 x0 x1 t1 t2 d0 d1
          go_wp2_with (at_builtin; refine wpList_append_lies _ rfl _ _ 89 rfl (w.heap.size + 1) 106 i0 _ 2 16 Try.underlying89 hi0 hz0 hz1 hz2 rfl (by decide) _ _ _ rfl (hown3.alloc _) ⟨W3.heap.size, 0, none⟩ 1 1 [.int .i64 L[i].1, .pointer (some ⟨L[i].2.1, L[i].2.2.1, none⟩)] rfl rfl (World.news_of_block (new_block' W3 _)) (by intro u hu; simp at hu; rcases hu with rfl | rfl <;> rfl) (by omega) (by unfold maxLen; omega) (by omega) (by simp; omega) (W3.heap.size + 1) (by simp) ?_; intro g' cap' W4 hown4 hgr4 hat4 hlt4)
          have HT4 := HT3.out.put1 (s := L[i]) (by have := HbW.out.2.1; omega) hown4 hgr4 hat4 (by omega)
          have HT5 : Hid (Two W (w.heap.size + 1) ((L.take (i + 1)).filter fun s => isOf c (sS s)) ((L.take (i + 1)).filter fun s => !isOf c (sS s)) (.slice (some ⟨g', 0, none⟩) (A.length + 1) cap') u5 W4) := by
            show Two _ _ _ _ _ _ _
            rw [HE.out.1, HE.out.2]
            simpa using HT4
          clear hown4 hgr4 hat4 hlt4 hown3 HT4
          go_wp2
          go_roundw
          case rel => exact ⟨i + 1, hil, by go_num, HT5.out⟩
          case measure => simp [intOf]; omega
        · obtain rfl : res = false := by rw [his]; simpa using hn
          have hq : ((⟨na.toArray⟩ : ByteArray).toList == cb.toList) = false := by rw [← HCB.out, bytes_list, bytes_list]; simpa using hn
          generalize (⟨na.toArray⟩ : ByteArray) = nb at *
          clear his hn hc0
          go_quiet (fail)
          generalize hw3 : W1.drewN _ = W3
          have HW3 : Hid (Below W1.heap.size W1 W3 ∧ W3.heap.size = W1.heap.size) := by rw [← hw3]; exact ⟨⟨rfl, rfl, rfl, Nat.le_refl _, fun _ _ => rfl⟩, rfl⟩
          have y0 := (HW3.out.1.cell (p := ⟨wr.heap.size, 0, none⟩) hX).trans x0
          have y1 := (HW3.out.1.cell (p := ⟨wr.heap.size, 1, none⟩) hX).trans x1
          have HT3 : Hid (Two W (w.heap.size + 1) A B u4 u5 W3) := HT1.out.on (by have := HbW.out.2.1; omega) HW3.out.1
          have hown3 := HT3.out.snd
          have hb3 : w.heap.size + 1 ≤ W3.heap.size := by have := HW3.out.2; have := HS1.out; omega
          clear hw3 x0 x1 t1 t2 d0 d1
          go_wp2_with (at_builtin; refine wpList_append_lies _ rfl _ _ 89 rfl (w.heap.size + 1) 106 i0 _ 2 16 Try.underlying89 hi0 hz0 hz1 hz2 rfl (by decide) _ _ _ rfl (hown3.alloc _) ⟨W3.heap.size, 0, none⟩ 1 1 [.int .i64 L[i].1, .pointer (some ⟨L[i].2.1, L[i].2.2.1, none⟩)] rfl rfl (World.news_of_block (new_block' W3 _)) (by intro u hu; simp at hu; rcases hu with rfl | rfl <;> rfl) (by omega) (by unfold maxLen; omega) (by omega) (by simp; omega) (W3.heap.size + 1) (by simp) ?_; intro g' cap' W4 hown4 hgr4 hat4 hlt4)
          have HT4 := HT3.out.swap.put1 (s := L[i]) (by have := HbW.out.2.1; omega) hown4 hgr4 hat4 (by omega)
          have HT5 : Hid (Two W (w.heap.size + 1) ((L.take (i + 1)).filter fun s => isOf c (sS s)) ((L.take (i + 1)).filter fun s => !isOf c (sS s)) u4 (.slice (some ⟨g', 0, none⟩) (B.length + 1) cap') W4) := by
            show Two _ _ _ _ _ _ _
            rw [HE.out.1, HE.out.2]
            simpa using HT4.swap
          clear hown4 hgr4 hat4 hlt4 hown3 HT4
          go_wp2
          go_roundw
          case rel => exact ⟨i + 1, hil, by go_num, HT5.out⟩
          case measure => simp [intOf]; omega
    · obtain rfl : i = L.length := by omega
      have HT2 : Hid (Two W (w.heap.size + 1) (L.filter fun s => isOf c (sS s)) (L.filter fun s => !isOf c (sS s)) u4 u5 wr) := by
        have := HT.out
        rwa [List.take_length] at this
      go_wp2
      refine bodyPost_ret (v := .tuple #[u4, u5]) (by simp [results, Try.results46, go_sem]) rfl ?_
      exact HEND.out _ _ _ HT2.out
end Go.Proofs.Ytpdmkhnonbbhnaa
