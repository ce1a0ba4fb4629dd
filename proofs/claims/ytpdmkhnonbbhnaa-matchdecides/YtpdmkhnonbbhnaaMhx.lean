/- of: the spots of some rows. familyOf, isFull. -/
import Derived.Test.YtpdmkhnonbbhnaaMgx
namespace Go.Proofs.Ytpdmkhnonbbhnaa
open Go.RowKit Go.Maps

set_option maxHeartbeats 4000000 in
set_option maxRecDepth 10000 in
theorem of_any {w : World} {S : Nat → Prop} (cb : Nat) (c : Col) (rv : Value) (rows : List Nat) (hS : ∀ b, S b → b < w.heap.size) (hc : ColP w S cb c) (hr : Nats w S rv rows) (hl : rows.length ≤ 200) (hb : c.2.2.length ≤ 200) (hs : rows.Pairwise (· < ·)) :
    Calls Try.prog 48 #[.pointer (some ⟨cb, 0, none⟩), rv] w fun r w' => Below w.heap.size w w' ∧ ∃ v, r = .returned v ∧ Spots w' (fun b => S b ∨ (w.heap.size ≤ b ∧ b < w'.heap.size)) v (ofRows c.2.2 rows) := by
  obtain ⟨hc0, _, _, ⟨ad, cap, hsp, hp⟩, _⟩ := hc
  generalize c.2.2 = spots at *
  obtain ⟨L, hL, hrow2, hpat⟩ := hp.list
  have hll : L.length = spots.length := by rw [← hL, List.length_map]
  rw [← hll] at hsp hb hrow2
  have HS : Hid (∀ b, S b → b < w.heap.size) := hS
  have HEND : Hid (∀ (a : Value) (w' : World), Two w w.heap.size (L.filter fun s => rows.contains s.1) [] a (.slice none 0 0) w' → Below w.heap.size w w' ∧ ∃ v, Ending.returned a = .returned v ∧ Spots w' (fun b => S b ∨ (w.heap.size ≤ b ∧ b < w'.heap.size)) v (ofRows spots rows)) := fun a w' h => by
    have hk : Keeps S w w' := Keeps.of h.below hS
    refine ⟨h.below, a, rfl, ?_⟩
    have := (spots_own h.fst (fun s hs => (hpat s (List.mem_filter.1 hs).1).on hk)).up (S' := fun b => S b ∨ (w.heap.size ≤ b ∧ b < w'.heap.size)) (fun b hb => hb.imp_right fun e => h.fst.lt b e)
    unfold ofRows
    rw [← hL, List.filter_map]
    exact this
  have HR : Hid (Nats w S rv rows ∧ rows.length ≤ 200 ∧ rows.Pairwise (· < ·)) := ⟨hr, hl, hs⟩
  rcases hrow2.open with ⟨ad', cap', e, hrow3⟩
  obtain ⟨rfl, rfl⟩ : ad = ad' ∧ cap = cap' := by simpa using e
  have HROW : Hid (L ≠ [] → ∃ g o, ad = some ⟨g, o, none⟩ ∧ L.length ≤ cap ∧ ∀ j (h : j < L.length), S g ∧ w.cell? ⟨g, o + j * 2, none⟩ = some (.int .i64 L[j].1) ∧ w.cell? ⟨g, o + j * 2 + 1, none⟩ = some (.pointer (some ⟨L[j].2.1, L[j].2.2.1, none⟩))) := hrow3
  clear hrow2 hrow3 hpat hS hL hp hr hs hl hll e hc0
  go_enter Try.func48, Try.ntmps48
  go_wp2
  go_loopw [5, 15] (fun av iv wr => ∃ i : Nat, i ≤ L.length ∧ iv = .int .i64 i ∧ Hid (Two w w.heap.size ((L.take i).filter fun s => rows.contains s.1) [] av (.slice none 0 0) wr)) (fun _ iv _ => L.length - (intOf iv).toNat)
  case atStart => exact ⟨0, by omega, by go_num, Two.start w _⟩
  case round =>
    obtain ⟨i, hi, rfl, HT⟩ := hrel
    by_cases hil : i < L.length
    · obtain ⟨g, o, rfl, hc, hr⟩ := HROW.out (fun e => by rw [e] at hil; simp at hil)
      obtain ⟨s0, q1, q2⟩ := hr i hil
      have hk := Keeps.of HT.out.below HS.out
      have q1 := (hk.cell (p := ⟨g, o + i * 2, none⟩) s0).trans q1
      have q2 := (hk.cell (p := ⟨g, o + i * 2 + 1, none⟩) s0).trans q2
      have hsz := HT.out.below.size
      have i1 : (0 : Int) ≤ (i : Int) := by omega
      have i2 : (i : Int) < (L.length : Int) := by omega
      go_upto_region 5 with fail
      have hW1 : ∃ W1, W1 = wr.alloc (Obj.cells #[.int .i64 L[i].1, .pointer (some ⟨L[i].2.1, L[i].2.2.1, none⟩)] 106) ∧ Below wr.heap.size wr W1 ∧ W1.heap.size = wr.heap.size + 1 ∧ W1.cell? ⟨wr.heap.size, 0, none⟩ = some (.int .i64 L[i].1) ∧ W1.cell? ⟨wr.heap.size, 1, none⟩ = some (.pointer (some ⟨L[i].2.1, L[i].2.2.1, none⟩)) := ⟨_, rfl, (Below.refl _ _).alloc (Nat.le_refl _) _, by simp, heap_cell' (new_block' wr _) rfl, heap_cell' (new_block' wr _) rfl⟩
      obtain ⟨W1, hW1, hb1, hs1, x0, x1⟩ := hW1
      rw [← hW1]
      clear hW1
      have CB := search_any (w := W1) rv rows L[i].1 ((HR.out.1.on hk).on (Keeps.of hb1 fun b hb => by have := HS.out b hb; omega)) (by have := HR.out.2.1; omega) HR.out.2.2
      have HB1 : Hid (Below wr.heap.size wr W1 ∧ W1.heap.size = wr.heap.size + 1) := ⟨hb1, hs1⟩
      have hX : wr.heap.size < W1.heap.size := by omega
      have HE : Hid ((L.take (i + 1)).filter (fun s => rows.contains s.1) = (L.take i).filter (fun s => rows.contains s.1) ++ if rows.contains L[i].1 then [L[i]] else []) := filter_snoc (fun (s : Sr) => rows.contains s.1) L i hil
      have hl1 : ((L.take i).filter fun s => rows.contains s.1).length ≤ 200 := Nat.le_trans (List.length_filter_le _ _) (by rw [List.length_take]; omega)
      obtain ⟨i0, hi0, hz0, hz1, hz2⟩ := info_parts Try.info106'
      clear hk q1 q2 hr hs1 hb1
      generalize rows.countP (· < L[i].1) = rc at CB
      generalize rows.contains L[i].1 = rb at CB HE
      cases rb with
      | false =>
        have HQ : Hid ((L.take (i + 1)).filter (fun s => rows.contains s.1) = (L.take i).filter (fun s => rows.contains s.1)) := by
          show _ = _
          rw [HE.out]
          simp
        go_wp2_with (first | (go_at_call 66; (with_reducible refine Calls.mono CB ?_); rintro e' w2 ⟨rfl, q, rfl⟩))
        have HT2 : Hid (Two w w.heap.size ((L.take (i + 1)).filter fun s => rows.contains s.1) [] u5 (.slice none 0 0) (W1.drewN q)) := by
          show Two _ _ _ _ _ _ _
          rw [HQ.out]
          exact (HT.out.on (Nat.le_refl _) HB1.out.1).on (Nat.le_refl _) ⟨rfl, rfl, rfl, Nat.le_refl _, fun _ _ => rfl⟩
        go_roundw
        case rel => exact ⟨i + 1, hil, by go_num, HT2.out⟩
        case measure => simp [intOf]; omega
      | true =>
        go_upto_region 7 with (first | (go_at_call 66; (with_reducible refine Calls.mono CB ?_); rintro e' w2 ⟨rfl, q, rfl⟩))
        have HT3 : Hid (Two w w.heap.size ((L.take i).filter fun s => rows.contains s.1) [] u5 (.slice none 0 0) (W1.drewN q)) := (HT.out.on (Nat.le_refl _) HB1.out.1).on (Nat.le_refl _) ⟨rfl, rfl, rfl, Nat.le_refl _, fun _ _ => rfl⟩
        have x0 : (W1.drewN q).cell? ⟨wr.heap.size, 0, none⟩ = some (.int .i64 L[i].1) := x0
        have x1 : (W1.drewN q).cell? ⟨wr.heap.size, 1, none⟩ = some (.pointer (some ⟨L[i].2.1, L[i].2.2.1, none⟩)) := x1
        have hszW : w.heap.size ≤ (W1.drewN q).heap.size := by have := HB1.out.2; show w.heap.size ≤ W1.heap.size; omega
        generalize W1.drewN q = W3 at *
        have hown3 := HT3.out.fst
        generalize hA : (L.take i).filter (fun s => rows.contains s.1) = A at *
        clear hA CB HT
        go_wp2_with (at_builtin; refine wpList_append_lies _ rfl _ _ 89 rfl w.heap.size 106 i0 _ 2 16 Try.underlying89 hi0 hz0 hz1 hz2 rfl (by decide) _ _ _ rfl (hown3.alloc _) ⟨W3.heap.size, 0, none⟩ 1 1 [.int .i64 L[i].1, .pointer (some ⟨L[i].2.1, L[i].2.2.1, none⟩)] rfl rfl (World.news_of_block (new_block' W3 _)) (by intro u hu; simp at hu; rcases hu with rfl | rfl <;> rfl) (by omega) (by unfold maxLen; omega) (by omega) (by simp; omega) (W3.heap.size + 1) (by simp) ?_; intro g' cap' W4 hown4 hgr4 hat4 hlt4)
        have HT4 := HT3.out.put1 (s := L[i]) (Nat.le_refl _) hown4 hgr4 hat4 (by omega)
        have HT5 : Hid (Two w w.heap.size ((L.take (i + 1)).filter fun s => rows.contains s.1) [] (.slice (some ⟨g', 0, none⟩) (A.length + 1) cap') (.slice none 0 0) W4) := by
          show Two _ _ _ _ _ _ _
          rw [HE.out]
          simpa using HT4
        clear hown4 hgr4 hat4 hlt4 hown3 HT4
        go_wp2
        go_roundw
        case rel => exact ⟨i + 1, hil, by go_num, HT5.out⟩
        case measure => simp [intOf]; omega
    · obtain rfl : i = L.length := by omega
      have HT2 : Hid (Two w w.heap.size (L.filter fun s => rows.contains s.1) [] u5 (.slice none 0 0) wr) := by
        have := HT.out
        rwa [List.take_length] at this
      go_wp2
      go_ret
      exact HEND.out _ _ HT2.out
end Go.Proofs.Ytpdmkhnonbbhnaa

namespace Go.Proofs.Ytpdmkhnonbbhnaa
open Go.RowKit Go.Maps

set_option maxRecDepth 100000 in
theorem fld0 (a b c : Int) (W : World) : (Instr.field 79 (.agg #[.int .i64 a, .int .i64 b, .int .i64 c]) 0).run Try.prog W = .ok (.int .i64 a) W := by
  rfl
set_option maxHeartbeats 4000000 in
set_option maxRecDepth 10000 in
theorem family_any {w : World} {S : Nat → Prop} {b : Nat} {k : Kn} (fa : Option Addr) (fs : List Fam) (fc : Nat) (con : Str) (hS : ∀ b, S b → b < w.heap.size) (hM : MapK w b k) (hF : Fams w S (.slice fa fs.length fc) fs) (hcon : con.length < 140737488355328) (hin : (looks k con).1 < fs.length) :
    Calls Try.prog 70 #[.agg #[.slice fa fs.length fc, .map (some b)], .string ⟨con.toArray⟩] w fun r w' => Below w.heap.size w w' ∧ ∃ ad cap ad' cap', r = .returned (.agg #[.slice ad fs[(looks k con).1].1.length cap, .slice ad' fs[(looks k con).1].2.length cap']) ∧ Strs w' S (.slice ad fs[(looks k con).1].1.length cap) fs[(looks k con).1].1 := by
  rcases hF with ⟨h0, _⟩ | ⟨g, o, cap0, e, _, hc, hj⟩
  · rw [h0] at hin; simp at hin
  obtain ⟨rfl, rfl⟩ : fa = some ⟨g, o, none⟩ ∧ fc = cap0 := by simpa using e
  obtain ⟨hg0, ⟨ad, cap, c0, hstr⟩, ad', cap', c1, _⟩ := hj (looks k con).1 hin
  have hg := hS _ hg0
  have HE : Hid (∀ w', Below w.heap.size w w' → Strs w' S (.slice ad fs[(looks k con).1].1.length cap) fs[(looks k con).1].1) := fun w' hb => hstr.on (Keeps.of hb hS)
  generalize fs[(looks k con).1] = f at *
  have hW : ∃ W, W = (w.alloc (Obj.cells #[.slice (some ⟨g, o, none⟩) fs.length fc, .map (some b)] 58)).alloc (Obj.cells #[.slice none 0 0, .slice none 0 0] 47) ∧ Below w.heap.size w W ∧ W.heap.size = w.heap.size + 2 ∧ W.cell? ⟨w.heap.size, 0, none⟩ = some (.slice (some ⟨g, o, none⟩) fs.length fc) ∧ W.cell? ⟨w.heap.size, 1, none⟩ = some (.map (some b)) ∧ W.heap[w.heap.size + 1]? = some (.cells #[.slice none 0 0, .slice none 0 0] 47 (0, 0)) := by
    refine ⟨_, rfl, ((Below.refl _ _).alloc (Nat.le_refl _) _).alloc (by simp) _, by simp, ?_, ?_, ?_⟩
    · exact heap_cell ((Below.heap_alloc _ _ _ (by simp)).trans (new_block w _)) rfl
    · exact heap_cell ((Below.heap_alloc _ _ _ (by simp)).trans (new_block w _)) rfl
    · have := new_block (w.alloc (Obj.cells #[.slice (some ⟨g, o, none⟩) fs.length fc, .map (some b)] 58)) (Obj.cells #[.slice none 0 0, .slice none 0 0] 47)
      rwa [show (w.alloc (Obj.cells #[.slice (some ⟨g, o, none⟩) fs.length fc, .map (some b)] 58)).heap.size = w.heap.size + 1 by simp] at this
  obtain ⟨W, hW, hbW, hsW, d0, d1, d2⟩ := hW
  have c0 := (hbW.cell (p := ⟨g, o + (looks k con).1 * 2, none⟩) hg).trans c0
  have c1 := (hbW.cell (p := ⟨g, o + (looks k con).1 * 2 + 1, none⟩) hg).trans c1
  have hMW : MapK W b k := hM.on (hbW.block b (Mv.lt hM))
  have hl := hMW.look1 con hcon
  unfold kV at hl
  have e0 := heap_cell d2 (i := 0) rfl
  have e1 := heap_cell d2 (i := 1) rfl
  have z0 := heap_frozen (o := 0) d2
  have z1 := heap_frozen (o := 1) d2
  have hi1 : (0 : Int) ≤ ((looks k con).1 : Int) := by omega
  have hi2 : ((looks k con).1 : Int) < (fs.length : Int) := by omega
  have hfl := fld0 (looks k con).1 (looks k con).2.1 (looks k con).2.2 W
  have HB : Hid (Below w.heap.size w W ∧ W.heap.size = w.heap.size + 2) := ⟨hbW, hsW⟩
  have hU : ∃ U, U = (W.setCell ⟨w.heap.size + 1, 0, none⟩ (.slice ad f.1.length cap)).setCell ⟨w.heap.size + 1, 1, none⟩ (.slice ad' f.2.length cap') ∧ Below w.heap.size w U ∧ U.cell? ⟨w.heap.size + 1, 0, none⟩ = some (.slice ad f.1.length cap) ∧ U.cell? ⟨w.heap.size + 1, 1, none⟩ = some (.slice ad' f.2.length cap') := by
    have h1 := setCell_block (i := 1) (v := .slice ad' f.2.length cap') (setCell_block (i := 0) (v := .slice ad f.1.length cap) d2)
    exact ⟨_, rfl, (hbW.setCell (p := ⟨w.heap.size + 1, 0, none⟩) (by simp) _).setCell (p := ⟨w.heap.size + 1, 1, none⟩) (by simp) _, heap_cell h1 rfl, heap_cell h1 rfl⟩
  obtain ⟨U, hU, hbU, s0, s1⟩ := hU
  have HBU : Hid (Below w.heap.size w U) := hbU
  generalize (looks k con).1 = l1 at *
  generalize (looks k con).2.1 = l2 at *
  generalize (looks k con).2.2 = l3 at *
  clear hM hMW hj hstr hbW hsW d2 hS e hin hbU
  go_enter Try.func70, Try.ntmps70
  go_upto_region 1 with fail
  rw [← hW]
  clear hW
  go_wp2
  rw [← hU]
  refine bodyPost_ret (v := .agg #[.slice ad f.1.length cap, .slice ad' f.2.length cap']) (by simp [results, Try.results70, go_sem, s0, s1]) rfl ?_
  exact ⟨HBU.out, ad, cap, ad', cap', rfl, HE.out _ HBU.out⟩
set_option maxRecDepth 100000 in
theorem fld47 (a : Option Addr) (b : Nat) (c : Option Addr) (d n m : Nat) (W : World) : (Instr.field 47 (.agg #[.slice a n b, .slice c m d]) 0).run Try.prog W = .ok (.slice a n b) W := by
  rfl
set_option maxHeartbeats 4000000 in
set_option maxRecDepth 10000 in
theorem full_any {w : World} {S : Nat → Prop} {b : Nat} {k : Kn} (fa : Option Addr) (fs : List Fam) (fc : Nat) (blk cap : Nat) (cs : List Cs) (hS : ∀ b, S b → b < w.heap.size) (hM : MapK w b k) (hF : Fams w S (.slice fa fs.length fc) fs) (hbl : blk < w.heap.size) (h0 : 0 < cs.length) (c0 : w.cell? ⟨blk, 0, none⟩ = some (.string ⟨cs[0].1.toArray⟩)) (hn : (cs[0].1).length < 140737488355328) (hin : cs[0].1 ≠ [] → (looks k cs[0].1).1 < fs.length) (hcl : cs.length ≤ 200) :
    Calls Try.prog 52 #[.agg #[.slice fa fs.length fc, .map (some b)], .slice (some ⟨blk, 0, none⟩) cs.length cap] w fun r w' => r = .returned (.bool (isFull k fs cs)) ∧ Below w.heap.size w w' := by
  have hW : ∃ W, W = w.alloc (Obj.cells #[.slice fa fs.length fc, .map (some b)] 58) ∧ Below w.heap.size w W ∧ W.heap.size = w.heap.size + 1 ∧ W.cell? ⟨w.heap.size, 0, none⟩ = some (.slice fa fs.length fc) ∧ W.cell? ⟨w.heap.size, 1, none⟩ = some (.map (some b)) := ⟨_, rfl, (Below.refl _ _).alloc (Nat.le_refl _) _, by simp, heap_cell' (new_block' w _) rfl, heap_cell' (new_block' w _) rfl⟩
  obtain ⟨W, hW, hbW, hsW, d0, d1⟩ := hW
  have c0 : W.cell? ⟨blk, 0, none⟩ = some (.string ⟨cs[0].1.toArray⟩) := (hbW.cell (p := ⟨blk, 0, none⟩) hbl).trans c0
  have HB : Hid (Below w.heap.size w W ∧ W.heap.size = w.heap.size + 1) := ⟨hbW, hsW⟩
  have z1 : (0 : Int) < (cs.length : Int) := by omega
  have hfull : isFull k fs cs = (cs[0].1 != [] && cs.length == (match fs[(looks k cs[0].1).1]? with | some f => f.1.length | none => 0)) := by
    cases cs with
    | nil => simp at h0
    | cons c r => rfl
  rw [hfull]
  by_cases he : cs[0].1 = []
  · have e1 : (⟨cs[0].1.toArray⟩ : ByteArray).toList.isEmpty = true := by rw [bytes_list, he]; rfl
    have hR : (cs[0].1 != [] && cs.length == (match fs[(looks k cs[0].1).1]? with | some f => f.1.length | none => 0)) = false := by
      have : (cs[0].1 != []) = false := by simpa using he
      rw [this, Bool.false_and]
    rw [hR]
    clear hR
    generalize (⟨cs[0].1.toArray⟩ : ByteArray) = cb at *
    clear hM hF hfull he hin hn hbW hsW hS
    go_enter Try.func52, Try.ntmps52
    go_upto_region 1 with fail
    rw [← hW]
    clear hW
    go_region
    all_goals
      go_wp2
      go_ret
      exact ⟨rfl, HB.out.1.drew⟩
  · have e1 : (⟨cs[0].1.toArray⟩ : ByteArray).toList.isEmpty = false := by rw [bytes_list]; simpa using he
    have hlt := hin he
    have CF := fun W' (hb : Below W.heap.size W W') => family_any (w := W') fa fs fc cs[0].1 (fun b hb' => by have := hS b hb'; have := hb.size; omega) (hM.on ((hb.block b (by have := Mv.lt hM; omega)).trans (hbW.block b (Mv.lt hM)))) ((hF.on (Keeps.of hbW hS)).on (Keeps.of hb fun b hb' => by have := hS b hb'; omega)) hn hlt
    rw [List.getElem?_eq_getElem hlt]
    have hne : (cs[0].1 != []) = true := by simpa using he
    rw [hne, Bool.true_and]
    generalize fs[(looks k cs[0].1).1] = f at *
    generalize (⟨cs[0].1.toArray⟩ : ByteArray) = cb at *
    have hX : w.heap.size < W.heap.size ∧ blk < W.heap.size := by omega
    have HR : Hid ((cs.length == f.1.length) = ((cs.length : Int) == (f.1.length : Int))) := by
      show _ = _
      rw [Bool.eq_iff_iff]
      simp
      omega
    have hRR : (match some f with | some f => f.1.length | none => 0) = f.1.length := rfl
    rw [hRR, HR.out]
    have HRR : Hid (((cs.length : Int) == (f.1.length : Int)) = ((cs.length : Int) == (f.1.length : Int))) := rfl
    generalize f.1.length = fn at *
    generalize f.2.length = fm at *
    have fl1 : ∀ a b c d W', (Instr.field 47 (.agg #[.slice a fn b, .slice c fm d]) 0).run Try.prog W' = .ok (.slice a fn b) W' := fun a b c d W' => fld47 a b c d fn fm W'
    clear hM hF hfull he hin hn hbW hsW hS hne HR hRR hlt
    go_enter Try.func52, Try.ntmps52
    go_upto_region 1 with fail
    rw [← hW]
    clear hW
    go_region_held3 (fun w' => w'.cell? ⟨w.heap.size, 0, none⟩ = some (.slice fa fs.length fc) ∧ w'.cell? ⟨w.heap.size, 1, none⟩ = some (.map (some b)) ∧ w'.cell? ⟨blk, 0, none⟩ = some (.string cb)) (first | exact ⟨d0, d1, c0⟩ | assumption | (have hk : ∀ p : Addr, p.block < W.heap.size → w1.cell? p = W.cell? p := fun p hp => hb1.cell hp; exact ⟨(hk _ hX.1).trans d0, (hk _ hX.1).trans d1, (hk _ hX.2).trans c0⟩) | go_keep)
      (first | (go_at_call 70; (with_reducible refine Calls.mono (CF _ ?_) ?_); exact (Below.refl _ _).drew; rintro e' w1 ⟨hb1, ad1, cp1, ad2, cp2, rfl, _⟩))
    all_goals
      have HB2 : Hid (Below w.heap.size w w1) := HB.out.1.trans ⟨hb1.os, hb1.tape, hb1.output, hb1.size, fun k hk => hb1.block k (Nat.lt_of_lt_of_le hk HB.out.1.size)⟩
      go_wp2
      go_ret
      exact ⟨rfl, HB2.out⟩
end Go.Proofs.Ytpdmkhnonbbhnaa
