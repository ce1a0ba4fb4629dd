/- The program's walk through a type's variables: eachVariable and variablesOf, for every loop's body. -/
import Derived.Test.YtgdflaapgfpdeaaGreatDoorMdx
import Derived.RangeFuncNested
import Derived.RangeFuncBound
import Derived.RangeFuncCalls
import Derived.RangeFuncLeaves
import Derived.Shelf.Abstract
import Derived.Shelf.RegionOpen
import Derived.OwnWalkIn
import Derived.TacticsInMore
import Derived.LoopNIn
import Derived.LoopIn
import Derived.Laws.ByValue
namespace Go.Proofs.YtgdflaapgfpdeaaGreatDoor
open Go.RowKit Go.Maps Go.Shelf
attribute [local go_sem] Oper.semAt_some

theorem room_none {F : Fence} (hd : F.depth = none) (k : Nat) : F.room k := fun d h => by rw [hd] at h; cases h
theorem round_any {F : Fence} (hd : F.depth = none) {m m' : Nat} {P : Program} {l : Nat} {f : FuncId} {tmps : Array Value} {assign body : Code} {w : World} {R : Ending → World → Prop}
    (h : RoundIn F m P l f tmps assign body w R) : RoundIn F m' P l f tmps assign body w R := ⟨h.1, fun c cs _ => h.2 c cs (room_none hd _)⟩
theorem yield_any {F : Fence} (hd : F.depth = none) {m : Nat} (m' : Nat) {P : Program} {l : Nat} {args : Array Value} {W : World} {R : Ending → World → Prop} (h : YieldAt F m P l args W R) : YieldAt F m' P l args W R := by
  obtain ⟨fn, tmps, assign, body, hy, hR⟩ := h
  exact ⟨fn, tmps, assign, body, hy, round_any hd hR⟩
/-- Names that a program can hold. -/
abbrev Nn := { x : List UInt8 // x.length < 140737488355328 }
theorem sub_list (l : List (List UInt8)) (h : ∀ n ∈ l, n.length < 140737488355328) : ∃ ys : List Nn, ys.map Subtype.val = l := by
  induction l with
  | nil => exact ⟨[], rfl⟩
  | cons a r ih =>
    obtain ⟨ys, e⟩ := ih fun n hn => h n (by simp [hn])
    exact ⟨⟨a, h a (by simp)⟩ :: ys, by simp [e]⟩
theorem names_short {w : World} {B : Nat} : ∀ (d : Nat) (x : Value) (t : Tn d), TyAt w B d x t → ∀ n ∈ namesT d t, n.length < 140737488355328
  | 0, _, _, h => h.elim
  | d + 1, x, ((k, m), ts), ⟨v, hx, h1, h2, hr⟩ => fun n hn => by
    by_cases hk : k = 2
    · subst hk
      rw [names_var] at hn
      rw [List.mem_singleton.1 hn]
      exact h1
    · rw [names_node _ _ _ _ hk] at hn
      obtain ⟨a, ha, hn⟩ := List.mem_flatMap.1 hn
      rcases hr with ⟨h0, _⟩ | ⟨g, o, cap, _, _, _, _, hj⟩
      · have h0 : ts = [] := h0
        rw [h0] at ha
        cases ha
      · obtain ⟨j, hj', rfl⟩ := List.getElem_of_mem ha
        obtain ⟨k', n', u, _, _, _, ht⟩ := hj j hj'
        exact names_short d _ _ ht n hn
set_option maxHeartbeats 4000000 in
set_option maxRecDepth 100000 in
theorem each_var (F : Fence) (hd : F.depth = none) (h51 : F.fn 74) (hro : F.round = none) (l n₀ B N : Nat) (J Jx : List Nn → World → Prop) (hJ : AbidesFrom B J)
    (hY : ∀ m pre x W, J pre W → pre.length < N → YieldAt F m Tryz.prog l #[.string ⟨x.1.toArray⟩] W fun e W' =>
      (e = .returned (.bool true) ∧ J (pre ++ [x]) W' ∧ Below n₀ W W') ∨ (e = .returned (.bool false) ∧ Jx (pre ++ [x]) W'))
    (n : List UInt8) (hn : n.length < 140737488355328) (ad : Option Addr) (len cap : Nat) (m : Nat) (pre : List Nn) (W : World) (hw : n₀ ≤ W.heap.size) (hj : J pre W) (hl : pre.length < N) :
    CallsIn F m Tryz.prog 74 #[.agg #[.int .i64 2, .string ⟨n.toArray⟩, .slice ad len cap], .func (.yield l) #[] #[]] W fun e W' =>
        (e = .returned (.bool true) ∧ J (pre ++ [⟨n, hn⟩]) W' ∧ Below n₀ W W') ∨ (e = .returned (.bool false) ∧ Jx (pre ++ [⟨n, hn⟩]) W') := by
  have hdd : ∀ k : Nat, (F.depth.isSome = true → 1 ≤ k) := fun k h => by rw [hd] at h; cases h
  have hb : Below n₀ W (W.alloc (Obj.cells #[.int .i64 2, .string ⟨n.toArray⟩, .slice ad len cap] 24)) := (Below.refl _ _).alloc hw _
  have hj1 : J pre (W.alloc (Obj.cells #[.int .i64 2, .string ⟨n.toArray⟩, .slice ad len cap] 24)) := hJ _ _ _ none hj (World.grownBy_alloc W _ none) (fun r e => by cases e)
  obtain ⟨fn, tmps, assign, body, hy, hR⟩ := hY (m - 1) pre ⟨n, hn⟩ _ hj1 hl
  dsimp only at hy
  refine callsIn_of_wp Tryz.func74 rfl h51 ?_ hro
  simp only [Tryz.ntmps74, List.size_toArray, List.length_cons, List.length_nil, Nat.reduceAdd, Nat.reduceSub, Array.replicate_succ, Array.replicate_zero, List.push_toArray, List.append_toArray, List.nil_append, List.cons_append]
  gi_wp2_with ((try refine ⟨hdd _, ?_⟩); refine hR.mono ?_; clear hR; rintro e W2 (⟨rfl, hJ2, hb2⟩ | ⟨rfl, hx2⟩))
  · go_ret
    exact .inl ⟨rfl, hJ2, hb.trans hb2⟩
  · go_ret
    exact .inr ⟨rfl, hx2⟩
set_option maxHeartbeats 8000000 in
set_option maxRecDepth 100000 in
theorem each_node (F : Fence) (hd : F.depth = none) (h51 : F.fn 74) (hro : F.round = none) (l n₀ B N d : Nat) (J Jx : List Nn → World → Prop) (hJ : AbidesFrom B J)
    (k : Int) (hk : k ≠ 2) (n : List UInt8) (ts : List (Tn d)) (m : Nat) (pre ys : List Nn) (W : World) (v : Value) (hw : n₀ ≤ W.heap.size) (hr : RowP W n₀ (TyAt W n₀ d) v ts) (hlen : ts.length < 140737488355328) (hj : J pre W) (hys : ys.map Subtype.val = ts.flatMap (namesT d)) (hl : pre.length + ys.length ≤ N)
    (IH : ∀ (x : Value) (t : Tn d) (pre ys : List Nn) (W : World), n₀ ≤ W.heap.size → TyAt W n₀ d x t → J pre W → ys.map Subtype.val = namesT d t → pre.length + ys.length ≤ N →
      CallsIn F (m - 1) Tryz.prog 74 #[x, .func (.yield l) #[] #[]] W fun e W' =>
        (e = .returned (.bool true) ∧ J (pre ++ ys) W' ∧ Below n₀ W W') ∨ (e = .returned (.bool false) ∧ ∃ q, q <+: ys ∧ Jx (pre ++ q) W')) :
    CallsIn F m Tryz.prog 74 #[.agg #[.int .i64 k, .string ⟨n.toArray⟩, v], .func (.yield l) #[] #[]] W fun e W' =>
        (e = .returned (.bool true) ∧ J (pre ++ ys) W' ∧ Below n₀ W W') ∨ (e = .returned (.bool false) ∧ ∃ q, q <+: ys ∧ Jx (pre ++ q) W') := by
  have hdd : ∀ k : Nat, (F.depth.isSome = true → 1 ≤ k) := fun k h => by rw [hd] at h; cases h
  have hkb : (k == 2) = false := by simpa using hk
  obtain ⟨ad, cap, hv, hcl⟩ := hr.cells
  subst hv
  have HCL : Hid (ts ≠ [] → ∃ g o, ad = some ⟨g, o, none⟩ ∧ ts.length ≤ cap ∧ g < n₀ ∧ ∀ j (h : j < ts.length), ∃ k n ad' len' cap', (∀ w', Below n₀ W w' → w'.cell? ⟨g, o + j * 3, none⟩ = some (.int .i64 k) ∧ w'.cell? ⟨g, o + j * 3 + 1, none⟩ = some (.string n) ∧ w'.cell? ⟨g, o + j * 3 + 2, none⟩ = some (.slice ad' len' cap')) ∧ TyAt W n₀ d (.agg #[.int .i64 k, .string n, .slice ad' len' cap']) ts[j]) := hcl
  have H0 : Hid (J pre (W.alloc (Obj.cells #[.int .i64 k, .string ⟨n.toArray⟩, .slice ad ts.length cap] 24)) ∧ Below n₀ W (W.alloc (Obj.cells #[.int .i64 k, .string ⟨n.toArray⟩, .slice ad ts.length cap] 24))) :=
    ⟨hJ _ _ _ none hj (World.grownBy_alloc W _ none) (fun r e => by cases e), (Below.refl _ _).alloc hw _⟩
  have HYS : Hid (ys.map Subtype.val = ts.flatMap (namesT d)) := hys
  have HIH : Hid (∀ (x : Value) (t : Tn d) (pre ys : List Nn) (W : World), n₀ ≤ W.heap.size → TyAt W n₀ d x t → J pre W → ys.map Subtype.val = namesT d t → pre.length + ys.length ≤ N →
      CallsIn F (m - 1) Tryz.prog 74 #[x, .func (.yield l) #[] #[]] W fun e W' =>
        (e = .returned (.bool true) ∧ J (pre ++ ys) W' ∧ Below n₀ W W') ∨ (e = .returned (.bool false) ∧ ∃ q, q <+: ys ∧ Jx (pre ++ q) W')) := IH
  have HHJ : Hid (AbidesFrom B J) := hJ
  clear hcl IH hr hj hys hJ
  refine callsIn_of_wp Tryz.func74 rfl h51 ?_ hro
  simp only [Tryz.ntmps74, List.size_toArray, List.length_cons, List.length_nil, Nat.reduceAdd, Nat.reduceSub, Array.replicate_succ, Array.replicate_zero, List.push_toArray, List.append_toArray, List.nil_append, List.cons_append]
  gi_wp2
  gi_loopw [17] (fun i wr => ∃ (j : Nat) (A R : List Nn), j ≤ ts.length ∧ i = .int .i64 j ∧ Hid (ys = A ++ R ∧ R.map Subtype.val = (ts.drop j).flatMap (namesT d) ∧ J (pre ++ A) wr ∧ Below n₀ W wr)) (fun i _ => ts.length - (intOf i).toNat)
  case atStart => exact ⟨0, [], ys, by omega, by go_num, rfl, HYS.out, by rw [List.append_nil]; exact H0.out.1, H0.out.2⟩
  case round =>
    obtain ⟨j, A, R, hj, rfl, HP⟩ := hrel
    by_cases hlt : j < ts.length
    · have hlt' : (j : Int) < (ts.length : Int) := by omega
      obtain ⟨g0, o0, hadr, hcapt, hgB, hel⟩ := HCL.out (by intro e; rw [e] at hlt; simp at hlt)
      subst hadr
      obtain ⟨k1, n1, ad1, l1, cp1, hcel, T1⟩ := hel j hlt
      obtain ⟨eys, eR, hJw, hbw⟩ := HP.out
      obtain ⟨p0, p1, p2⟩ := hcel wr hbw
      rw [List.drop_eq_getElem_cons hlt, List.flatMap_cons] at eR
      obtain ⟨R1, R2, eR12, e1, e2⟩ := List.map_eq_append_iff.1 eR
      have hwr : n₀ ≤ wr.heap.size := Nat.le_trans hw hbw.size
      have bU : Below n₀ wr (wr.alloc (Obj.cells #[.int .i64 k1, .string n1, .slice ad1 l1 cp1] 24)) := (Below.refl _ _).alloc hwr _
      have CJ := HIH.out _ ts[j] (pre ++ A) R1 (wr.alloc (Obj.cells #[.int .i64 k1, .string n1, .slice ad1 l1 cp1] 24)) (Nat.le_trans hwr (by simp)) (T1.on (hbw.trans bU)) (HHJ.out _ _ _ none hJw (World.grownBy_alloc wr _ none) (fun r e => by cases e)) e1 (by rw [eys, eR12] at hl; simp at hl ⊢; omega)
      have HN1 : Hid (Below n₀ W (wr.alloc (Obj.cells #[.int .i64 k1, .string n1, .slice ad1 l1 cp1] 24))) := hbw.trans bU
      have HE : Hid (ys = A ++ (R1 ++ R2) ∧ R2.map Subtype.val = (ts.drop (j + 1)).flatMap (namesT d)) := ⟨by rw [eys, eR12], e2⟩
      clear hel hcel T1 H0 HCL HIH HHJ eys eR hJw hbw e1 e2 eR12 bU HYS HP hl
      gi_wp2_with ((try refine ⟨hdd _, ?_⟩); gi_at_call 74; refine CJ.mono ?_; clear CJ; rintro e W1 (⟨rfl, hJ1, hb1⟩ | ⟨rfl, q, hq, hx1⟩))
      · gi_wp2
        rename_i hK
        refine hK _ _ ?_
        clear hK
        simp only [Act.put, Bool.not_true]
        gi_wp2
        go_roundw
        case rel => exact ⟨j + 1, A ++ R1, R2, by omega, by go_num, by rw [HE.out.1, List.append_assoc], HE.out.2, by rw [← List.append_assoc]; exact hJ1, HN1.out.trans hb1⟩
        case measure => simp [intOf]; omega
      · gi_wp2
        rename_i hK
        refine hK _ _ ?_
        clear hK
        simp only [Act.put, Bool.not_false]
        gi_wp2
        go_ret
        refine .inr ⟨rfl, A ++ q, ?_, by rw [← List.append_assoc]; exact hx1⟩
        rw [HE.out.1]
        exact (List.prefix_append_right_inj A).2 (hq.trans (List.prefix_append _ _))
    · have h1 : ¬ (j : Int) < (ts.length : Int) := by omega
      have hj' : j = ts.length := by omega
      have HF : Hid (J (pre ++ ys) wr ∧ Below n₀ W wr) := by
        obtain ⟨eys, eR, hJw, hbw⟩ := HP.out
        rw [hj', List.drop_length] at eR
        have : R = [] := List.map_eq_nil_iff.1 eR
        rw [this, List.append_nil] at eys
        rw [eys]
        exact ⟨hJw, hbw⟩
      clear hj' HP H0 HCL HIH HHJ HYS
      gi_wp2
      go_ret
      exact .inl ⟨rfl, HF.out.1, HF.out.2⟩
theorem each_in (F : Fence) (hd : F.depth = none) (h51 : F.fn 74) (hro : F.round = none) (l n₀ B N : Nat) (J Jx : List Nn → World → Prop) (hJ : AbidesFrom B J)
    (hY : ∀ m pre x W, J pre W → pre.length < N → YieldAt F m Tryz.prog l #[.string ⟨x.1.toArray⟩] W fun e W' =>
      (e = .returned (.bool true) ∧ J (pre ++ [x]) W' ∧ Below n₀ W W') ∨ (e = .returned (.bool false) ∧ Jx (pre ++ [x]) W')) :
    ∀ (d : Nat) (x : Value) (t : Tn d) (m : Nat) (pre ys : List Nn) (W : World), n₀ ≤ W.heap.size → TyAt W n₀ d x t → J pre W → ys.map Subtype.val = namesT d t → pre.length + ys.length ≤ N →
      CallsIn F m Tryz.prog 74 #[x, .func (.yield l) #[] #[]] W fun e W' =>
        (e = .returned (.bool true) ∧ J (pre ++ ys) W' ∧ Below n₀ W W') ∨ (e = .returned (.bool false) ∧ ∃ q, q <+: ys ∧ Jx (pre ++ q) W')
  | 0, _, _, _, _, _, _, _, h, _, _, _ => h.elim
  | d + 1, x, ((k, n), ts), m, pre, ys, W, hw, ⟨v, hx, h1, h2, hr⟩, hj, hys, hl => by
    subst hx
    by_cases hk : k = 2
    · subst hk
      obtain ⟨ad, cap, rfl⟩ := hr.len
      rw [names_var] at hys
      obtain ⟨y, r, rfl, e1, e2⟩ := List.map_eq_cons_iff.1 hys
      have e2 : r = [] := List.map_eq_nil_iff.1 e2
      subst e2
      have e1 : y.1 = n := e1
      subst e1
      refine (each_var F hd h51 hro l n₀ B N J Jx hJ hY y.1 y.2 ad ts.length cap m pre W hw hj (by simp at hl; omega)).mono ?_
      rintro e W' (⟨rfl, h3, h4⟩ | ⟨rfl, h3⟩)
      · exact .inl ⟨rfl, h3, h4⟩
      · exact .inr ⟨rfl, _, List.prefix_refl _, h3⟩
    · rw [names_node _ _ _ _ hk] at hys
      exact each_node F hd h51 hro l n₀ B N d J Jx hJ k hk n ts m pre ys W v hw hr h2 hj hys hl fun x t pre ys W => each_in F hd h51 hro l n₀ B N J Jx hJ hY d x t (m - 1) pre ys W
set_option maxHeartbeats 4000000 in
set_option maxRecDepth 100000 in
theorem vars1_in (F : Fence) (hd : F.depth = none) (m : Nat) (h50 : F.fn 73) (h51 : F.fn 74) (hro : F.round = none) (l Bt n₀ B : Nat) (d : Nat) (k : Int) (n : ByteArray) (ad : Option Addr) (len cap : Nat) (t : Tn d) (ys : List Nn) (J Jx : List Nn → World → Prop) (hJ : AbidesFrom B J)
    (hY : ∀ pre x W, J pre W → pre.length < ys.length → YieldAt F (m - 1) Tryz.prog l #[.string ⟨x.1.toArray⟩] W fun e W' =>
      (e = .returned (.bool true) ∧ J (pre ++ [x]) W' ∧ Below n₀ W W') ∨ (e = .returned (.bool false) ∧ Jx (pre ++ [x]) W'))
    (W : World) (hw : n₀ ≤ W.heap.size) (c0 : W.cell? ⟨Bt, 0, none⟩ = some (.int .i64 k)) (c1 : W.cell? ⟨Bt, 1, none⟩ = some (.string n)) (c2 : W.cell? ⟨Bt, 2, none⟩ = some (.slice ad len cap)) (hT : TyAt W n₀ d (.agg #[.int .i64 k, .string n, .slice ad len cap]) t) (hys : ys.map Subtype.val = namesT d t) (h0 : J [] W) :
    CallsIn F m Tryz.prog 73 #[.func (.yield l) #[] #[], .pointer (some ⟨Bt, 0, none⟩)] W fun e W' => (∃ v, e = .returned v) ∧
      ((∃ xs, xs = ys ∧ J xs W') ∨ (∃ pre, pre <+: ys ∧ Jx pre W')) := by
  have hdd : ∀ k : Nat, (F.depth.isSome = true → 1 ≤ k) := fun k h => by rw [hd] at h; cases h
  have hp := each_in F hd h51 hro l n₀ B ys.length J Jx hJ (fun m' pre x W hj hl => yield_any hd m' (hY pre x W hj hl)) d _ t (m - 1) [] ys W hw hT h0 hys (by simp)
  clear hY hT hys h0 hJ
  refine callsIn_of_wp Tryz.func73 rfl h50 ?_ hro
  simp only [Tryz.ntmps73, List.size_toArray, List.length_cons, List.length_nil, Nat.reduceAdd, Nat.reduceSub, Array.replicate_succ, Array.replicate_zero, List.push_toArray, List.append_toArray, List.nil_append, List.cons_append]
  gi_wp2_with ((try refine ⟨hdd _, ?_⟩); gi_at_call 74; refine hp.mono ?_; clear hp; rintro e W1 (⟨rfl, hJ1, _⟩ | ⟨rfl, q, hq, hx⟩))
  · go_end0
    exact ⟨⟨_, rfl⟩, .inl ⟨_, rfl, by simpa using hJ1⟩⟩
  · go_end0
    exact ⟨⟨_, rfl⟩, .inr ⟨q, hq, by simpa using hx⟩⟩
theorem varsOf_any (k : Int) (n : ByteArray) (ad : Option Addr) (len cap : Nat) (w : World) :
    Calls Tryz.prog 64 #[.agg #[.int .i64 k, .string n, .slice ad len cap]] w fun e w' => e = .returned (.func (.func 73) #[] #[.pointer (some ⟨w.heap.size, 0, none⟩)]) ∧ w' = w.alloc (.cells #[.int .i64 k, .string n, .slice ad len cap] 24) := by
  go_enter Tryz.func64, Tryz.ntmps64
  go_wp2
  go_ret
  exact ⟨rfl, rfl⟩
theorem vars_stops (F : Fence) (hd : F.depth = none) (m : Nat) (h50 : F.fn 73) (h51 : F.fn 74) (hro : F.round = none) (Bt n₀ : Nat) (d : Nat) (k : Int) (n : ByteArray) (ad : Option Addr) (len cap : Nat) (t : Tn d) (ys : List Nn) (w : World) (hBt : Bt < w.heap.size) (hn₀ : n₀ ≤ w.heap.size)
    (c0 : w.cell? ⟨Bt, 0, none⟩ = some (.int .i64 k)) (c1 : w.cell? ⟨Bt, 1, none⟩ = some (.string n)) (c2 : w.cell? ⟨Bt, 2, none⟩ = some (.slice ad len cap)) (hT : TyAt w n₀ d (.agg #[.int .i64 k, .string n, .slice ad len cap]) t) (hys : ys.map Subtype.val = namesT d t) :
    SeqStopsK F m Tryz.prog 73 #[.pointer (some ⟨Bt, 0, none⟩)] (fun x : Nn => #[Value.string ⟨x.1.toArray⟩]) (Below n₀) (fun xs => xs = ys) (fun pre => pre <+: ys) ys.length w := fun l J Jx W hW hJ _ hY h0 =>
  vars1_in F hd m h50 h51 hro l Bt n₀ W.heap.size d k n ad len cap t ys J Jx hJ hY W (Nat.le_trans hn₀ hW.size) ((hW.cell (p := ⟨Bt, 0, none⟩) hBt).trans c0) ((hW.cell (p := ⟨Bt, 1, none⟩) hBt).trans c1) ((hW.cell (p := ⟨Bt, 2, none⟩) hBt).trans c2) (hT.on (hW.mono hn₀)) hys h0
end Go.Proofs.YtgdflaapgfpdeaaGreatDoor
