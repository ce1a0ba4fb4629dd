/- A drawn region in whatever order: what holds between its operations. -/
import Derived.Test.YtpdmkhnonbbhnaaHp
import Derived.Deep.RegionHeld3
namespace Go.Proofs.Ytpdmkhnonbbhnaa
open Go

/-- A region in whatever order: what holds between its operations. -/
theorem wpAny_inv {P : Program} {ops : Array Oper} {Q : Exit → Act → World → Prop} {md : Region.Mode} (I : Array Bool → Act → World → Prop)
    (hstep : ∀ listed a w, I listed a w → ∀ i ∈ Region.ready md ops listed, wpOp P ops Q i (I (listed.setIfInBounds i true)) a w)
    (hend : ∀ listed a w, I listed a w → Region.ready md ops listed = [] → Q .normal a w) :
    ∀ (fuel : Nat) (listed : Array Bool) (a : Act) (w : World), I listed a w → listed.toList.count false ≤ fuel → wpAny P md ops Q fuel listed a w
  | 0, listed, a, w, hI, hf => by
    have hr : Region.ready md ops listed = [] := by
      refine List.eq_nil_iff_forall_not_mem.2 fun j hj => ?_
      have h0 := (mem_ready.1 hj).1
      have : listed.toList.count false = 0 := Nat.le_zero.1 hf
      rw [List.count_eq_zero] at this
      refine this ?_
      by_cases hl : j < listed.size
      · have : listed.getD j true = listed[j] := by simp [Array.getD, hl]
        rw [this] at h0
        rw [← h0]
        exact Array.getElem_mem_toList hl
      · simp [Array.getD, hl] at h0
    exact ⟨hr, hend _ _ _ hI hr⟩
  | fuel + 1, listed, a, w, hI, hf => by
    refine ⟨fun hr => hend _ _ _ hI hr, fun i hi => wpOp_mono (fun a' w' h => ?_) (hstep _ _ _ hI i hi)⟩
    refine wpAny_inv I hstep hend fuel _ a' w' h ?_
    have h0 := (mem_ready.1 hi).1
    by_cases hl : i < listed.size
    · have h1 : listed[i] = false := by simpa [Array.getD, hl] using h0
      have : (listed.setIfInBounds i true).toList.count false + 1 ≤ listed.toList.count false := by
        rw [Array.toList_setIfInBounds]
        have h2 : listed.toList[i]? = some false := by simp [hl, h1]
        clear h0 h1 hf hi h hI
        generalize listed.toList = l at h2
        clear hl
        induction l generalizing i with
        | nil => simp at h2
        | cons x l ih =>
          cases i with
          | zero => simp at h2; subst h2; simp
          | succ i => simp at h2; have := ih i h2; simp only [List.set_cons_succ, List.count_cons]; omega
      omega
    · simp [Array.getD, hl] at h0
theorem wp_region_inv {P : Program} {ops : Array Oper} {Q : Exit → Act → World → Prop} {id : Nat} {a : Act} {w : World} (hm : P.follows .mixedOrders = true) (I : Array Bool → Act → World → Prop)
    (h0 : I (Array.replicate ops.size false) a w.drew)
    (hstep : ∀ listed a w, I listed a w → ∀ i ∈ Region.ready .any ops listed, wpOp P ops Q i (I (listed.setIfInBounds i true)) a w)
    (hend : ∀ listed a w, I listed a w → Region.ready .any ops listed = [] → Q .normal a w) : (Code.region id ops true).wp P Q a w :=
  wp_region_any hm (wpAny_inv I hstep hend _ _ _ _ h0 (by simp [List.count_replicate_self]))
theorem ready_pre {md : Region.Mode} {ops : Array Oper} {listed : Array Bool} {i : Nat} (pre : List (List Nat)) (hp : ((List.range ops.size).all fun i => (pre.getD i []).all fun j => match ops[i]? with | some o => o.after.any (fun e => e.on == j && Region.binds md e) | none => false) = true) (hi : i ∈ Region.ready md ops listed) : i < ops.size ∧ listed.getD i true = false ∧ ∀ j ∈ pre.getD i [], listed.getD j false = true := by
  obtain ⟨h0, o, ho, h⟩ := mem_ready.1 hi
  have hlt : i < ops.size := (Array.getElem?_eq_some_iff.1 ho).1
  refine ⟨hlt, h0, fun j hj => ?_⟩
  have h1 := List.all_eq_true.1 hp i (List.mem_range.2 hlt)
  have h2 := List.all_eq_true.1 h1 j hj
  rw [ho] at h2
  obtain ⟨e, he, hb⟩ := Array.any_eq_true'.1 h2
  simp only [Bool.and_eq_true, beq_iff_eq] at hb
  rw [← hb.1]
  exact h e he hb.2
theorem ready_nil {md : Region.Mode} {ops : Array Oper} {listed : Array Bool} (hp : ((List.range ops.size).all fun i => match ops[i]? with | some o => o.after.all (fun e => !Region.binds md e || decide (e.on < i)) | none => false) = true) (hr : Region.ready md ops listed = []) : ∀ (n i : Nat), i < n → i < ops.size → listed.getD i true = true
  | 0, i, h, _ => absurd h (Nat.not_lt_zero _)
  | n + 1, i, h, hi => by
    by_cases hl : listed.getD i true = true
    · exact hl
    · have h1 := List.all_eq_true.1 hp i (List.mem_range.2 hi)
      have hs : ops[i]? = some ops[i] := Array.getElem?_eq_getElem hi
      rw [hs] at h1
      have hm : i ∈ Region.ready md ops listed := by
        refine mem_ready.2 ⟨by simpa using hl, ops[i], hs, fun e he hb => ?_⟩
        have h2 := Array.all_eq_true_iff_forall_mem.1 h1 e he
        rw [hb] at h2
        have h3 : e.on < i := by simpa using h2
        have h4 := ready_nil hp hr n e.on (by omega) (by omega)
        by_cases hz : e.on < listed.size
        · simpa [Array.getD, hz] using h4
        · exfalso
          refine hl ?_
          simp [Array.getD, show ¬ i < listed.size by omega]
      rw [hr] at hm
      cases hm
def upd {α : Type} (f : Nat → α) (i : Nat) (x : α) : Nat → α := fun j => if j = i then x else f j
end Go.Proofs.Ytpdmkhnonbbhnaa
