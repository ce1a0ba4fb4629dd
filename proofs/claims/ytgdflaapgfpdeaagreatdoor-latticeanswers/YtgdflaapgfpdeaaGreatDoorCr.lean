/- The program's Canon answers as the document says, in memory of its own. -/
import Derived.Test.YtgdflaapgfpdeaaGreatDoorCq
import Derived.Test.YtgdflaapgfpdeaaGreatDoorSi
import Derived.Test.YtgdflaapgfpdeaaGreatDoorNm
import Derived.Test.YtgdflaapgfpdeaaGreatDoorMpx
import Derived.Test.YtgdflaapgfpdeaaGreatDoorCh
namespace Go.Proofs.YtgdflaapgfpdeaaGreatDoor
open Go.RowKit

theorem named_le : ∀ (d : Nat) (t : Tn d) (ns : Nms), (flat d (namedT d ns t).2).length ≤ (flat d t).length
  | 0, t, _ => t.elim
  | d + 1, ((k, n), ts), ns => by
    rw [flat_succ, List.length_cons]
    by_cases h : k = 2
    · subst h
      rw [named_var]
      show (flat (d + 1) ((2, letB (idxN (addN ns n) n)), [])).length ≤ _
      rw [flat_succ, flats_nil]
      simp
    · rw [named_node _ _ _ _ _ h]
      show (flat (d + 1) ((k, n), (namedArgs (namedT d) ns ts).2)).length ≤ _
      rw [flat_succ, List.length_cons]
      have : ∀ (ts : List (Tn d)) (ns : Nms), (flats d (namedArgs (namedT d) ns ts).2).length ≤ (flats d ts).length := fun ts => by
        induction ts with
        | nil => intro ns; exact Nat.le_refl _
        | cons a r ih =>
          intro ns
          rw [namedArgs]
          show (flats d ((namedT d ns a).2 :: (namedArgs (namedT d) (namedT d ns a).1 r).2)).length ≤ _
          rw [flats_cons, flats_cons, List.length_append, List.length_append]
          have h1 := named_le d a ns
          have h2 := ih (namedT d ns a).1
          omega
      have := this ts ns
      omega
theorem agr_names (W : World) (NS : Nms) : Agr W 0 1 (sOf NS) (canonOf NS) := fun n => by
  unfold sOf canonOf
  by_cases h : idxN NS n < NS.length
  · rw [if_pos h, if_pos h]
    refine .inr ⟨_, _, rfl, rfl, ⟨.slice none 0 0, rfl, ?_, ?_, .inl ⟨rfl, none, 0, rfl⟩⟩, ?_⟩
    · have := let_len (idxN NS n)
      show (letB (idxN NS n)).length < _
      omega
    · show ([] : List (Tn 0)).length < _
      simp
    · show (flat 1 ((2, letB (idxN NS n)), [])).length ≤ _
      rw [flat_succ, flats_nil]
      simp
  · rw [if_neg h, if_neg h]
    exact .inl ⟨rfl, rfl⟩
theorem canons_any : CanonsO 54 := by
  intro d x t w B hB h hN
  obtain ⟨k, n, ad, len, cap, rfl⟩ := tree_form h
  have hT : TyAt w w.heap.size d _ t := TyAt.below (Below.refl _ _) hB _ _ _ h
  have CW : ∀ (g : Nat) (W : World), Below w.heap.size w W → g < W.heap.size → W.cell? ⟨g, 0, none⟩ = some (.int .i64 k) → W.cell? ⟨g, 1, none⟩ = some (.string n) → W.cell? ⟨g, 2, none⟩ = some (.slice ad len cap) → Calls Tryz.prog 63 #[.slice (some ⟨g, 0, none⟩) 1 1] W fun r w' => r = .returned (.int .i64 (wrongT d t)) ∧ Below W.heap.size W w' := fun g W hb hg c0 c1 c2 => wrong_one d k n ad len cap t w W w.heap.size g hb.size hg hT hb hN c0 c1 c2
  by_cases hw : wrongT d t = 0
  · rw [hw] at CW
    obtain ⟨hF, hS⟩ := wrong_zero hw
    obtain ⟨ys, hys⟩ := sub_list (namesT d t) (names_short d _ t hT)
    have hyl : ys.length ≤ 500 := by
      have h1 := names_len d t
      have h2 : ys.length = (namesT d t).length := by rw [← hys, List.length_map]
      omega
    have eNS : foldN ys = (namesT d t).foldl addN [] := by unfold foldN; rw [hys]
    refine Calls.mono (canon_walk (fun W w2 k2 n2 ad2 len2 cap2 => ∃ rws, TyO w2 W.heap.size (1 + d) (.agg #[.int .i64 k2, .string n2, .slice ad2 len2 cap2]) (subT 1 (canonOf (foldN ys)) d t) rws ∧ SepB W.heap.size w2.heap.size rws) d k n ad len cap t ys w hT hys hyl CW canonName_all ?_) ?_
    · intro b W hb hM
      refine Calls.mono (put_any 1 (canonOf (foldN ys)) (sOf (foldN ys)) b _ 0 d _ t W w.heap.size hb.size (Nat.zero_le _) (hT.on hb) hM (agr_names W _) (by omega)) ?_
      rintro r w2 ⟨hb2, k2, n2, ad2, len2, cap2, rws, rfl, hT2, hS2⟩
      exact ⟨hb2, _, _, _, _, _, rfl, rws, hT2, hS2⟩
    · rintro r w' ⟨hb, W, w2, k2, n2, ad2, len2, cap2, rfl, hW, hW2, ⟨rws, hTO, hSB⟩, hsz, hblk⟩
      have hc := own_count _ _ _ _ hTO
      have hfl : flat (1 + d) (subT 1 (canonOf (foldN ys)) d t) = flat d (canonT d t) := canon_flat _ d t [] (by rw [eNS]; exact List.prefix_refl _)
      have hle := named_le d t []
      refine ⟨hb, k2, n2, ad2, len2, cap2, 1 + d, _, rws, by rw [hw], TyO.mono hW _ _ _ _ (TyO.on _ _ _ _ (fun p hp g hg => ?_) hTO), ?_, ?_, hc.2 ?_, by rw [hfl, canonF, if_neg (by simpa using hw)]⟩
      · obtain ⟨g', e1, e2, e3⟩ := hSB.1 p hp
        rw [hg] at e1
        exact hblk g (by rw [Option.some.inj e1]; exact e2)
      · rw [hsz]
        exact hSB.sep
      · have h1 := hc.1
        rw [hfl] at h1
        have h2 : (flat d (canonT d t)).length ≤ (flat d t).length := hle
        omega
      · rw [(flat_same _ _ _ _ hfl).1]
        exact named_form d t [] hF (by simp; omega)
  · refine Calls.mono (canon_bad _ hw k n ad len cap w CW) ?_
    rintro r w' ⟨hb, rfl⟩
    refine ⟨hb, 0, ⟨#[]⟩, none, 0, 0, 1, ((0, []), []), [], rfl, ⟨.slice none 0 0, rfl, ?_, ?_, .inl ⟨rfl, ⟨none, 0, rfl⟩, rfl⟩⟩, ⟨fun p hp => (by cases hp), List.nodup_nil⟩, by simp, fun p hp => (by cases hp), ?_⟩
    · show ([] : List UInt8).length < _
      simp
    · show ([] : List (Tn 0)).length < _
      simp
    · rw [canonF, if_pos hw, flat_succ, flats_nil]
      rfl
end Go.Proofs.YtgdflaapgfpdeaaGreatDoor
