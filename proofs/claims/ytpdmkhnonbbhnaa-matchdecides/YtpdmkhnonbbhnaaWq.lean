/- MatchNames: a family ahead of the families that came in. -/
import Derived.Test.YtpdmkhnonbbhnaaWd
import Derived.Test.YtpdmkhnonbbhnaaMsx
import Derived.Deep.AppendLies
import Derived.Laws.AppendOwnNone
namespace Go.Proofs.Ytpdmkhnonbbhnaa
open Go.RowKit Go.Maps

theorem Try.info47 : (Try.prog.info? 47).map (fun i => (i.zero, i.size, i.bytes)) = some (some (.agg #[.slice none 0 0, .slice none 0 0]), 2, 48) := by kernel_rfl
theorem Try.info24 : (Try.prog.info? 24).map (fun i => (i.zero, i.size, i.bytes)) = some (some (.slice none 0 0), 1, 24) := by kernel_rfl
theorem add_flat (g o j : Nat) : (⟨g, o, none⟩ : Addr).add j = ⟨g, o + j, none⟩ := by unfold Addr.add; split <;> simp_all
theorem fams_news {w : World} {S : Nat → Prop} {g o cap : Nat} {fs : List Fam} (h : Fams w S (.slice (some ⟨g, o, none⟩) fs.length cap) fs) :
    ∃ news : List Value, news.length = fs.length * 2 ∧ (∀ j, j < fs.length * 2 → news[j]? = w.cell? ⟨g, o + j, none⟩) ∧ (∀ j u, news[j]? = some u → w.cell? ((⟨g, o, none⟩ : Addr).add j) = some u) ∧ ∀ u ∈ news, u.oneCell' = true := by
  have hc : ∀ j, j < fs.length * 2 → ∃ ad n c, w.cell? ⟨g, o + j, none⟩ = some (.slice ad n c) := fun j hj => by
    rcases h with ⟨e, _⟩ | ⟨g', o', cap', e, _, _, hr⟩
    · rw [e] at hj; simp at hj
    · injection e with e
      injection e with e
      injection e with e1 e2
      subst e1 e2
      obtain ⟨_, ⟨a1, c1, h1, _⟩, a2, c2, h2, _⟩ := hr (j / 2) (by omega)
      rcases Nat.mod_two_eq_zero_or_one j with hm | hm
      · rw [show o + j = o + j / 2 * 2 by omega]; exact ⟨_, _, _, h1⟩
      · rw [show o + j = o + j / 2 * 2 + 1 by omega]; exact ⟨_, _, _, h2⟩
  have hg : ∀ j, j < fs.length * 2 → ((List.range (fs.length * 2)).map fun j => (w.cell? ⟨g, o + j, none⟩).getD undef)[j]? = w.cell? ⟨g, o + j, none⟩ := fun j hj => by
    obtain ⟨ad, n, c, h1⟩ := hc j hj
    rw [List.getElem?_map, List.getElem?_range hj, h1]
    simp [h1]
  refine ⟨(List.range (fs.length * 2)).map fun j => (w.cell? ⟨g, o + j, none⟩).getD undef, by simp, hg, fun j u hu => ?_, fun u hu => ?_⟩
  · have hj : j < fs.length * 2 := by
      have := (List.getElem?_eq_some_iff.1 hu).1
      simpa using this
    rw [add_flat, ← hg j hj]
    exact hu
  · obtain ⟨j, hj, rfl⟩ := List.mem_map.1 hu
    obtain ⟨ad, n, c, h1⟩ := hc j (List.mem_range.1 hj)
    rw [h1]
    rfl
/-- One family and families behind it, in one row. -/
theorem fams_cons {w w' : World} {S T : Nat → Prop} {fa : Option Addr} {fc g cap : Nat} {fs : List Fam} {f0 : Fam} {sa sb : Value} {news : List Value} (hF : Fams w S (.slice fa fs.length fc) fs)
    (hsa : ∃ ad c, sa = .slice ad f0.1.length c ∧ Strs w S sa f0.1) (hsb : ∃ ad c, sb = .slice ad f0.2.length c ∧ Ints w S sb f0.2)
    (hk : Keeps S w w') (hST : ∀ y, S y → T y) (hg : T g) (hcap : fs.length + 1 ≤ cap) (hcell : ∀ j, j < (fs.length + 1) * 2 → w'.cell? ⟨g, j, none⟩ = ([sa, sb] ++ news)[j]?)
    (hnews : ∀ b o, fa = some ⟨b, o, none⟩ → ∀ j, j < fs.length * 2 → news[j]? = w.cell? ⟨b, o + j, none⟩) : Fams w' T (.slice (some ⟨g, 0, none⟩) (fs.length + 1) cap) (f0 :: fs) := by
  refine .inr ⟨g, 0, cap, rfl, by simp, by simpa using hcap, fun j hj => ?_⟩
  rw [Nat.zero_add]
  cases j with
  | zero =>
    obtain ⟨a1, c1, rfl, h1⟩ := hsa
    obtain ⟨a2, c2, rfl, h2⟩ := hsb
    refine ⟨hg, ⟨a1, c1, ?_, (h1.on hk).up hST⟩, a2, c2, ?_, (h2.on hk).up hST⟩
    · rw [hcell _ (by omega)]; rfl
    · rw [hcell _ (by omega)]; rfl
  | succ k =>
    have hkl : k < fs.length := by simpa using hj
    rcases hF with ⟨e, _⟩ | ⟨b, o, cap', e, _, _, hr⟩
    · rw [e] at hkl; simp at hkl
    · injection e with e
      obtain ⟨_, ⟨a1, c1, h1, h1'⟩, a2, c2, h2, h2'⟩ := hr k hkl
      refine ⟨hg, ⟨a1, c1, ?_, (h1'.on hk).up hST⟩, a2, c2, ?_, (h2'.on hk).up hST⟩
      · rw [hcell _ (by omega), List.getElem?_append_right (by simp; omega), show (k + 1) * 2 - [sa, sb].length = k * 2 by simp; omega, hnews b o e _ (by omega)]
        exact h1
      · rw [hcell _ (by omega), List.getElem?_append_right (by simp; omega), show (k + 1) * 2 + 1 - [sa, sb].length = k * 2 + 1 by simp; omega, hnews b o e _ (by omega), ← Nat.add_assoc]
        exact h2
theorem wpList_append_fams {ops : Array Oper} {rest : List Oper} {o : Oper} {a : Act} {Q : Exit → Act → World → Prop} {W : World} {S : Nat → Prop} {fa : Option Addr} {fc C base : Nat} {fs : List Fam} (f0 : Fam) {sa sb : Value} (hgd : o.guard = none) (s x : Operand)
    (ho : o.op = .call { callee := .builtin .append, args := #[s, x], argTypes := #[22, 22] }) (hs : a.eval s = .slice (some ⟨C, 0, none⟩) 1 1) (hx : a.eval x = .slice fa fs.length fc)
    (hbase : base ≤ W.heap.size) (hC : W.heap[C]? = some (.cells #[sa, sb] 47 (0, 0))) (hbC : base ≤ C) (hfa : fa = none → fs = [] ∧ fc = 0) (hF : Fams W S (.slice fa fs.length fc) fs) (hS : ∀ y, S y → y < W.heap.size ∧ y ≠ C)
    (hsa : ∃ ad c, sa = .slice ad f0.1.length c ∧ Strs W S sa f0.1) (hsb : ∃ ad c, sb = .slice ad f0.2.length c ∧ Ints W S sb f0.2) (hl : fs.length ≤ 100000)
    (h : ∀ g cap W', Below base W W' → (∀ y, y < W.heap.size → y ≠ C → W'.heap[y]? = W.heap[y]?) → Fams W' (fun y => S y ∨ (base ≤ y ∧ y < W'.heap.size)) (.slice (some ⟨g, 0, none⟩) (fs.length + 1) cap) (f0 :: fs) → wpList Try.prog ops Q rest (a.put o.dst (.slice (some ⟨g, 0, none⟩) (fs.length + 1) cap)) W') :
    wpList Try.prog ops Q (o :: rest) a W := by
  have hCl : C < W.heap.size := lt_of_heap hC
  have hoa : ∃ a1 n1 c1, sa = .slice a1 n1 c1 := by obtain ⟨a1, c1, e, _⟩ := hsa; exact ⟨_, _, _, e⟩
  have hob : ∃ a1 n1 c1, sb = .slice a1 n1 c1 := by obtain ⟨a1, c1, e, _⟩ := hsb; exact ⟨_, _, _, e⟩
  have hown : W.ownsRow base 47 2 (.slice (some ⟨C, 0, none⟩) 1 1) 1 [sa, sb] := ⟨rfl, .inr ⟨C, 1, #[sa, sb], rfl, hbC, hC, Nat.le_refl _, by decide, rfl, rfl⟩⟩
  obtain ⟨i0, hi0, hz0, hz1, hz2⟩ := info_parts Try.info47
  cases fa with
  | none =>
    obtain ⟨rfl, rfl⟩ := hfa rfl
    refine wpList_append_own_none hgd s x 22 ho base 47 i0 2 Try.underlying22 hi0 _ 1 [sa, sb] hs hown hx ?_
    refine h C 1 W (Below.refl _ _) (fun _ _ _ => rfl) ?_
    exact fams_cons (news := []) hF hsa hsb (Keeps.refl _ _) (fun _ h => .inl h) (.inr ⟨hbC, hCl⟩) (by simp) (fun j hj => by have := hown.cellAt j (by simpa using hj); simpa using this) (fun _ _ e => by cases e)
  | some p =>
    obtain ⟨news, n1, n2, n3, n4⟩ : ∃ news : List Value, news.length = fs.length * 2 ∧ (∀ b o, some p = some ⟨b, o, none⟩ → ∀ j, j < fs.length * 2 → news[j]? = W.cell? ⟨b, o + j, none⟩) ∧ (∀ j u, news[j]? = some u → W.cell? (p.add j) = some u) ∧ ∀ u ∈ news, u.oneCell' = true := by
      by_cases h0 : fs = []
      · subst h0
        exact ⟨[], rfl, fun _ _ _ j hj => by simp at hj, fun j u hu => by simp at hu, fun u hu => by simp at hu⟩
      · rcases hF with ⟨e, _⟩ | ⟨b, o, cap', e, h1, h2, h3⟩
        · exact absurd e h0
        · injection e with e
          injection e with e
          subst e
          obtain ⟨news, n1, n2, n3, n4⟩ := fams_news (cap := fc) (S := S) (.inr ⟨b, o, fc, rfl, h1, by rename_i e _; omega, h3⟩)
          exact ⟨news, n1, fun b' o' e j hj => by cases e; exact n2 j hj, n3, n4⟩
    refine wpList_append_own_at W hgd s x 22 ho base 47 i0 _ 2 48 Try.underlying22 hi0 hz0 hz1 hz2 rfl (by decide) _ 1 [sa, sb] hs hown p fs.length fc news hx n1 n3 n4 (by unfold maxLen; omega) (by omega) hbase ?_
    intro v' W' ho' hg' _ hv'
    obtain ⟨g, cap, rfl, hbg, hgl⟩ := ho'.form (by omega)
    have hsz := hg'.size
    rw [Nat.add_comm 1 fs.length] at ho' ⊢
    have hcap : fs.length + 1 ≤ cap := by
      rcases ho'.2 with ⟨e, _⟩ | ⟨g', cap', cur, e, _, _, hle, _⟩
      · cases e
      · injection e with _ _ e; rw [e]; exact hle
    have hne : ∀ y, y < W.heap.size → y ≠ C → W'.heap[y]? = W.heap[y]? := fun y hy hn => hg'.block y hy fun e => hn (by injection e)
    refine h g cap W' ((Below.refl _ _).grown hg' hbase fun k e => by have e' : some C = some k := e; injection e' with e'; omega) hne ?_
    exact fams_cons (news := news) hF hsa hsb (fun y hy => hne y (hS y hy).1 (hS y hy).2) (fun _ h => .inl h) (.inr ⟨hbg, hgl⟩) hcap (fun j hj => ho'.cellAt j hj) n2
end Go.Proofs.Ytpdmkhnonbbhnaa
