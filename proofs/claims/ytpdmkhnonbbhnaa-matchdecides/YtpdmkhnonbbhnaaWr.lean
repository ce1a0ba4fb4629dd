/- MatchNames: its two calls of Compile, and what compares their answers. -/
import Derived.Test.YtpdmkhnonbbhnaaWq
import Derived.Test.YtpdmkhnonbbhnaaWa
import Derived.Test.YtpdmkhnonbbhnaaWb
import Derived.Test.YtpdmkhnonbbhnaaMsx
namespace Go.Proofs.Ytpdmkhnonbbhnaa
open Go.RowKit Go.Maps

theorem knowF_len : ∀ (fs : List Fam) (i : Nat) (k k' : Kn), knowF i k fs = some k' → ∀ f ∈ fs, f.2.length = f.1.length
  | [], _, _, _, _ => fun f hf => by simp at hf
  | f :: fs, i, k, k', h => fun g hg => by
    unfold knowF at h
    split at h
    · cases h
    · rename_i hn
      obtain ⟨k1, h1, h2⟩ := Option.bind_eq_some_iff.1 h
      rcases List.mem_cons.1 hg with rfl | hg
      · exact Classical.byContradiction fun e => hn (.inr (.inr e))
      · exact knowF_len fs _ _ _ h2 g hg
theorem famz_sum : ∀ fs : List Fam, (∀ f ∈ fs, f.2.length = f.1.length) → (fs.map famz).sum = 2 * (fs.map fun f => f.1.length).sum
  | [], _ => rfl
  | f :: fs, h => by
    have := famz_sum fs fun g hg => h g (List.mem_cons_of_mem _ hg)
    have := h f List.mem_cons_self
    simp only [List.map_cons, List.sum_cons, famz] at *
    omega
theorem fam_sum : ∀ fs : List Fam, (fs.map fun f => f.1.length).sum ≤ (fs.map famz).sum
  | [] => Nat.le_refl _
  | f :: fs => by
    have := fam_sum fs
    simp only [List.map_cons, List.sum_cons, famz] at *
    omega
theorem comp_sum {F : Nat} {fs : List Fam} {rows : List (List Pt)} {t : Tr F} {c : Cv F} (h : CompIs F fs rows 0 (some (t, c))) : (fs.map famz).sum = 2 * (fs.map fun f => f.1.length).sum := by
  obtain ⟨_, k, hk, _⟩ := comp_ok h
  exact famz_sum fs (knowF_len fs 0 [] k hk)
/-- An answer in memory: its tree and its coverage. -/
def AnsV (w : World) (Z : Nat → Prop) (F : Nat) (t : Tr F) (c : Cv F) (x y : Value) : Prop := TrV w Z F x t ∧ ∃ a1 c1 a2 c2, y = .agg #[.bool c.1, .slice a1 c.2.1.length c1, .slice a2 c.2.2.length c2] ∧ Nats w Z (.slice a1 c.2.1.length c1) c.2.1 ∧ Pats w Z (.slice a2 c.2.2.length c2) (c.2.2.map fun u => (⟨F + 1, u⟩ : Pt))
theorem AnsV.on {w w' : World} {Z Z' : Nat → Prop} {F : Nat} {t : Tr F} {c : Cv F} {x y : Value} (h : AnsV w Z F t c x y) (hk : Keeps Z w w') (hZ : ∀ b, Z b → Z' b) : AnsV w' Z' F t c x y := by
  obtain ⟨h1, a1, c1, a2, c2, h2, h3, h4⟩ := h
  exact ⟨TrV.below hk hZ _ _ _ h1, a1, c1, a2, c2, h2, (h3.on hk).up hZ, (h4.on hk).up hZ⟩
def FirstPost (F : Nat) (fs : List Fam) (rows : List (List Pt)) (W : World) (r : Ending) (w' : World) : Prop := Below W.heap.size W w' ∧ ∃ k rw pa pl pc ca cl cc ea el ec b a1 l1 c1 a2 l2 c2 e, r = .returned (.tuple #[.agg #[.int .i64 k, .int .i64 rw, .slice pa pl pc, .slice ca cl cc, .slice ea el ec], .agg #[.bool b, .slice a1 l1 c1, .slice a2 l2 c2], .int .i64 e]) ∧ (e = 0 → ∃ t c, CompIs F fs rows 0 (some (t, c)) ∧ AnsV w' (fun y => W.heap.size ≤ y ∧ y < w'.heap.size) F t c (.agg #[.int .i64 k, .int .i64 rw, .slice pa pl pc, .slice ca cl cc, .slice ea el ec]) (.agg #[.bool b, .slice a1 l1 c1, .slice a2 l2 c2]))
theorem TrV.five {w : World} {S : Nat → Prop} : ∀ (F : Nat) (x : Value) (t : Tr F), TrV w S F x t → ∃ k rw pa pl pc ca cl cc ea el ec, x = .agg #[.int .i64 k, .int .i64 rw, .slice pa pl pc, .slice ca cl cc, .slice ea el ec]
  | 0, _, _, h => ⟨_, _, _, _, _, _, _, _, _, _, _, h⟩
  | _ + 1, _, _, ⟨_, _, _, _, _, _, h, _⟩ => ⟨_, _, _, _, _, _, _, _, _, _, _, h⟩
theorem comp_first {F : Nat} (hF : F = 5001) {w : World} {S : Nat → Prop} (fs : List Fam) (rows : List (List Pt)) (fa : Option Addr) (fc : Nat) (rv : Value) (hS : ∀ b, S b → b < w.heap.size) (hFm : Fams w S (.slice fa fs.length fc) fs) (hR : RowsAt w S rv rows) (hfl : fs.length ≤ 100000) (hfs : (fs.map fun f => f.1.length).sum ≤ 10000) (hsz : (rows.map szs).sum ≤ 100000) :
    Calls Try.prog 8 #[.slice fa fs.length fc, rv] w (FirstPost F fs rows w) := by
  refine Calls.mono (compile_any hF fs rows fa fc rv hS hFm hR hfl hfs hsz) ?_
  clear hF
  rintro r w' ⟨hb, ⟨e, _, he, rfl⟩ | ⟨t, c, x, ad1, c1, ad2, c2, hc, rfl, ht, h1, h2⟩⟩
  · exact ⟨hb, _, _, _, _, _, _, _, _, _, _, _, _, _, _, _, _, _, _, e, rfl, fun h => absurd h he⟩
  · obtain ⟨k, rw', pa, pl, pc, ca, cl, cc, ea, el, ec, rfl⟩ := TrV.five _ _ _ ht
    exact ⟨hb, _, _, _, _, _, _, _, _, _, _, _, _, _, _, _, _, _, _, 0, rfl, fun _ => ⟨t, c, hc, ht, _, _, _, _, rfl, h1, h2⟩⟩
def AgainPost (F : Nat) (t : Tr F) (c : Cv F) (W : World) (r : Ending) (w' : World) : Prop := Below W.heap.size W w' ∧ ∃ k rw pa pl pc ca cl cc ea el ec b a1 l1 c1 a2 l2 c2, r = .returned (.tuple #[.agg #[.int .i64 k, .int .i64 rw, .slice pa pl pc, .slice ca cl cc, .slice ea el ec], .agg #[.bool b, .slice a1 l1 c1, .slice a2 l2 c2], .int .i64 0]) ∧ AnsV w' (fun y => W.heap.size ≤ y ∧ y < w'.heap.size) F t c (.agg #[.int .i64 k, .int .i64 rw, .slice pa pl pc, .slice ca cl cc, .slice ea el ec]) (.agg #[.bool b, .slice a1 l1 c1, .slice a2 l2 c2])
theorem comp_again {F : Nat} (hF : F = 5001) {w : World} {S : Nat → Prop} (fs : List Fam) (rows : List (List Pt)) {t : Tr F} {c : Cv F} (hc : CompIs F fs rows 0 (some (t, c))) (fa : Option Addr) (fc : Nat) (rv : Value) (hS : ∀ b, S b → b < w.heap.size) (hFm : Fams w S (.slice fa fs.length fc) fs) (hR : RowsAt w S rv rows) (hfl : fs.length ≤ 100000) (hfs : (fs.map fun f => f.1.length).sum ≤ 10000) (hsz : (rows.map szs).sum ≤ 100000) :
    Calls Try.prog 8 #[.slice fa fs.length fc, rv] w (AgainPost F t c w) := by
  refine Calls.mono (compile_any hF fs rows fa fc rv hS hFm hR hfl hfs hsz) ?_
  clear hF
  rintro r w' ⟨hb, ⟨e, h', he, rfl⟩ | ⟨t', c', x, ad1, c1, ad2, c2, h', rfl, ht, h1, h2⟩⟩
  · exact absurd (comp_one hc h').1 he
  · obtain ⟨_, e⟩ := comp_one hc h'
    injection e with e
    injection e with e1 e2
    subst e1 e2
    obtain ⟨k, rw', pa, pl, pc, ca, cl, cc, ea, el, ec, rfl⟩ := TrV.five _ _ _ ht
    exact ⟨hb, _, _, _, _, _, _, _, _, _, _, _, _, _, _, _, _, _, _, rfl, ht, _, _, _, _, rfl, h1, h2⟩
theorem both_same {F : Nat} (hF : F ≤ 100000) {fs : List Fam} {rows : List (List Pt)} {t : Tr F} {c : Cv F} (hc : CompIs F fs rows 0 (some (t, c))) {w : World} {S : Nat → Prop} (hS : ∀ y, S y → y < w.heap.size) {x y x' y' : Value} (h1 : AnsV w S F t c x y) (h2 : AnsV w S F t c x' y') :
    (Calls Try.prog 13 #[x, x'] w fun r w' => r = .returned (.bool true) ∧ Below w.heap.size w w') ∧ Calls Try.prog 14 #[y, y'] w fun r w' => r = .returned (.bool true) ∧ Below w.heap.size w w' := by
  obtain ⟨hsm, hsh, hl1, hl2⟩ := comp_fine hF hc
  obtain ⟨t1, a1, c1, a2, c2, rfl, n1, p1⟩ := h1
  obtain ⟨t2, a1', c1', a2', c2', rfl, n2, p2⟩ := h2
  refine ⟨same_any F t hsm hsh w S _ _ hS t1 t2, ?_⟩
  have := cov_same (F + 2) c.1 c.2.1 (c.2.2.map fun u => (⟨F + 1, u⟩ : Pt)) a1 a1' a2 a2' c1 c1' c2 c2' hS (by omega) (by rw [List.length_map]; omega) (fun p hp => by obtain ⟨u, _, rfl⟩ := List.mem_map.1 hp; show F + 1 < _; omega) n1 n2 (by rw [List.length_map]; exact p1) (by rw [List.length_map]; exact p2)
  rw [List.length_map] at this
  exact this
theorem deep_all : ∀ ps : List Pt, ∃ D, ∀ p ∈ ps, p.1 < D
  | [] => ⟨0, fun p hp => by simp at hp⟩
  | q :: ps => by
    obtain ⟨D, h⟩ := deep_all ps
    refine ⟨max D (q.1 + 1), fun p hp => ?_⟩
    rcases List.mem_cons.1 hp with rfl | hp
    · omega
    · have := h p hp; omega
end Go.Proofs.Ytpdmkhnonbbhnaa
