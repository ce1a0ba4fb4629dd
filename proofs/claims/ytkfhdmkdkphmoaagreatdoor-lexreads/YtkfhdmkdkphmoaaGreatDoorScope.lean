/- A scope with several labels: what holds at each jump, and a measure that every pass from a label lowers: then the scope goes through. -/
import Derived.Test.YtkfhdmkdkphmoaaGreatDoorRows
import Derived.WalkKit
import Derived.WalkMore
import Derived.ScopeJumps
namespace Go.Proofs.YtkfhdmkdkphmoaaGreatDoor
open Go

/-- As Q; by a goto to label l: J l. -/
def jumps (J : Nat → Act → World → Prop) (Q : Exit → Act → World → Prop) : Exit → Act → World → Prop
  | .goto l, a, w => J l a w
  | e, a, w => Q e a w

section
variable {P : Program} {a : Act} {w : World} {Q : Exit → Act → World → Prop} {J : Nat → Act → World → Prop}
theorem jumps_goto {l : Nat} (h : J l a w) : jumps J Q (.goto l) a w := h
theorem jumps_ret (h : Q .ret a w) : jumps J Q .ret a w := h
theorem jumps_normal (h : Q .normal a w) : jumps J Q .normal a w := h

theorem wp_scope_labels {c : Code} (J : Nat → Act → World → Prop) (μ : Nat → Act → World → Nat)
    (first : c.wp P (jumps J Q) a w)
    (pass : ∀ l a w, J l a w → ∃ rest, findLabel c l = some rest ∧ rest.wp P (jumps (fun l' a' w' => J l' a' w' ∧ μ l' a' w' < μ l a w) Q) a w) : (Code.scope c).wp P Q a w := by
  intro b k cs
  have key : ∀ n l a w, μ l a w = n → J l a w → ∃ rest, findLabel c l = some rest ∧ ∃ e a' w', Q e a' w' ∧ Arrives P (lone (b.at a (.code rest :: .inScope c :: k)) cs w) b k cs e a' w' := by
    intro n
    induction n using Nat.strongRecOn with
    | _ n ih =>
      intro l a w hn hJ
      obtain ⟨rest, hf, hp⟩ := pass l a w hJ
      refine ⟨rest, hf, ?_⟩
      obtain ⟨e, a₁, w₁, hq, harr⟩ := hp b (.inScope c :: k) cs
      cases e with
      | normal => exact ⟨.normal, a₁, w₁, hq, Steps.trans harr (.one step_inScope)⟩
      | exit id => exact ⟨.exit id, a₁, w₁, hq, fun k' hk => harr k' (by simp [exitTo, hk])⟩
      | goto l' =>
        obtain ⟨hJ', hlt⟩ := hq
        obtain ⟨rest', hf', e₂, a₂, w₂, hq₂, harr₂⟩ := ih _ (by omega) l' a₁ w₁ rfl hJ'
        have hg : gotoIn l' (.inScope c :: k) = some (.code rest' :: .inScope c :: k) := by simp [gotoIn, hf']
        exact ⟨e₂, a₂, w₂, hq₂, .of_steps (harr _ hg) harr₂⟩
      | ret => exact ⟨_, a₁, w₁, hq, harr⟩
      | panic ch => exact ⟨_, a₁, w₁, hq, harr⟩
      | outgrown => exact ⟨_, a₁, w₁, hq, harr⟩
  obtain ⟨e, a₁, w₁, hq, harr⟩ := first b (.inScope c :: k) cs
  cases e with
  | normal => exact ⟨.normal, a₁, w₁, hq, .head step_scope (Steps.trans harr (.one step_inScope))⟩
  | exit id => exact ⟨.exit id, a₁, w₁, hq, fun k' hk => .head step_scope (harr k' (by simp [exitTo, hk]))⟩
  | goto l' =>
    obtain ⟨rest', hf', e₂, a₂, w₂, hq₂, harr₂⟩ := key _ l' a₁ w₁ rfl hq
    have hg : gotoIn l' (.inScope c :: k) = some (.code rest' :: .inScope c :: k) := by simp [gotoIn, hf']
    exact ⟨e₂, a₂, w₂, hq₂, .of_steps (.head step_scope (harr _ hg)) harr₂⟩
  | ret => exact ⟨_, a₁, w₁, hq, .of_steps (.one step_scope) harr⟩
  | panic ch => exact ⟨_, a₁, w₁, hq, .of_steps (.one step_scope) harr⟩
  | outgrown => exact ⟨_, a₁, w₁, hq, .of_steps (.one step_scope) harr⟩

/-- The same, where the run comes to the first label by falling into it; each label stands at the head of a row. -/
theorem wp_scope_entry {pre rest : Code} (l : Nat) (J : Nat → Act → World → Prop) (μ : Nat → Act → World → Nat)
    (hf : findLabel (pre.seq ((Code.label l).seq rest)) l = some (Code.skip.seq rest))
    (start : pre.wp P (fun e a' w' => e = .normal ∧ J l a' w') a w)
    (pass : ∀ l' a w, J l' a w → ∃ r, findLabel (pre.seq ((Code.label l).seq rest)) l' = some (Code.skip.seq r) ∧ r.wp P (jumps (fun l'' a' w' => J l'' a' w' ∧ μ l'' a' w' < μ l' a w) Q) a w) :
    (Code.scope (pre.seq ((Code.label l).seq rest))).wp P Q a w := by
  refine wp_scope_labels J μ ?_ (fun l' a w h => ?_)
  · refine wp_seq ?_
    refine wp_mono start ?_
    rintro e a₁ w₁ ⟨rfl, hJ⟩
    refine wp_seq ?_
    refine wp_label ?_
    obtain ⟨r, hr, h⟩ := pass l a₁ w₁ hJ
    rw [hf] at hr
    obtain rfl : rest = r := by simpa using hr
    refine wp_mono h ?_
    intro e a₂ w₂ hq
    cases e with
    | goto l' => exact hq.1
    | normal => exact hq
    | exit id => exact hq
    | ret => exact hq
    | panic ch => exact hq
    | outgrown => exact hq
  · obtain ⟨r, hr, h'⟩ := pass l' a w h
    exact ⟨_, hr, wp_seq (wp_skip h')⟩

/-- A jump is gone on with where it leads. -/
def goes (P : Program) (c : Code) (X : Exit → Act → World → Prop) (l : Nat) (a : Act) (w : World) : Prop :=
  ∃ r, findLabel c l = some (Code.skip.seq r) ∧ r.wp P X a w

/-- A scope that is left behind at most two jumps. -/
theorem wp_scope_two {c : Code} (first : c.wp P (jumps (goes P c (jumps (goes P c (jumps (fun _ _ _ => False) Q)) Q)) Q) a w) : (Code.scope c).wp P Q a w := by
  intro b k cs
  obtain ⟨e, a₁, w₁, hq, harr⟩ := first b (.inScope c :: k) cs
  cases e with
  | normal => exact ⟨.normal, a₁, w₁, hq, .head step_scope (Steps.trans harr (.one step_inScope))⟩
  | exit id => exact ⟨.exit id, a₁, w₁, hq, fun k' hk => .head step_scope (harr k' (by simp [exitTo, hk]))⟩
  | ret => exact ⟨_, a₁, w₁, hq, .of_steps (.one step_scope) harr⟩
  | panic ch => exact ⟨_, a₁, w₁, hq, .of_steps (.one step_scope) harr⟩
  | outgrown => exact ⟨_, a₁, w₁, hq, .of_steps (.one step_scope) harr⟩
  | goto l =>
    obtain ⟨r, hf, hr⟩ := hq
    have hg : gotoIn l (.inScope c :: k) = some (.code (Code.skip.seq r) :: .inScope c :: k) := by simp [gotoIn, hf]
    obtain ⟨e₂, a₂, w₂, hq₂, harr₂⟩ := (wp_seq (wp_skip hr)) b (.inScope c :: k) cs
    have pre := Steps.head step_scope (harr _ hg)
    cases e₂ with
    | normal => exact ⟨.normal, a₂, w₂, hq₂, Steps.trans pre (Steps.trans harr₂ (.one step_inScope))⟩
    | exit id => exact ⟨.exit id, a₂, w₂, hq₂, fun k' hk => Steps.trans pre (harr₂ k' (by simp [exitTo, hk]))⟩
    | ret => exact ⟨_, a₂, w₂, hq₂, .of_steps pre harr₂⟩
    | panic ch => exact ⟨_, a₂, w₂, hq₂, .of_steps pre harr₂⟩
    | outgrown => exact ⟨_, a₂, w₂, hq₂, .of_steps pre harr₂⟩
    | goto l' =>
      obtain ⟨r', hf', hr'⟩ := hq₂
      have hg' : gotoIn l' (.inScope c :: k) = some (.code (Code.skip.seq r') :: .inScope c :: k) := by simp [gotoIn, hf']
      obtain ⟨e₃, a₃, w₃, hq₃, harr₃⟩ := (wp_seq (wp_skip hr')) b (.inScope c :: k) cs
      have pre' := Steps.trans pre (harr₂ _ hg')
      cases e₃ with
      | normal => exact ⟨.normal, a₃, w₃, hq₃, Steps.trans pre' (Steps.trans harr₃ (.one step_inScope))⟩
      | exit id => exact ⟨.exit id, a₃, w₃, hq₃, fun k' hk => Steps.trans pre' (harr₃ k' (by simp [exitTo, hk]))⟩
      | ret => exact ⟨_, a₃, w₃, hq₃, .of_steps pre' harr₃⟩
      | panic ch => exact ⟨_, a₃, w₃, hq₃, .of_steps pre' harr₃⟩
      | outgrown => exact ⟨_, a₃, w₃, hq₃, .of_steps pre' harr₃⟩
      | goto l'' => exact hq₃.elim

/-- What a jump of a scope with one label that is come back to may lead to: that label again, lower; or another one, and from there that one. -/
def loops (P : Program) (c : Code) (l₀ : Nat) (J : Act → World → Prop) (Q : Exit → Act → World → Prop) (l : Nat) (a : Act) (w : World) : Prop :=
  (l = l₀ ∧ J a w) ∨ (l ≠ l₀ ∧ goes P c (jumps (fun l' a' w' => l' = l₀ ∧ J a' w') Q) l a w)

theorem wp_scope_loop {pre rest : Code} (l₀ : Nat) (J : Act → World → Prop) (μ : Act → World → Nat)
    (hf : findLabel (pre.seq ((Code.label l₀).seq rest)) l₀ = some (Code.skip.seq rest))
    (start : pre.wp P (fun e a' w' => e = .normal ∧ J a' w') a w)
    (pass : ∀ a w, J a w → rest.wp P (jumps (loops P (pre.seq ((Code.label l₀).seq rest)) l₀ (fun a' w' => J a' w' ∧ μ a' w' < μ a w) Q) Q) a w) :
    (Code.scope (pre.seq ((Code.label l₀).seq rest))).wp P Q a w := by
  generalize hc : pre.seq ((Code.label l₀).seq rest) = c at hf pass
  intro b k cs
  have hg : gotoIn l₀ (.inScope c :: k) = some (.code (Code.skip.seq rest) :: .inScope c :: k) := by simp [gotoIn, hf]
  have key : ∀ n a w, μ a w = n → J a w → ∃ e a' w', Q e a' w' ∧ Arrives P (lone (b.at a (.code rest :: .inScope c :: k)) cs w) b k cs e a' w' := by
    intro n
    induction n using Nat.strongRecOn with
    | _ n ih =>
      intro a w hn hJ
      obtain ⟨e, a₁, w₁, hq, harr⟩ := pass a w hJ b (.inScope c :: k) cs
      have again : ∀ a₁ w₁, J a₁ w₁ → μ a₁ w₁ < μ a w → ∃ e a' w', Q e a' w' ∧ Arrives P (lone (b.at a₁ (.code (Code.skip.seq rest) :: .inScope c :: k)) cs w₁) b k cs e a' w' := by
        intro a₁ w₁ hJ' hlt
        obtain ⟨e₂, a₂, w₂, hq₂, harr₂⟩ := ih _ (by omega) a₁ w₁ rfl hJ'
        exact ⟨e₂, a₂, w₂, hq₂, .of_steps (.head step_seq (.one step_skip)) harr₂⟩
      cases e with
      | normal => exact ⟨.normal, a₁, w₁, hq, Steps.trans harr (.one step_inScope)⟩
      | exit id => exact ⟨.exit id, a₁, w₁, hq, fun k' hk => harr k' (by simp [exitTo, hk])⟩
      | ret => exact ⟨_, a₁, w₁, hq, harr⟩
      | panic ch => exact ⟨_, a₁, w₁, hq, harr⟩
      | outgrown => exact ⟨_, a₁, w₁, hq, harr⟩
      | goto l' =>
        rcases hq with ⟨rfl, hJ', hlt⟩ | ⟨_, r, hr, hw⟩
        · obtain ⟨e₂, a₂, w₂, hq₂, harr₂⟩ := again a₁ w₁ hJ' hlt
          exact ⟨e₂, a₂, w₂, hq₂, .of_steps (harr _ hg) harr₂⟩
        · have hg' : gotoIn l' (.inScope c :: k) = some (.code (Code.skip.seq r) :: .inScope c :: k) := by simp [gotoIn, hr]
          obtain ⟨e₂, a₂, w₂, hq₂, harr₂⟩ := (wp_seq (wp_skip hw)) b (.inScope c :: k) cs
          have pre' := harr _ hg'
          cases e₂ with
          | normal => exact ⟨.normal, a₂, w₂, hq₂, Steps.trans pre' (Steps.trans harr₂ (.one step_inScope))⟩
          | exit id => exact ⟨.exit id, a₂, w₂, hq₂, fun k' hk => Steps.trans pre' (harr₂ k' (by simp [exitTo, hk]))⟩
          | ret => exact ⟨_, a₂, w₂, hq₂, .of_steps pre' harr₂⟩
          | panic ch => exact ⟨_, a₂, w₂, hq₂, .of_steps pre' harr₂⟩
          | outgrown => exact ⟨_, a₂, w₂, hq₂, .of_steps pre' harr₂⟩
          | goto l'' =>
            obtain ⟨rfl, hJ', hlt⟩ := hq₂
            obtain ⟨e₃, a₃, w₃, hq₃, harr₃⟩ := again a₂ w₂ hJ' hlt
            exact ⟨e₃, a₃, w₃, hq₃, .of_steps (Steps.trans pre' (harr₂ _ hg)) harr₃⟩
  obtain ⟨e, a₁, w₁, ⟨rfl, hJ⟩, harr⟩ := start b (.code ((Code.label l₀).seq rest) :: .inScope c :: k) cs
  obtain ⟨e₂, a₂, w₂, hq₂, harr₂⟩ := key _ a₁ w₁ rfl hJ
  refine ⟨e₂, a₂, w₂, hq₂, .of_steps ?_ harr₂⟩
  refine .head step_scope ?_
  subst hc
  exact .head step_seq (Steps.trans harr (.head step_seq (.one step_label)))
end
end Go.Proofs.YtkfhdmkdkphmoaaGreatDoor
