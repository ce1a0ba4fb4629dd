/- A scope with one label that is come back to, with two statements ahead of that label. -/
import Derived.Test.YtkfhdmkdkphmoaaGreatDoorScope
namespace Go.Proofs.YtkfhdmkdkphmoaaGreatDoor
open Go
section
variable {P : Program} {a : Act} {w : World} {Q : Exit → Act → World → Prop}
theorem wp_scope_loop2 {p1 p2 rest : Code} (l₀ : Nat) (J : Act → World → Prop) (μ : Act → World → Nat)
    (hf : findLabel (p1.seq (p2.seq ((Code.label l₀).seq rest))) l₀ = some (Code.skip.seq rest))
    (start : p1.wp P (fun e a' w' => e = .normal ∧ p2.wp P (fun e a' w' => e = .normal ∧ J a' w') a' w') a w)
    (pass : ∀ a w, J a w → rest.wp P (jumps (loops P (p1.seq (p2.seq ((Code.label l₀).seq rest))) l₀ (fun a' w' => J a' w' ∧ μ a' w' < μ a w) Q) Q) a w) :
    (Code.scope (p1.seq (p2.seq ((Code.label l₀).seq rest)))).wp P Q a w := by
  generalize hc : p1.seq (p2.seq ((Code.label l₀).seq rest)) = c at hf pass
  intro b k cs
  have hg : gotoIn l₀ (.inScope c :: k) = some (.code (Code.skip.seq rest) :: .inScope c :: k) := by simp [gotoIn, hf]
  have key : ∀ n a w, μ a w = n → J a w → ∃ e a' w', Q e a' w' ∧ Arrives P (lone (b.at a (.code rest :: .inScope c :: k)) cs w) b k cs e a' w' := by
    intro n
    induction n using Nat.strongRecOn with
    | _ n ih =>
      intro a w hn hJ
      obtain ⟨e, a₁, w₁, hq, harr⟩ := pass a w hJ b (.inScope c :: k) cs
      have again : ∀ a₁ w₁, J a₁ w₁ → μ a₁ w₁ < μ a w → ∃ e a' w', Q e a' w' ∧ Arrives P (lone (b.at a₁ (.code (Code.skip.seq rest) :: .inScope c :: k)) cs w₁) b k cs e a' w' := by
        intro a₁ w₁ hJ' hlt
        obtain ⟨e₂, a₂, w₂, hq₂, harr₂⟩ := ih _ (by omega) a₁ w₁ rfl hJ'
        exact ⟨e₂, a₂, w₂, hq₂, .of_steps (.head step_seq (.one step_skip)) harr₂⟩
      cases e with
      | normal => exact ⟨.normal, a₁, w₁, hq, Steps.trans harr (.one step_inScope)⟩
      | exit id => exact ⟨.exit id, a₁, w₁, hq, fun k' hk => harr k' (by simp [exitTo, hk])⟩
      | ret => exact ⟨_, a₁, w₁, hq, harr⟩
      | panic ch => exact ⟨_, a₁, w₁, hq, harr⟩
      | outgrown => exact ⟨_, a₁, w₁, hq, harr⟩
      | goto l' =>
        rcases hq with ⟨rfl, hJ', hlt⟩ | ⟨_, r, hr, hw⟩
        · obtain ⟨e₂, a₂, w₂, hq₂, harr₂⟩ := again a₁ w₁ hJ' hlt
          exact ⟨e₂, a₂, w₂, hq₂, .of_steps (harr _ hg) harr₂⟩
        · have hg' : gotoIn l' (.inScope c :: k) = some (.code (Code.skip.seq r) :: .inScope c :: k) := by simp [gotoIn, hr]
          obtain ⟨e₂, a₂, w₂, hq₂, harr₂⟩ := (wp_seq (wp_skip hw)) b (.inScope c :: k) cs
          have pre' := harr _ hg'
          cases e₂ with
          | normal => exact ⟨.normal, a₂, w₂, hq₂, Steps.trans pre' (Steps.trans harr₂ (.one step_inScope))⟩
          | exit id => exact ⟨.exit id, a₂, w₂, hq₂, fun k' hk => Steps.trans pre' (harr₂ k' (by simp [exitTo, hk]))⟩
          | ret => exact ⟨_, a₂, w₂, hq₂, .of_steps pre' harr₂⟩
          | panic ch => exact ⟨_, a₂, w₂, hq₂, .of_steps pre' harr₂⟩
          | outgrown => exact ⟨_, a₂, w₂, hq₂, .of_steps pre' harr₂⟩
          | goto l'' =>
            obtain ⟨rfl, hJ', hlt⟩ := hq₂
            obtain ⟨e₃, a₃, w₃, hq₃, harr₃⟩ := again a₂ w₂ hJ' hlt
            exact ⟨e₃, a₃, w₃, hq₃, .of_steps (Steps.trans pre' (harr₂ _ hg)) harr₃⟩
  obtain ⟨e, a₀, w₀, ⟨rfl, h0⟩, harr0⟩ := start b (.code (p2.seq ((Code.label l₀).seq rest)) :: .inScope c :: k) cs
  obtain ⟨e, a₁, w₁, ⟨rfl, hJ⟩, harr⟩ := h0 b (.code ((Code.label l₀).seq rest) :: .inScope c :: k) cs
  obtain ⟨e₂, a₂, w₂, hq₂, harr₂⟩ := key _ a₁ w₁ rfl hJ
  refine ⟨e₂, a₂, w₂, hq₂, .of_steps ?_ harr₂⟩
  refine .head step_scope ?_
  subst hc
  exact .head step_seq (Steps.trans harr0 (.head step_seq (Steps.trans harr (.head step_seq (.one step_label)))))
end
end Go.Proofs.YtkfhdmkdkphmoaaGreatDoor
