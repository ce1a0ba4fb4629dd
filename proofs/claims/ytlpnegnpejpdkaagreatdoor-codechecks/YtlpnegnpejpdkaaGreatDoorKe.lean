/- Sets of names: names.add. -/
import Derived.Test.YtlpnegnpejpdkaaGreatDoorKc
import Derived.Test.YtlpnegnpejpdkaaGreatDoorKd
namespace Go.Proofs.YtlpnegnpejpdkaaGreatDoor
open Go.RowKit

/-- Block b is the set of the names l. -/
def Ns (w : World) (b : Nat) (l : List Byt) : Prop := ∃ m, m ≤ l.length ∧ Mv w b m (fun x => if l.contains x then some zeroK else none)
theorem Ns.lt {w : World} {b : Nat} {l : List Byt} (h : Ns w b l) : b < w.heap.size := by
  obtain ⟨m, _, h⟩ := h
  exact h.lt
theorem Ns.on {w w' : World} {b : Nat} {l : List Byt} (h : Ns w b l) (hb : w'.heap[b]? = w.heap[b]?) : Ns w' b l := by
  obtain ⟨m, h0, h⟩ := h
  exact ⟨m, h0, h.on hb⟩
theorem Ns.look {w : World} {b : Nat} {l : List Byt} (h : Ns w b l) (x : Byt) (hx : x.length < 140737488355328) : (Instr.lookup 108 (.map (some b)) (.string ⟨x.toArray⟩) true).run Tryz.prog w = .ok (.tuple #[.agg #[], .bool (l.contains x)]) w := by
  obtain ⟨m, _, h⟩ := h
  rw [h.look x hx]
  cases l.contains x <;> rfl
theorem Ns.put {w : World} {b : Nat} {l : List Byt} (h : Ns w b l) (x : Byt) (hx : x.length < 140737488355328) (hl : l.length < 100000) (hn : l.contains x = false) : ∃ w', (Instr.mapUpdate 108 (.map (some b)) (.string ⟨x.toArray⟩) (.agg #[])).run Tryz.prog w = .ok () w' ∧ Ns w' b (l ++ [x]) ∧ w.grownBy w' (some b) := by
  obtain ⟨m, h0, h⟩ := h
  obtain ⟨w', h1, h2, h3⟩ := h.put x hx (by omega) (by simp only [hn]; rfl) zeroK
  refine ⟨w', h1, ⟨m + 1, by simp; omega, ?_⟩, h3⟩
  have e : (fun y : Byt => if y = x then some zeroK else if l.contains y then some zeroK else none) = fun y => if (l ++ [x]).contains y then some zeroK else none := by
    funext y
    by_cases hy : y = x
    · subst hy
      simp
    · rw [if_neg hy]
      have : (l ++ [x]).contains y = l.contains y := by
        simp only [List.contains_eq_mem, List.mem_append, List.mem_singleton, hy, or_false]
      rw [this]
  rw [← e]
  exact h2
set_option maxRecDepth 10000 in
theorem add_any {w : World} {b B : Nat} {l : List Byt} (h : Ns w b l) (x : Byt) (hx : x.length < 140737488355328) (hl : l.length < 100000) (hB : B ≤ b) : Calls Tryz.prog 66 #[.map (some b), .string ⟨x.toArray⟩] w fun e w' => e = .returned (.bool (nameP x && !l.contains x)) ∧ Hid (Below B w w' ∧ (∀ y, y < w.heap.size → y ≠ b → w'.heap[y]? = w.heap[y]?) ∧ ((nameP x && !l.contains x) = true → Ns w' b (l ++ [x]))) := by
  have CN := isName_any x w hx
  have hlook := h.look x hx
  have HN : Hid (Ns w b l) := h
  have HB : Hid (B ≤ b ∧ b < w.heap.size) := ⟨hB, h.lt⟩
  clear hB
  generalize nameP x = r at *
  cases r with
  | false =>
    go_enter Tryz.func66, Tryz.ntmps66
    go_wp2_with (go_at_call 103; (with_reducible refine Calls.mono CN ?_); rintro e w' ⟨rfl, hw⟩; obtain rfl := hw.symm)
    go_ret
    exact ⟨rfl, Below.refl _ _, fun _ _ _ => rfl, fun h => by cases h⟩
  | true =>
    cases hc : l.contains x with
    | true =>
      rw [hc] at hlook
      go_enter Tryz.func66, Tryz.ntmps66
      go_wp2_with (go_at_call 103; (with_reducible refine Calls.mono CN ?_); rintro e w' ⟨rfl, hw⟩; obtain rfl := hw.symm)
      go_ret
      exact ⟨rfl, (Below.refl _ _).alloc (by have := HB.out; omega) _, fun y hy _ => Below.heap_alloc _ _ _ hy, fun h => by cases h⟩
    | false =>
      rw [hc] at hlook
      obtain ⟨w3, p1, p2, p3⟩ := (h.on (w' := w.alloc (.cells #[] 147)) (Below.heap_alloc _ _ _ h.lt)).put x hx hl hc
      have hs : (w.alloc (.cells #[] 147)).heap.size = w.heap.size + 1 := World.size_alloc _ _
      have HR : Hid (Below B w w3 ∧ (∀ y, y < w.heap.size → y ≠ b → w3.heap[y]? = w.heap[y]?) ∧ Ns w3 b (l ++ [x])) := ⟨((Below.refl _ _).alloc (by have := HB.out; omega) _).grown p3 (by have := HB.out; omega) fun k hk => by injection hk with hk; have := HB.out; omega, fun y hy hne => (p3.block y (by omega) fun e => by injection e with e; omega).trans (Below.heap_alloc _ _ _ hy), p2⟩
      clear h p2 p3 hs hc hl
      go_enter Tryz.func66, Tryz.ntmps66
      go_wp2_with (go_at_call 103; (with_reducible refine Calls.mono CN ?_); rintro e w' ⟨rfl, hw⟩; obtain rfl := hw.symm)
      go_ret
      exact ⟨rfl, HR.out.1, HR.out.2.1, fun _ => HR.out.2.2⟩
end Go.Proofs.YtlpnegnpejpdkaaGreatDoor
