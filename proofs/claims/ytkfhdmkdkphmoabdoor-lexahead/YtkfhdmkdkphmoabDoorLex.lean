/- The contract of Lex: a text's tokens, or its fault, as the plain side says. -/
import Derived.Test.YtkfhdmkdkphmoabDoorCut
namespace Go.Proofs.YtkfhdmkdkphmoabDoor
open Go.RowKit

/-- A fault as it lies in memory. -/
def faultCells (c : Nat) (p : Int) : Array Value := #[.int .i64 c, .int .i64 0, .int .i64 p, .string ⟨#[]⟩]

def LexPost (w : World) (e : Ending) (w' : World) : Lexed → Prop
  | .error (c, p) => (∃ b, w.heap.size ≤ b ∧ e = .returned (.tuple #[.slice none 0 0, .iface 39 (.pointer (some ⟨b, 0, none⟩))]) ∧ w'.heap[b]? = some (.cells (faultCells c p) 30 (0, 0))) ∧ Below w.heap.size w w'
  | .ok ts => (∃ tk, e = .returned (.tuple #[tk, .nilIface]) ∧ w'.ownsRow w.heap.size 34 4 tk ts.length (rowCells ts)) ∧ Below w.heap.size w w'

theorem ownsRow_mono {w : World} {B C e size n : Nat} {v : Value} {xs : List Value} (h : w.ownsRow B e size v n xs) (hc : C ≤ B) : w.ownsRow C e size v n xs := by
  refine ⟨h.1, ?_⟩
  rcases h.2 with h0 | ⟨g, cap, cur, rfl, hg, rest⟩
  · exact .inl h0
  · exact .inr ⟨g, cap, cur, rfl, by omega, rest⟩

theorem stepL_err {l : List UInt8} {c : Nat} (h : stepL l = .error c) : c ≠ 0 := by
  unfold stepL at h
  split at h
  · cases h
  split at h
  · split at h
    · simp at h; omega
    · cases h
  split at h
  · cases h
  split at h
  · rename_i c' hc; simp at h; subst h; exact tokL_err hc
  · cases h
theorem lexL_err_ne {k n : Nat} {l : List UInt8} {c p : Nat} (h : lexL k l n = .error (c, p)) : c ≠ 0 := by
  induction l using (measure List.length).wf.induction generalizing k n with
  | _ l ih =>
    cases l with
    | nil => rw [lexL_nil] at h; cases h
    | cons x r =>
      rw [lexL_cons] at h
      split at h
      · rename_i e he
        simp at h
        rw [← h.1]
        exact stepL_err he
      · exact ih _ (by show (r.drop _).length < (x :: r).length; simp; omega) h
      · split at h
        · simp at h; omega
        · rename_i kd tx nm m hst hn
          cases hr : lexL (k + m) (r.drop (m - 1)) (n + 1) with
          | error y =>
            rw [hr] at h
            simp [Except.map] at h
            subst h
            exact ih _ (by show (r.drop _).length < (x :: r).length; simp; omega) hr
          | ok y => rw [hr] at h; cases h

set_option maxHeartbeats 4000000 in
set_option maxRecDepth 10000 in
theorem lex_any (s : ByteArray) (w : World) (hs : s.size ≤ 65536) (hC : Cl w) (h1 : 1 < w.heap.size) :
    Calls Tryd.prog 5 #[.string s] w fun e w' => LexPost w e w' (lexL 0 (rest s 0) 0) := by
  have hcell : (w.alloc (Obj.cells #[Value.string s, Value.int .i64 0, Value.int .i64 0, Value.slice none 0 0] 41)).heap[w.heap.size]? = some (.cells #[.string s, .int .i64 0, .int .i64 0, .slice none 0 0] 41 (0, 0)) := by
    show (w.heap.push _)[w.heap.size]? = _
    simp
  have hb0 := (Below.refl w.heap.size w).alloc (Nat.le_refl _) (Obj.cells #[Value.string s, Value.int .i64 0, Value.int .i64 0, Value.slice none 0 0] 41)
  have CT := cut_any s w.heap.size (w.alloc (Obj.cells #[Value.string s, Value.int .i64 0, Value.int .i64 0, Value.slice none 0 0] 41)) hs (hC.below hb0 h1) h1 hcell
  have HB : Hid (Below w.heap.size w (w.alloc (Obj.cells #[Value.string s, Value.int .i64 0, Value.int .i64 0, Value.slice none 0 0] 41))) := hb0
  clear hb0 hcell
  generalize hL : lexL 0 (rest s 0) 0 = R at CT
  cases R with
  | error x =>
    obtain ⟨c, p⟩ := x
    have hc0 : ¬ (c : Int) = 0 := by
      have := lexL_err_ne hL
      omega
    clear hL
    go_enter Tryd.func5, Tryd.ntmps5
    go_wp2_with (go_at_call 9; refine Calls.mono CT ?_; rintro e w1 ⟨rfl, ⟨a, tk, hc⟩, hb⟩; have k0 := (cell_block (i := 0) hc).trans rfl; have k1 := (cell_block (i := 1) hc).trans rfl)
    go_region
    all_goals (try go_wp2)
    have hz := hb.size
    simp only [World.size_alloc] at hz
    go_ret2
    refine ⟨⟨w1.heap.size, by omega, rfl, ?_⟩, ?_⟩
    · show (w1.heap.push _)[w1.heap.size]? = _
      simp [faultCells]
    · first | exact ((HB.out.trans hb).alloc (by omega) _).drew | exact ((HB.out.trans hb).drew).alloc (by show w.heap.size ≤ w1.heap.size; omega) _
  | ok ts =>
    clear hL
    go_enter Tryd.func5, Tryd.ntmps5
    go_wp2_with (go_at_call 9; refine Calls.mono CT ?_; rintro e w1 ⟨rfl, ⟨f, a, tk, hc, hown⟩, hb⟩; have k3 : w1.cell? ⟨w.heap.size, 3, none⟩ = some tk := (cell_block (i := 3) hc).trans rfl)
    go_ret2
    exact ⟨⟨tk, rfl, ownsRow_mono hown (by simp; omega)⟩, HB.out.trans hb⟩
end Go.Proofs.YtkfhdmkdkphmoabDoor
