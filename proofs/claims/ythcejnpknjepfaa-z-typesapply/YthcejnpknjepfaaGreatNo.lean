/- The program's nodesOf. -/
import Derived.Test.YthcejnpknjepfaaGreatMvx
import Derived.Test.YthcejnpknjepfaaGreatMlx
namespace Go.Proofs.YthcejnpknjepfaaGreat
open Go.RowKit

set_option maxHeartbeats 8000000 in
set_option maxRecDepth 10000 in
theorem nodesOf_any : ∀ (d : Nat) (x : Value) (t : Tn d) (w : World) (B : Nat), B ≤ w.heap.size → TyAt w B d x t → (flat d t).length ≤ 4194304 →
    Calls Tryz.prog 90 #[x] w fun r w' => r = .returned (.int .i64 (flat d t).length) ∧ Below w.heap.size w w'
  | 0, _, _, _, _, _, h, _ => h.elim
  | d + 1, x, ((k, n), ts), w, B, hB, ⟨v, hx, _, h2, hr⟩, hl => by
    have IH := fun (x : Value) (t : Tn d) (W : World) => nodesOf_any d x t W B
    simp only at hx h2 hr
    subst hx
    obtain ⟨ad, cap, hv, hcl⟩ := hr.cells
    subst hv
    have hfl : (flat (d + 1) ((k, n), ts)).length = (flats d ts).length + 1 := by rw [flat_succ, List.length_cons]
    rw [hfl] at hl ⊢
    have HCL : Hid (ts ≠ [] → ∃ g o, ad = some ⟨g, o, none⟩ ∧ ts.length ≤ cap ∧ g < B ∧ ∀ j (h : j < ts.length), ∃ k n ad' len' cap', (∀ w', Below B w w' → w'.cell? ⟨g, o + j * 3, none⟩ = some (.int .i64 k) ∧ w'.cell? ⟨g, o + j * 3 + 1, none⟩ = some (.string n) ∧ w'.cell? ⟨g, o + j * 3 + 2, none⟩ = some (.slice ad' len' cap')) ∧ TyAt w B d (.agg #[.int .i64 k, .string n, .slice ad' len' cap']) ts[j]) := hcl
    have HIH : Hid (∀ (x : Value) (t : Tn d) (W : World), B ≤ W.heap.size → TyAt W B d x t → (flat d t).length ≤ 4194304 → Calls Tryz.prog 90 #[x] W fun r w' => r = .returned (.int .i64 (flat d t).length) ∧ Below W.heap.size W w') := IH
    have H0 : Hid (Below w.heap.size w (w.alloc (Obj.cells #[.int .i64 k, .string ⟨n.toArray⟩, .slice ad ts.length cap] 25))) := (Below.refl _ _).alloc (Nat.le_refl _) _
    have HL : Hid ((flats d ts).length + 1 ≤ 4194304) := hl
    clear hcl IH hr hfl hl
    go_enter Tryz.func90, Tryz.ntmps90
    go_wp2
    go_loopw [3, 9] (fun c i wr => ∃ j : Nat, j ≤ ts.length ∧ i = .int .i64 j ∧ c = .int .i64 (((flats d (ts.take j)).length + 1 : Nat)) ∧ Hid (Below w.heap.size w wr)) (fun _ i _ => ts.length - (intOf i).toNat)
    case atStart => exact ⟨0, by omega, by go_num, by simp [flats], H0.out⟩
    case round =>
      obtain ⟨j, hj, rfl, rfl, HP⟩ := hrel
      by_cases hlt : j < ts.length
      · have hlt' : (j : Int) < (ts.length : Int) := by omega
        obtain ⟨g0, o0, hadr, hcapt, hgB, hel⟩ := HCL.out (by intro e; rw [e] at hlt; simp at hlt)
        subst hadr
        obtain ⟨k1, n1, ad1, l1, cp1, hcel, T1⟩ := hel j hlt
        have hbw := HP.out
        obtain ⟨p0, p1, p2⟩ := hcel wr (hbw.mono hB)
        have hbU : Below wr.heap.size wr (wr.alloc (Obj.cells #[.int .i64 k1, .string n1, .slice ad1 l1 cp1] 25)) := (Below.refl _ _).alloc (Nat.le_refl _) _
        have hb2 := hbw.trans (hbU.mono hbw.size)
        have ht := flats_take ts j hlt
        have hle : (flat d ts[j]).length ≤ 4194304 := by have := HL.out; omega
        have CJ := HIH.out _ ts[j] _ (Nat.le_trans hB hb2.size) (T1.on (hb2.mono hB)) hle
        have hsum : (flats d (ts.take (j + 1))).length + 1 = ((flats d (ts.take j)).length + 1) + (flat d ts[j]).length := by
          rw [List.take_succ_eq_append_getElem hlt, flats_app, List.length_append, flats_cons, flats_nil, List.append_nil]
          omega
        have hbd : ((flats d (ts.take j)).length + 1) + (flat d ts[j]).length ≤ 4194304 := by have := HL.out; omega
        have HB2 : Hid (Below w.heap.size w (wr.alloc (Obj.cells #[.int .i64 k1, .string n1, .slice ad1 l1 cp1] 25))) := hb2
        have HSUM : Hid ((flats d (ts.take (j + 1))).length + 1 = ((flats d (ts.take j)).length + 1) + (flat d ts[j]).length) := hsum
        generalize (flats d (ts.take j)).length + 1 = c0 at *
        generalize (flat d ts[j]).length = c1 at *
        clear hel hcel T1 HP hbw hbU hb2 HCL HIH H0 HL ht hsum hle
        go_wp2_with (go_at_call 90; (with_reducible refine Calls.mono CJ ?_); rintro e' w2 ⟨rfl, hb3⟩)
        go_roundw
        case rel => exact ⟨j + 1, by omega, by go_num, by rw [HSUM.out]; simp, HB2.out.trans (hb3.mono HB2.out.size)⟩
        case measure => simp [intOf]; omega
      · have h1 : ¬ (j : Int) < (ts.length : Int) := by omega
        have HE : Hid (ts.take j = ts) := List.take_of_length_le (by omega)
        have HF := HP
        clear HCL HIH H0 HP
        go_wp2
        go_ret
        exact ⟨by rw [HE.out]; rfl, HF.out⟩
end Go.Proofs.YthcejnpknjepfaaGreat
