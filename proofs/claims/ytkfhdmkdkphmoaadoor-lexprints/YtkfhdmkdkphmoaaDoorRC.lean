/- The reference's Print of a row that is too long or holds what is no token. The reference's Print of a row of tokens. The reference's Print of a row of tokens. The program's Print of a bad row, with its error; what is known of a token. Print of any row: the program's and the reference's answer is one; rows of tokens cell by cell; make, copy and append of such a row. same of two rows that hold the same tokens. LexPrints: the worlds between its steps, and that it answers true, whatever rows it is handed. -/
import Derived.Test.YtkfhdmkdkphmoaaDoorRB
import Derived.Test.YtkfhdmkdkphmoaaDoorYm
import Derived.Lib.SlBuf
import Derived.ArgAppend
import Derived.SizedLaws
import Derived.Deep.Cut
import Derived.Lib.AppendZeros
namespace Go.Proofs.YtkfhdmkdkphmoaaDoor
open Go.RowKit

set_option maxHeartbeats 4000000 in
set_option maxRecDepth 10000 in
theorem ref_print_bad (v : Value) (n : Nat) (K N A : Nat → Int) (S : Nat → ByteArray) (w : World) (hv : RowI w v n K S N A) (hn : n ≤ 9223372036854775807) (hS : ∀ j, j < n → (S j).size ≤ maxLen) (hK : ∀ j, j < n → -9223372036854775808 ≤ K j ∧ K j ≤ 9223372036854775807)
    (hbad : 20000 < n ∨ ∃ j, j < n ∧ isTokA (K j) (S j) (N j) = false) :
    Calls Tryd.prog 9 #[v] w fun e w' => e = .returned (.tuple #[.string ⟨#[]⟩, .int .i64 (if 20000 < n then 2 else 1)]) ∧ Below w.heap.size w w' := by
  by_cases hbig : 20000 < n
  · have hbig' : (20000 : Int) < (n : Int) := by omega
    rcases hv with ⟨ad, cap, rfl, rfl⟩ | ⟨g, o, cap, rfl, hcap, hg, hc⟩
    · omega
    · clear hc hbad hS
      rw [if_pos hbig]
      go_enter Tryd.func9, Tryd.ntmps9
      go_wp2
      go_ret2
      exact ⟨rfl, Below.refl _ _⟩
  · have hl : n ≤ 20000 := by omega
    have hex : ∃ j, j < n ∧ isTokA (K j) (S j) (N j) = false := hbad.resolve_left hbig
    have HX : Hid (∃ j, j < n ∧ isTokA (K j) (S j) (N j) = false) := hex
    rw [if_neg hbig]
    obtain ⟨B, hB⟩ : ∃ B, B = w.heap.size := ⟨_, rfl⟩
    rw [← hB]
    have HB : Hid (B = w.heap.size) := hB
    rcases hv with ⟨ad, cap, rfl, rfl⟩ | ⟨g, o, cap, rfl, hcap, hgw, hg⟩
    · obtain ⟨j, h1, _⟩ := hex
      omega
    · have hgB : g < B := by rw [hB]; exact hgw
      clear hB hgw hbad hbig hex hn
      go_enter Tryd.func9, Tryd.ntmps9
      go_wp2
      go_loopw [4] (fun i wr => ∃ j : Nat, j ≤ n ∧ i = .int .i64 j ∧ Below B w wr ∧ Hid (∀ i, i < j → isTokA (K i) (S i) (N i) = true)) (fun i _ => n - (intOf i).toNat)
      case atStart => exact ⟨0, by omega, by go_num, Below.refl _ _, fun i hi => by omega⟩
      case round =>
        obtain ⟨j, hj, rfl, hbel, HT⟩ := hrel
        have hBr : B ≤ wr.heap.size := by have := hbel.size; have := HB.out; omega
        by_cases hlt : j < n
        · obtain ⟨a0, a1, a2, a3⟩ := hg j hlt
          rw [← hbel.cell (p := ⟨g, o + j * 4, none⟩) hgB] at a0
          rw [← hbel.cell (p := ⟨g, o + j * 4 + 1, none⟩) hgB] at a1
          rw [← hbel.cell (p := ⟨g, o + j * 4 + 2, none⟩) hgB] at a2
          rw [← hbel.cell (p := ⟨g, o + j * 4 + 3, none⟩) hgB] at a3
          have hsj := hS j hlt
          have hkj := hK j hlt
          have IT : ∀ W, Calls Tryd.prog 18 #[.agg #[.int .i64 (K j), .string (S j), .int .i64 (N j), .int .i64 (A j)]] W fun e w' => e = .returned (.bool (isTokA (K j) (S j) (N j))) ∧ Below W.heap.size W w' := fun W => by
            have := ref_is (K j) (N j) (A j) (S j) W hsj hkj.1 hkj.2
            rw [ref_eq] at this
            exact this
          clear hg hS hsj hK hkj
          cases ht : isTokA (K j) (S j) (N j) with
          | true =>
            have HN : Hid (∀ i, i < j + 1 → isTokA (K i) (S i) (N i) = true) := fun i hi => by
              by_cases e : i = j
              · rw [e]; exact ht
              · exact HT.out i (by omega)
            rw [ht] at IT
            clear ht HT
            go_wp2_with (go_at_call 18; refine Calls.mono (IT _) ?_; rintro e w2 ⟨rfl, hb⟩)
            go_roundw
            case rel => exact ⟨j + 1, by omega, by go_num, hbel.trans (hb.mono hBr), HN⟩
            case measure => simp [intOf]; omega
          | false =>
            rw [ht] at IT
            clear ht HT
            go_wp2_with (go_at_call 18; refine Calls.mono (IT _) ?_; rintro e w2 ⟨rfl, hb⟩)
            go_ret2
            exact ⟨rfl, hbel.trans (hb.mono hBr)⟩
        · exfalso
          obtain ⟨i, h1, h2⟩ := HX.out
          have := HT.out i (by omega)
          rw [this] at h2
          cases h2
end Go.Proofs.YtkfhdmkdkphmoaaDoor

namespace Go.Proofs.YtkfhdmkdkphmoaaDoor
open Go.RowKit

/-- append(x, y...) of a row of bytes that is the call's own and one that can be read. -/
theorem wpList_append_read {w : World} {ops : Array Oper} {rest : List Oper} {o : Oper} {a : Act} {Q : Exit → Act → World → Prop} (hgd : o.guard = none) (s x : Operand)
    (ho : o.op = .call { callee := .builtin .append, args := #[s, x], argTypes := #[46, 46] })
    (B : Nat) (v u : Value) (ts us : List UInt8) (hs : a.eval s = v) (hx : a.eval x = u) (hown : w.ownsRow B 5 1 v ts.length (ts.map byteV)) (hown2 : Rowb w u us)
    (hl : ts.length + us.length ≤ 1000000000) (hB : B ≤ w.heap.size)
    (h : ∀ v' w', Grew B w w' v' (ts ++ us) → wpList Tryd.prog ops Q rest (a.put o.dst v') w') : wpList Tryd.prog ops Q (o :: rest) a w := by
  obtain ⟨i0, hi, hz0, hz1, hz2⟩ := info_parts Tryd.info5
  rcases hown2 with ⟨rfl, rfl⟩ | ⟨g, cap, rfl, hc⟩
  · refine wpList_append_own_none hgd s x 46 ho B 5 i0 1 Tryd.underlying46 hi v _ _ hs hown hx ?_
    refine h v w ⟨?_, Below.refl _ _⟩
    rw [List.append_nil]
    exact hown
  · refine wpList_append_own w hgd s x 46 ho B 5 i0 _ 1 1 Tryd.underlying46 hi hz0 hz1 hz2 rfl (by decide) v _ _ hs hown ⟨g, 0, none⟩ us.length cap (us.map byteV) hx (by simp) hc (by intro u hu; simp at hu; obtain ⟨c, _, rfl⟩ := hu; rfl) (by unfold maxLen; omega) (by omega) hB ?_
    intro v' w' h1 h2 _
    refine h v' w' ⟨?_, ?_⟩
    · rw [List.length_append, List.map_append]
      exact h1
    · exact (Below.refl B w).grown h2 hB (fun k hk => (hown.lt k hk).1)

theorem whole_app : ∀ (ts us : List Tk) (f : Bool), wholeA f (ts ++ us) = wholeA f ts ++ wholeA (f && ts.isEmpty) us := by
  intro ts
  induction ts with
  | nil => intro us f; simp [wholeA]
  | cons t r ih =>
    intro us f
    simp only [List.cons_append, wholeA]
    rw [ih]
    simp
theorem whole_step (ts : List Tk) (j : Nat) (h : j < ts.length) : wholeA true (ts.take (j + 1)) = wholeA true (ts.take j) ++ (if j = 0 then [] else [32]) ++ writeA ts[j].1 ts[j].2.2.1 ts[j].2.1 := by
  rw [List.take_succ_eq_append_getElem h, whole_app]
  by_cases h0 : j = 0
  · subst h0; simp [wholeA]
  · have : (ts.take j).isEmpty = false := by
      cases ts with
      | nil => simp at h
      | cons t r => cases j with
        | zero => exact absurd rfl h0
        | succ j => rfl
    rw [this]
    simp [wholeA, h0]
theorem whole_take_len (ts : List Tk) (j : Nat) : (wholeA true (ts.take j)).length ≤ (wholeA true ts).length := by
  have := whole_app (ts.take j) (ts.drop j) true
  rw [List.take_append_drop] at this
  rw [this, List.length_append]
  omega
end Go.Proofs.YtkfhdmkdkphmoaaDoor

namespace Go.Proofs.YtkfhdmkdkphmoaaDoor
open Go.RowKit

theorem own_formB {w : World} {B n : Nat} {v : Value} {xs : List Value} (h : w.ownsRow B 5 1 v n xs) : ∃ a c, v = .slice a n c := by
  rcases h.2 with ⟨rfl, rfl⟩ | ⟨g, cap, cur, rfl, _⟩
  · exact ⟨none, 0, rfl⟩
  · exact ⟨_, _, rfl⟩
theorem rowb_form {w : World} {v : Value} {l : List UInt8} (h : Rowb w v l) : ∃ a c, v = .slice a l.length c := by
  rcases h with ⟨rfl, rfl⟩ | ⟨g, cap, rfl, _⟩
  · exact ⟨none, 0, rfl⟩
  · exact ⟨_, _, rfl⟩

set_option maxHeartbeats 4000000 in
set_option maxRecDepth 10000 in
theorem ref_print_x (v : Value) (ts : List Tk) (A : Nat → Int) (w : World) (hv : RowX w v ts A) (hl : ts.length ≤ 20000) (h6 : ∀ t ∈ ts, t.1 = 6 → t.2.2.1 ≤ 4611686018427387903) (h7 : ∀ t ∈ ts, t.1 = 7 → t.2.2.1 < 256) (hsz : ∀ t ∈ ts, t.2.1.length ≤ 4611686018427387903) (hk : ∀ t ∈ ts, t.1 ≤ 11) (he : ∀ t ∈ ts, t.1 = 6 ∨ t.1 = 7 → t.2.1 = [])
    (hok : ∀ t ∈ ts, isTokA t.1 ⟨t.2.1.toArray⟩ t.2.2.1 = true) :
    Calls Tryd.prog 9 #[v] w fun e w' => e = .returned (joinVal (joinA true [] ts)) ∧ Below w.heap.size w w' := by
  rw [joinA_whole ts true [] he]
  obtain ⟨B, hB⟩ : ∃ B, B = w.heap.size := ⟨_, rfl⟩
  rw [← hB]
  have HB : Hid (B = w.heap.size) := hB
  rcases hv with ⟨ad0, cap0, rfl, rfl⟩ | ⟨g, o, cap, rfl, hcap, hgw, hg⟩
  · have HV : Hid (joinVal (if 65536 < ([] ++ wholeA true []).length then none else some ([] ++ wholeA true [])) = .tuple #[.string ⟨#[]⟩, .int .i64 0]) := rfl
    rw [HV.out]
    have CV := run_string_own (w := w) (B := 0) (v := .slice none 0 0) [] ⟨rfl, Or.inl ⟨rfl, rfl⟩⟩
    clear hB
    go_enter Tryd.func9, Tryd.ntmps9
    go_wp2
    refine wp_loop_rounds 1 ?_
    rw [rounds_succ]
    go_wp2
    refine wp_loop_rounds 1 ?_
    rw [rounds_succ]
    go_wp2
    go_ret2
    exact ⟨rfl, by rw [HB.out]; exact Below.refl _ _⟩
  · have hgB : g < B := by rw [hB]; exact hgw
    clear hB hgw
    generalize hJ : joinVal (if 65536 < ([] ++ wholeA true ts).length then none else some ([] ++ wholeA true ts)) = J
    have HJ : Hid (joinVal (if 65536 < ([] ++ wholeA true ts).length then none else some ([] ++ wholeA true ts)) = J) := hJ
    clear hJ
    go_enter Tryd.func9, Tryd.ntmps9
    go_wp2
    go_loopw [4] (fun i wr => ∃ j : Nat, j ≤ ts.length ∧ i = .int .i64 j ∧ Below B w wr) (fun i _ => ts.length - (intOf i).toNat)
    case atStart => exact ⟨0, by omega, by go_num, Below.refl _ _⟩
    case round =>
      obtain ⟨j, hj, rfl, hbel⟩ := hrel
      have hBr : B ≤ wr.heap.size := by have := hbel.size; have := HB.out; omega
      by_cases hlt : j < ts.length
      · obtain ⟨a0, a1, a2, a3⟩ := hg j hlt
        rw [← hbel.cell (p := ⟨g, o + j * 4, none⟩) hgB] at a0
        rw [← hbel.cell (p := ⟨g, o + j * 4 + 1, none⟩) hgB] at a1
        rw [← hbel.cell (p := ⟨g, o + j * 4 + 2, none⟩) hgB] at a2
        rw [← hbel.cell (p := ⟨g, o + j * 4 + 3, none⟩) hgB] at a3
        have hm := List.getElem_mem hlt
        have hok' := hok _ hm
        have hsj := hsz _ hm
        have hkj := hk _ hm
        have IT : ∀ W, Calls Tryd.prog 18 #[.agg #[.int .i64 ts[j].1, .string ⟨ts[j].2.1.toArray⟩, .int .i64 ts[j].2.2.1, .int .i64 (A j)]] W fun e w' => e = .returned (.bool true) ∧ Below W.heap.size W w' := fun W => by
          have := ref_is (ts[j].1 : Int) (ts[j].2.2.1 : Int) (A j) ⟨ts[j].2.1.toArray⟩ W (by show ts[j].2.1.toArray.size ≤ maxLen; unfold maxLen; simp; omega) (by omega) (by omega)
          rw [ref_eq, hok'] at this
          exact this
        clear hg h6 h7 hsz hok hm hok' hsj hk hkj he
        go_wp2_with (go_at_call 18; refine Calls.mono (IT _) ?_; rintro e w2 ⟨rfl, hb⟩)
        go_roundw
        case rel => exact ⟨j + 1, by omega, by go_num, hbel.trans (hb.mono hBr)⟩
        case measure => simp [intOf]; omega
      · have hlt' : (ts.length : Int) ≤ j := by omega
        go_wp2
        go_loopw [6, 7] (fun u i wq => ∃ k : Nat, k ≤ ts.length ∧ i = .int .i64 k ∧ Grew B w wq u (wholeA true (ts.take k)) ∧ (wholeA true (ts.take k)).length ≤ 65536) (fun _ i _ => ts.length - (intOf i).toNat)
        case atStart => exact ⟨0, by omega, by go_num, ⟨⟨rfl, Or.inl ⟨rfl, rfl⟩⟩, hbel⟩, by simp [wholeA]⟩
        case round =>
          obtain ⟨k, hkk, rfl, G, hlen⟩ := hrel
          have hBq : B ≤ wr.heap.size := by have := G.bel.size; have := HB.out; omega
          by_cases hltk : k < ts.length
          · obtain ⟨a0, a1, a2, a3⟩ := hg k hltk
            have hm := List.getElem_mem hltk
            have WR : ∀ W, Calls Tryd.prog 19 #[.agg #[.int .i64 ts[k].1, .string ⟨ts[k].2.1.toArray⟩, .int .i64 ts[k].2.2.1, .int .i64 (A k)]] W fun e w' => ∃ v l, e = .returned v ∧ Rowb w' v l ∧ Below W.heap.size W w' ∧ (l = writeA ts[k].1 ts[k].2.2.1 ts[k].2.1 ∨ (65536 < l.length ∧ 65536 < (writeA ts[k].1 ts[k].2.2.1 ts[k].2.1).length)) ∧ l.length ≤ 4611686018427453503 := fun W => by
              have hsj := hsz _ hm
              refine Calls.mono (ref_written ts[k].1 ts[k].2.2.1 (A k) ⟨ts[k].2.1.toArray⟩ W (h6 _ hm) (h7 _ hm) (by show ts[k].2.1.toArray.size ≤ maxLen; unfold maxLen; simp; omega) (hk _ hm)) ?_
              rintro e w' ⟨v, l, e1, e2, e3, e4, e5⟩
              refine ⟨v, l, e1, e2, e3, e4, ?_⟩
              have : (⟨ts[k].2.1.toArray⟩ : ByteArray).size = ts[k].2.1.length := by show ts[k].2.1.toArray.size = _; simp
              omega
            have HS := whole_step ts k hltk
            have HS' : Hid (wholeA true (ts.take (k + 1)) = wholeA true (ts.take k) ++ (if k = 0 then [] else [32]) ++ writeA ts[k].1 ts[k].2.2.1 ts[k].2.1) := HS
            have HL : Hid ((wholeA true (ts.take (k + 1))).length ≤ (wholeA true ts).length) := whole_take_len ts (k + 1)
            obtain ⟨WA, HW⟩ : ∃ WA, Hid (WA = writeA ts[k].1 ts[k].2.2.1 ts[k].2.1) := ⟨writeA ts[k].1 ts[k].2.2.1 ts[k].2.1, by show _ = _; rfl⟩
            obtain ⟨T, HT⟩ : ∃ T, Hid (T = wholeA true (ts.take k)) := ⟨wholeA true (ts.take k), by show _ = _; rfl⟩
            rw [← HW.out] at WR HS'
            rw [← HT.out] at G hlen HS'
            clear HS h6 h7 hsz hk he hok hm
            have HC : Hid (∀ W, Below B w W → W.cell? ⟨g, o + k * 4, none⟩ = some (.int .i64 ts[k].1) ∧ W.cell? ⟨g, o + k * 4 + 1, none⟩ = some (.string ⟨ts[k].2.1.toArray⟩) ∧ W.cell? ⟨g, o + k * 4 + 2, none⟩ = some (.int .i64 ts[k].2.2.1) ∧ W.cell? ⟨g, o + k * 4 + 3, none⟩ = some (.int .i64 (A k))) := fun W hW => ⟨(hW.cell (p := ⟨g, o + k * 4, none⟩) hgB).trans a0, (hW.cell (p := ⟨g, o + k * 4 + 1, none⟩) hgB).trans a1, (hW.cell (p := ⟨g, o + k * 4 + 2, none⟩) hgB).trans a2, (hW.cell (p := ⟨g, o + k * 4 + 3, none⟩) hgB).trans a3⟩
            obtain ⟨ab, cb, rfl⟩ := own_formB G.own
            clear hg a0 a1 a2 a3
            by_cases k0 : k = 0
            · rw [if_pos k0, List.append_nil] at HS'
              subst k0
              obtain ⟨a0, a1, a2, a3⟩ := HC.out wr G.bel
              clear HC
              simp only [Nat.zero_mul, Nat.add_zero] at a0 a1 a2 a3
              go_wp2_with (first | (go_at_call 19; refine Calls.mono (WR _) ?_; rintro e w1 ⟨v1, l1, rfl, R1, hb1, HO1, hl1⟩; obtain ⟨x1, c1, rfl⟩ := rowb_form R1; have HO2 : Hid (l1 = WA ∨ (65536 < l1.length ∧ 65536 < WA.length)) := HO1; clear HO1) | (at_builtin; refine wpList_append_read rfl _ _ rfl B _ _ T l1 rfl rfl (own_keep G.own hb1) R1 (by omega) (Nat.le_trans hBq hb1.size) ?_; intro v2 w2 G2))
              · rename_i hsum
                go_ret2
                refine ⟨?_, G.bel.trans (hb1.mono hBq)⟩
                rw [← HJ.out, if_pos]
                · rfl
                · have h1 := HL.out
                  rw [HS'.out, List.length_append] at h1
                  rw [List.nil_append]
                  rcases HO2.out with h2 | h2
                  · rw [h2] at hsum; omega
                  · omega
              · have hw : l1 = WA := HO2.out.resolve_right (by omega)
                go_roundw
                case rel =>
                  refine ⟨0 + 1, by omega, by go_num, ?_, ?_⟩
                  · rw [HS'.out, ← hw]
                    exact ⟨G2.own, (G.bel.trans (hb1.mono hBq)).trans G2.bel⟩
                  · rw [HS'.out, ← hw, List.length_append]
                    omega
                case measure => simp [intOf]; omega
            · rw [if_neg k0] at HS'
              have k0' : (0 : Int) < k := by omega
              clear k0
              go_wp2_with (first | (at_builtin; refine wpList_append_bytes rfl _ _ rfl B wr.heap.size _ _ T [32] rfl rfl (G.own.alloc _) (own_lit _ _ rfl _ (Nat.le_refl _) [32] #[.int .u8 32] 1 rfl rfl (by simp)) (by simp; omega) (by simp; omega) ?_; intro v2 w2 G2; obtain ⟨T2, HT2⟩ : ∃ T2, Hid (T2 = T ++ [32]) := ⟨T ++ [32], by show _ = _; rfl⟩; rw [← HT2.out] at G2; have bel2 := (G.bel.alloc hBq (.cells #[.int .u8 32] 5)).trans G2.bel; obtain ⟨a0, a1, a2, a3⟩ := HC.out w2 bel2; have hT2 : T2.length ≤ 65537 := (by rw [HT2.out, List.length_append]; simp; omega); have hB2 : B ≤ w2.heap.size := (by have := G2.bel.size; simp at this; omega); obtain ⟨ab2, cb2, rfl⟩ := own_formB G2.own) | (go_at_call 19; refine Calls.mono (WR _) ?_; rintro e w1 ⟨v1, l1, rfl, R1, hb1, HO1, hl1⟩; obtain ⟨x1, c1, rfl⟩ := rowb_form R1; have HO2 : Hid (l1 = WA ∨ (65536 < l1.length ∧ 65536 < WA.length)) := HO1; clear HO1) | (at_builtin; refine wpList_append_read rfl _ _ rfl B _ _ T2 l1 rfl rfl (own_keep G2.own hb1) R1 (by omega) (Nat.le_trans hB2 hb1.size) ?_; intro v3 w3 G3))
              · rename_i hsum
                go_ret2
                refine ⟨?_, bel2.trans (hb1.mono hB2)⟩
                rw [← HJ.out, if_pos]
                · rfl
                · have h1 := HL.out
                  rw [HS'.out, ← HT2.out, List.length_append] at h1
                  rw [List.nil_append]
                  rcases HO2.out with h2 | h2
                  · rw [h2] at hsum; omega
                  · omega
              · have hw : l1 = WA := HO2.out.resolve_right (by omega)
                go_roundw
                case rel =>
                  refine ⟨k + 1, by omega, by go_num, ?_, ?_⟩
                  · rw [HS'.out, ← HT2.out, ← hw]
                    exact ⟨G3.own, (bel2.trans (hb1.mono hB2)).trans G3.bel⟩
                  · rw [HS'.out, ← HT2.out, ← hw, List.length_append]
                    omega
                case measure => simp [intOf]; omega
          · have hle : (ts.length : Int) ≤ k := by omega
            have HQ : Hid (ts.take k = ts) := List.take_of_length_le (by omega)
            rw [HQ.out] at G hlen
            have CV := run_string_own (w := wr) (wholeA true ts) G.own
            clear hg
            go_wp2
            go_ret2
            refine ⟨?_, G.bel⟩
            rw [← HJ.out, if_neg (by rw [List.nil_append]; omega)]
            rfl
end Go.Proofs.YtkfhdmkdkphmoaaDoor

namespace Go.Proofs.YtkfhdmkdkphmoaaDoor
open Go.RowKit

set_option maxHeartbeats 4000000 in
set_option maxRecDepth 10000 in
theorem print_exact (v : Value) (n : Nat) (K N A : Nat → Int) (S : Nat → ByteArray) (w : World) (hC : Cl w) (hw : 1 < w.heap.size) (hv : RowI w v n K S N A) (hn : n ≤ 9223372036854775807) (hS : ∀ j, j < n → (S j).size ≤ maxLen)
    (hbad : 20000 < n ∨ ∃ j, j < n ∧ isTokA (K j) (S j) (N j) = false) :
    Calls Tryd.prog 10 #[v] w fun e w' => e = .returned (.tuple #[.string ⟨#[]⟩, .int .i64 (if 20000 < n then 2 else 1)]) ∧ Below w.heap.size w w' := by
  by_cases hbig : 20000 < n
  · have hbig' : (20000 : Int) < (n : Int) := by omega
    rcases hv with ⟨ad, cap, rfl, rfl⟩ | ⟨g, o, cap, rfl, hcap, hg, hc⟩
    · omega
    · clear hc hbad hS
      rw [if_pos hbig]
      go_enter Tryd.func10, Tryd.ntmps10
      go_wp2
      go_ret2
      exact ⟨rfl, Below.refl _ _⟩
  · have hl : n ≤ 20000 := by omega
    have hex : ∃ j, j < n ∧ isTokA (K j) (S j) (N j) = false := hbad.resolve_left hbig
    have HX : Hid (∃ j, j < n ∧ isTokA (K j) (S j) (N j) = false) := hex
    obtain ⟨B, hB⟩ : ∃ B, B = w.heap.size := ⟨_, rfl⟩
    rw [← hB, if_neg hbig]
    have HB : Hid (B = w.heap.size) := hB
    rcases hv with ⟨ad, cap, rfl, rfl⟩ | ⟨g, o, cap, rfl, hcap, hgw, hg⟩
    · obtain ⟨j, h1, _⟩ := hex
      omega
    · have hgB : g < B := by rw [hB]; exact hgw
      have hw' : 1 < B := by rw [hB]; exact hw
      clear hB hgw hw hbad hbig hex hn
      go_enter Tryd.func10, Tryd.ntmps10
      go_wp2
      go_loopw [11] (fun i wr => ∃ j : Nat, j ≤ n ∧ i = .int .i64 j ∧ Below B w wr ∧ Hid (∀ i, i < j → isTokA (K i) (S i) (N i) = true)) (fun i _ => n - (intOf i).toNat)
      case atStart => exact ⟨0, by omega, by go_num, Below.refl _ _, fun i hi => by omega⟩
      case round =>
        obtain ⟨j, hj, rfl, hbel, HT⟩ := hrel
        have hBr : B ≤ wr.heap.size := by have := hbel.size; have := HB.out; omega
        by_cases hlt : j < n
        · obtain ⟨a0, a1, a2, a3⟩ := hg j hlt
          rw [← hbel.cell (p := ⟨g, o + j * 4, none⟩) hgB] at a0
          rw [← hbel.cell (p := ⟨g, o + j * 4 + 1, none⟩) hgB] at a1
          rw [← hbel.cell (p := ⟨g, o + j * 4 + 2, none⟩) hgB] at a2
          rw [← hbel.cell (p := ⟨g, o + j * 4 + 3, none⟩) hgB] at a3
          have ng : ¬ g = wr.heap.size := by omega
          have hsj := hS j hlt
          have IT : ∀ W, Below B w W → 1 < W.heap.size → Calls Tryd.prog 20 #[.agg #[.int .i64 (K j), .string (S j), .int .i64 (N j), .int .i64 (A j)]] W fun e w' => e = .returned (.bool (isTokA (K j) (S j) (N j))) ∧ Below W.heap.size W w' := fun W hb hW1 => isToken_all (K j) (N j) (A j) (S j) W hsj (hC.below hb hw') hW1
          clear hg hS hsj
          cases ht : isTokA (K j) (S j) (N j) with
          | true =>
            have HN : Hid (∀ i, i < j + 1 → isTokA (K i) (S i) (N i) = true) := fun i hi => by
              by_cases e : i = j
              · rw [e]; exact ht
              · exact HT.out i (by omega)
            rw [ht] at IT
            clear ht HT
            go_wp2_with (go_at_call 20; refine Calls.mono (IT _ ?_ ?_) ?_; exact hbel.alloc hBr _; (simp; omega); rintro e w2 ⟨rfl, hb⟩)
            go_roundw
            case rel => exact ⟨j + 1, by omega, by go_num, (hbel.alloc hBr _).trans (hb.mono (by simp; omega)), HN⟩
            case measure => simp [intOf]; omega
          | false =>
            rw [ht] at IT
            clear ht HT
            go_wp2_with (go_at_call 20; refine Calls.mono (IT _ ?_ ?_) ?_; exact hbel.alloc hBr _; (simp; omega); rintro e w2 ⟨rfl, hb⟩)
            go_ret2
            exact ⟨rfl, (hbel.alloc hBr _).trans (hb.mono (by simp; omega))⟩
        · exfalso
          obtain ⟨i, h1, h2⟩ := HX.out
          have := HT.out i (by omega)
          rw [this] at h2
          cases h2

theorem kindL_le (l : List UInt8) : kindL l ≤ 11 := by
  have hu : (upperL l).2 ≤ 4 := by
    unfold upperL
    split
    · split
      · simp
      · split <;> simp
    · simp
  have hr : runKindP l ≤ 11 := by
    unfold runKindP
    split
    · simp
    · split
      · simp
      · split <;> simp
  have hw : wordKindP l ≤ 10 := by unfold wordKindP; split <;> simp
  unfold kindL
  repeat' split
  all_goals omega

theorem tok_facts {kd nm : Nat} {tx : List UInt8} (h : isTokA kd ⟨tx.toArray⟩ nm = true) : kd ≤ 11 ∧ (kd = 6 ∨ kd = 7 → tx = []) := by
  have htl : (⟨tx.toArray⟩ : ByteArray).toList = tx := by rw [ByteArray.toList_eq]
  unfold isTokA at h
  by_cases h6 : kd = 6
  · subst h6
    rw [if_pos (by omega), htl] at h
    simp at h
    exact ⟨by omega, fun _ => h.1⟩
  rw [if_neg (by omega)] at h
  unfold isTokB at h
  by_cases h0 : kd = 0
  · exact ⟨by omega, fun h => by omega⟩
  rw [if_neg (by omega)] at h
  by_cases h7 : kd = 7
  · subst h7
    rw [if_pos (by omega), htl] at h
    simp at h
    exact ⟨by omega, fun _ => h.1⟩
  rw [if_neg (by omega)] at h
  by_cases h8 : kd = 8
  · exact ⟨by omega, fun h => by omega⟩
  rw [if_neg (by omega), kindP_L] at h
  rw [Bool.and_eq_true] at h
  have := kindL_le (⟨tx.toArray⟩ : ByteArray).data.toList
  have h2 : ((kindL (⟨tx.toArray⟩ : ByteArray).data.toList : Nat) : Int) = kd := of_decide_eq_true h.2
  exact ⟨by omega, fun h => by omega⟩
end Go.Proofs.YtkfhdmkdkphmoaaDoor

namespace Go.Proofs.YtkfhdmkdkphmoaaDoor
open Go.RowKit

theorem join_form (o : Option (List UInt8)) : ∃ (s : ByteArray) (c : Int), joinVal o = .tuple #[.string s, .int .i64 c] := by
  cases o with
  | none => exact ⟨_, _, rfl⟩
  | some s => exact ⟨_, _, rfl⟩

theorem ans_any (n : Nat) (K N : Nat → Int) (S : Nat → ByteArray) (hn : n ≤ 9223372036854775807) (hS : ∀ j, j < n → (S j).size ≤ 4611686018427387903) (hK : ∀ j, j < n → -9223372036854775808 ≤ K j ∧ K j ≤ 9223372036854775807) :
    ∃ (s : ByteArray) (c : Int),
      (∀ v A w, RowI w v n K S N A → Calls Tryd.prog 9 #[v] w fun e w' => e = .returned (.tuple #[.string s, .int .i64 c]) ∧ Below w.heap.size w w') ∧
      (∀ v A w, Cl w → Pt w → 1 < w.heap.size → RowI w v n K S N A → Calls Tryd.prog 10 #[v] w fun e w' => e = .returned (.tuple #[.string s, .int .i64 c]) ∧ Below w.heap.size w w') := by
  have hS' : ∀ j, j < n → (S j).size ≤ maxLen := fun j hj => by have := hS j hj; unfold maxLen; omega
  by_cases hgood : n ≤ 20000 ∧ ∀ j, j < n → isTokA (K j) (S j) (N j) = true
  · obtain ⟨hl, hok⟩ := hgood
    have hlen : (toksI n K S N).length = n := by simp [toksI]
    have hg := toksI_good hok
    have hsz : ∀ t ∈ toksI n K S N, t.2.1.length ≤ 4611686018427387903 := by
      intro t ht
      simp only [toksI, List.mem_map, List.mem_range] at ht
      obtain ⟨j, hj, rfl⟩ := ht
      simpa using hS j hj
    obtain ⟨s, c, hsc⟩ := join_form (joinA true [] (toksI n K S N))
    refine ⟨s, c, fun v A w hv => ?_, fun v A w hC hP h1 hv => ?_⟩
    · have := ref_print_x v (toksI n K S N) A w (hv.toX hok) (by omega) (good6 hg) (good7 hg) hsz (fun t ht => (tok_facts (tok_of_good (hg t ht))).1) (fun t ht => (tok_facts (tok_of_good (hg t ht))).2) (fun t ht => tok_of_good (hg t ht))
      rw [hsc] at this
      exact this
    · have := print_x v (toksI n K S N) A w hC h1 (hv.toX hok) (by omega) (fun W' hb => hP.tb hb) (good6 hg) (good7 hg) (fun t ht => by have := hsz t ht; omega) (fun t ht => tok_of_good (hg t ht))
      rw [hsc] at this
      exact this
  · have hbad : 20000 < n ∨ ∃ j, j < n ∧ isTokA (K j) (S j) (N j) = false := by
      by_cases hl : n ≤ 20000
      · right
        apply Classical.byContradiction
        intro hne
        apply hgood
        refine ⟨hl, fun j hj => ?_⟩
        cases ht : isTokA (K j) (S j) (N j) with
        | true => rfl
        | false => exact absurd ⟨j, hj, ht⟩ hne
      · left; omega
    exact ⟨⟨#[]⟩, if 20000 < n then 2 else 1, fun v A w hv => ref_print_bad v n K N A S w hv hn hS' hK hbad, fun v A w hC _ h1 hv => print_exact v n K N A S w hC h1 hv hn hS' hbad⟩

/-- The cells of a row of tokens, one by one. -/
def cellC (K : Nat → Int) (S : Nat → ByteArray) (N A : Nat → Int) (j : Nat) : Value :=
  if j % 4 = 0 then .int .i64 (K (j / 4)) else if j % 4 = 1 then .string (S (j / 4)) else if j % 4 = 2 then .int .i64 (N (j / 4)) else .int .i64 (A (j / 4))
theorem cellC_one (K : Nat → Int) (S : Nat → ByteArray) (N A : Nat → Int) (j : Nat) : (cellC K S N A j).oneCell' = true := by
  unfold cellC
  repeat' split
  all_goals rfl
theorem cellC_at (K : Nat → Int) (S : Nat → ByteArray) (N A : Nat → Int) (j : Nat) : cellC K S N A (j * 4) = .int .i64 (K j) ∧ cellC K S N A (j * 4 + 1) = .string (S j) ∧ cellC K S N A (j * 4 + 2) = .int .i64 (N j) ∧ cellC K S N A (j * 4 + 3) = .int .i64 (A j) := by
  unfold cellC
  refine ⟨?_, ?_, ?_, ?_⟩
  · rw [if_pos (by omega), show j * 4 / 4 = j by omega]
  · rw [if_neg (by omega), if_pos (by omega), show (j * 4 + 1) / 4 = j by omega]
  · rw [if_neg (by omega), if_neg (by omega), if_pos (by omega), show (j * 4 + 2) / 4 = j by omega]
  · rw [if_neg (by omega), if_neg (by omega), if_neg (by omega), show (j * 4 + 3) / 4 = j by omega]
theorem cells_all {w : World} {g o n : Nat} {K N A : Nat → Int} {S : Nat → ByteArray}
    (h : ∀ j, j < n → w.cell? ⟨g, o + j * 4, none⟩ = some (.int .i64 (K j)) ∧ w.cell? ⟨g, o + j * 4 + 1, none⟩ = some (.string (S j)) ∧ w.cell? ⟨g, o + j * 4 + 2, none⟩ = some (.int .i64 (N j)) ∧ w.cell? ⟨g, o + j * 4 + 3, none⟩ = some (.int .i64 (A j))) :
    ∀ i, i < n * 4 → w.cell? ⟨g, o + i, none⟩ = some (cellC K S N A i) := by
  intro i hi
  obtain ⟨a0, a1, a2, a3⟩ := h (i / 4) (by omega)
  unfold cellC
  split
  · rw [show o + i = o + i / 4 * 4 by omega]; exact a0
  split
  · rw [show o + i = o + i / 4 * 4 + 1 by omega]; exact a1
  split
  · rw [show o + i = o + i / 4 * 4 + 2 by omega]; exact a2
  · rw [show o + i = o + i / 4 * 4 + 3 by omega]; exact a3
theorem cells_each {w : World} {g o n : Nat} {K N A : Nat → Int} {S : Nat → ByteArray} (h : ∀ i, i < n * 4 → w.cell? ⟨g, o + i, none⟩ = some (cellC K S N A i)) :
    ∀ j, j < n → w.cell? ⟨g, o + j * 4, none⟩ = some (.int .i64 (K j)) ∧ w.cell? ⟨g, o + j * 4 + 1, none⟩ = some (.string (S j)) ∧ w.cell? ⟨g, o + j * 4 + 2, none⟩ = some (.int .i64 (N j)) ∧ w.cell? ⟨g, o + j * 4 + 3, none⟩ = some (.int .i64 (A j)) := by
  intro j hj
  obtain ⟨a0, a1, a2, a3⟩ := cellC_at K S N A j
  rw [← a0, ← a1, ← a2, ← a3]
  simp only [Nat.add_assoc]
  exact ⟨h _ (by omega), h _ (by omega), h _ (by omega), h _ (by omega)⟩

/-- 'copy' of a row of elements of any size. -/
theorem run_copy_rows {P : Program} (w : World) (dT sT ty elem : TypeId) (i : TypeInfo) (b o dLen dCap : Nat) (a : Addr) (sLen sCap : Nat) (cs : List Value)
    (hu : P.underlying dT = some (.slice elem)) (hi : P.info? elem = some i) (hn : cs.length = Nat.min sLen dLen * i.size)
    (hsrc : ∀ j v, cs[j]? = some v → w.cell? (a.add j) = some v) (hc : ∀ j, j < cs.length → (w.cell? ⟨b, o + j, none⟩).isSome = true) (hf : ∀ j, j < cs.length → w.frozen? ⟨b, o + j, none⟩ = false) (h1 : ∀ v ∈ cs, v.oneCell' = true) :
    (Builtin.copy_ #[dT, sT] ty #[.slice (some ⟨b, o, none⟩) dLen dCap, .slice (some a) sLen sCap]).run P w = .ok (goInt (Nat.min sLen dLen)) (w.setCells b o cs) := by
  have hl := run_firstCells_some (P := P) w i.size (Nat.min sLen dLen) a sLen sCap cs hn hsrc
  have hst := run_storeCells_cells (P := P) b o cs 0 w (by simpa using hc) (by simpa using hf) h1
  simp at hst
  simp [Builtin.copy_, run_underlying hu, Builtin.lenOf, sizeOf, typeInfo, hi, hl, hst]
theorem run_copy_naught {P : Program} (w : World) (dT sT ty elem : TypeId) (i : TypeInfo) (d a : Option Addr) (dCap sLen sCap : Nat) (hu : P.underlying dT = some (.slice elem)) (hi : P.info? elem = some i) :
    (Builtin.copy_ #[dT, sT] ty #[.slice d 0 dCap, .slice a sLen sCap]).run P w = .ok (goInt 0) w := by
  have hl : ∀ (x : Addr), (loadCells x 0).run P w = .ok #[] w := fun x => by simpa using run_loadCells_list (P := P) w x [] (by simp)
  cases d <;> cases a <;> simp [Builtin.copy_, run_underlying hu, Builtin.lenOf, Builtin.firstCells, sizeOf, typeInfo, hi, storeCells, hl]

/-- 'make' with room behind the length. -/
theorem wpList_make_room {P : Program} (w : World) {ops : Array Oper} {rest : List Oper} {o : Oper} {a : Act} {Q : Exit → Act → World → Prop}
    (hg : o.guard = none) (l c : Operand) (t : TypeId) (hop : o.op = Op.makeSlice t l c)
    (e : TypeId) (i : TypeInfo) (z : Value) (size : Nat) (h1 : P.underlying t = some (.slice e)) (h2 : P.info? e = some i) (h3 : i.zero = some z) (h4 : i.size = size)
    (kl kc : IntKind) (L C : Int) (n m : Nat) (hl : a.eval l = .int kl L) (hc : a.eval c = .int kc C) (hL : L = (n : Int)) (hC : C = (m : Int)) (b1 : n ≤ m) (b2 : i.bytes * m ≤ 281474976710656) (b3 : m ≤ maxLen)
    (hK : ∀ w' g, g = w.heap.size → w'.heap.size = w.heap.size + 1 → Below w.heap.size w w' → (∀ j, j < m * size → (w'.cell? ⟨g, j, none⟩).isSome = true) → (∀ j, w'.frozen? ⟨g, j, none⟩ = false) → wpList P ops Q rest (a.put o.dst (.slice (some ⟨g, 0, none⟩) n m)) w') :
    wpList P ops Q (o :: rest) a w := by
  refine wpList_plain hg fun K hK' => ?_
  subst hL
  subst hC
  subst h4
  have h63' : (m : Int) ≤ 9223372036854775807 := by
    have h := b3
    simp [maxLen] at h
    omega
  have hb' : (i.bytes : Int) * (m : Int) ≤ 281474976710656 := by
    have h : ((i.bytes * m : Nat) : Int) ≤ 281474976710656 := by omega
    rwa [Int.natCast_mul] at h
  have hrun := run_make (P := P) w t e i z h1 h2 h3 kl kc n m (by omega) (by omega) hb' h63'
  simp only [Int.toNat_natCast] at hrun
  unfold Oper.wp
  simp [execOp, hop, hl, hc, hrun, Result.andThen]
  refine hK' _ _ (hK _ _ rfl (by simp) ((Below.refl _ _).alloc (Nat.le_refl _) _) (fun j hj => ?_) (fun j => ?_))
  · have := World.cell?_alloc_mark w (madeCells z.cells (m * i.size)) e (0, 0) j
    rw [this, Array.getElem?_eq_getElem (by rw [size_madeCells]; exact hj)]
    rfl
  · have := World.frozen?_alloc_mark w (madeCells z.cells (m * i.size)) e 0 0 j
    rw [this]
    simp
end Go.Proofs.YtkfhdmkdkphmoaaDoor

namespace Go.Proofs.YtkfhdmkdkphmoaaDoor
open Go.RowKit

theorem neq_self (k n a : Int) (s : ByteArray) (w : World) : (binOp .neq 28 (.agg #[.int .i64 k, .string s, .int .i64 n, .int .i64 a]) (.agg #[.int .i64 k, .string s, .int .i64 n, .int .i64 a])).run Tryd.prog w = .ok (.bool false) w := by
  rw [run_neq_struct, run_equalIn_agg w 9999 28 _ _ Tryd.su28 Tryd.sh28]
  simp only [go_sem, Tryd.underlying28]
  simp [go_sem, Tryd.underlying3, Tryd.underlying9]

set_option maxHeartbeats 2000000 in
set_option maxRecDepth 10000 in
theorem same_eq (v1 v2 : Value) (n : Nat) (K N A : Nat → Int) (S : Nat → ByteArray) (w : World) (h1 : RowI w v1 n K S N A) (h2 : RowI w v2 n K S N A) (hn : n ≤ 9223372036854775806) :
    Calls Tryd.prog 11 #[v1, v2] w fun e w' => e = .returned (.bool true) ∧ ∃ n, w' = w.drewN n := by
  have short : ∀ ad cap ad2 cap2, Calls Tryd.prog 11 #[.slice ad 0 cap, .slice ad2 0 cap2] w fun e w' => e = .returned (.bool true) ∧ ∃ n, w' = w.drewN n := by
    intro ad cap ad2 cap2
    go_enter Tryd.func11, Tryd.ntmps11
    go_wp2
    refine wp_loop_rounds 1 ?_
    rw [rounds_succ]
    go_wp2
    go_ret
    exact ⟨rfl, 0, rfl⟩
  rcases h1 with ⟨ad, cap, rfl, rfl⟩ | ⟨g, o, cap, rfl, hcap, _, hg⟩
  · rcases h2 with ⟨ad2, cap2, rfl, _⟩ | ⟨g2, o2, cap2, rfl, _⟩
    · exact short _ _ _ _
    · exact short _ _ _ _
  · rcases h2 with ⟨ad2, cap2, rfl, rfl⟩ | ⟨g2, o2, cap2, rfl, hcap2, _, hg2⟩
    · exact short _ _ _ _
    · clear short
      go_enter Tryd.func11, Tryd.ntmps11
      go_wp2
      go_loopw [5] (fun i wr => ∃ j m : Nat, j ≤ n ∧ i = .int .i64 j ∧ wr = w.drewN m) (fun i _ => n - (intOf i).toNat)
      case atStart => exact ⟨0, 0, by omega, by go_num, rfl⟩
      case round =>
        obtain ⟨j, m, hj, rfl, rfl⟩ := hrel
        by_cases hlt : j < n
        · obtain ⟨a0, a1, a2, a3⟩ := hg j hlt
          obtain ⟨b0, b1, b2, b3⟩ := hg2 j hlt
          have hE := Tryd.eg28
          have hN : ∀ W, (binOp .neq 28 (.agg #[.int .i64 (K j), .string (S j), .int .i64 (N j), .int .i64 (A j)]) (.agg #[.int .i64 (K j), .string (S j), .int .i64 (N j), .int .i64 (A j)])).run Tryd.prog W = .ok (.bool false) W := fun W => neq_self _ _ _ _ W
          clear hg hg2
          go_wp2
          go_quiet (fail)
          go_wp2
          go_roundw
          case rel => exact ⟨j + 1, _, by omega, by go_num, by first | rfl | rw [World.drewN_drewN]⟩
          case measure => simp [intOf]; omega
        · go_wp2
          go_ret
          exact ⟨rfl, _, rfl⟩
end Go.Proofs.YtkfhdmkdkphmoaaDoor

namespace Go.Proofs.YtkfhdmkdkphmoaaDoor
open Go.RowKit

theorem copy_tok (W : World) (ty : TypeId) (g n dc cap : Nat) (ad : Option Addr) (K N A : Nat → Int) (S : Nat → ByteArray) (hrow : RowI W (.slice ad n cap) n K S N A) (hc : ∀ j, j < (n + 3) * 4 → (W.cell? ⟨g, j, none⟩).isSome = true) (hf : ∀ j, W.frozen? ⟨g, j, none⟩ = false) :
    ∃ W', (Builtin.copy_ #[22, 22] ty #[.slice (some ⟨g, 0, none⟩) n dc, .slice ad n cap]).run Tryd.prog W = .ok (.int .i64 n) W' ∧ Below g W W' ∧ (∀ i, i < n * 4 → W'.cell? ⟨g, i, none⟩ = some (cellC K S N A i)) ∧ (∀ j, j < (n + 3) * 4 → (W'.cell? ⟨g, j, none⟩).isSome = true) ∧ (∀ j, W'.frozen? ⟨g, j, none⟩ = false) := by
  obtain ⟨i0, hi, hz0, hz1, hz2⟩ := info_parts Tryd.info28
  have naught : n = 0 → ∃ W', (Builtin.copy_ #[22, 22] ty #[.slice (some ⟨g, 0, none⟩) n dc, .slice ad n cap]).run Tryd.prog W = .ok (.int .i64 n) W' ∧ Below g W W' ∧ (∀ i, i < n * 4 → W'.cell? ⟨g, i, none⟩ = some (cellC K S N A i)) ∧ (∀ j, j < (n + 3) * 4 → (W'.cell? ⟨g, j, none⟩).isSome = true) ∧ (∀ j, W'.frozen? ⟨g, j, none⟩ = false) := by
    rintro rfl
    exact ⟨W, run_copy_naught W 22 22 ty 28 i0 _ _ _ _ _ Tryd.underlying22 hi, Below.refl _ _, fun i hi => by omega, hc, hf⟩
  rcases hrow with ⟨ad0, cap0, hv, h0⟩ | ⟨gs, o, cap0, hv, hcap, hgs, hcs⟩
  · exact naught h0
  · by_cases h0 : n = 0
    · exact naught h0
    clear naught
    simp only [Value.slice.injEq] at hv
    obtain ⟨rfl, -, rfl⟩ := hv
    have hall := cells_all hcs
    have hlen : ((List.range (n * 4)).map (cellC K S N A)).length = n * 4 := by simp
    have hr := run_copy_rows (P := Tryd.prog) W 22 22 ty 28 i0 g 0 n dc ⟨gs, o, none⟩ n cap ((List.range (n * 4)).map (cellC K S N A)) Tryd.underlying22 hi (by rw [hlen, hz1]; simp)
      (fun j v hj => by
        rw [List.getElem?_map] at hj
        obtain ⟨x, hx, rfl⟩ := Option.map_eq_some_iff.1 hj
        have hlt := (List.getElem?_eq_some_iff.1 hx).1
        simp at hlt
        simp [hlt] at hx
        subst hx
        rw [add_at]
        exact hall j hlt)
      (fun j hj => by rw [hlen] at hj; rw [Nat.zero_add]; exact hc j (by omega)) (fun j _ => hf _)
      (fun v hv => by
        obtain ⟨x, _, rfl⟩ := List.mem_map.1 hv
        exact cellC_one _ _ _ _ _)
    have hin := World.cell?_setCells_in g ((List.range (n * 4)).map (cellC K S N A)) 0 W (fun j hj => by rw [hlen] at hj; rw [Nat.zero_add]; exact hc j (by omega))
    have hout := World.cell?_setCells_out g ((List.range (n * 4)).map (cellC K S N A)) 0 W
    have hone : ∀ i, i < n * 4 → (W.setCells g 0 ((List.range (n * 4)).map (cellC K S N A))).cell? ⟨g, i, none⟩ = some (cellC K S N A i) := fun i hi => by
      have := hin i (by rw [hlen]; exact hi)
      simp at this
      exact this
    rw [show Nat.min n n = n from Nat.min_self n] at hr
    refine ⟨_, hr, Lib.below_setCells g (Nat.le_refl _) _ _ (Below.refl _ _), hone, fun j hj => ?_, fun j => ?_⟩
    · by_cases h1 : j < n * 4
      · rw [hone j h1]; rfl
      · rw [hout ⟨g, j, none⟩ (fun _ _ => Or.inr (by rw [hlen]; show 0 + n * 4 ≤ j; omega))]
        exact hc j hj
    · rw [World.frozen?_setCells]
      exact hf j

/-- The cells of the three marks. -/
@[reducible] def markC : List Value := [.int .i64 (-9), .string ⟨#[98, 101, 104, 105, 110, 100]⟩, .int .i64 0, .int .i64 0, .int .i64 (-9), .string ⟨#[98, 101, 104, 105, 110, 100]⟩, .int .i64 0, .int .i64 0, .int .i64 (-9), .string ⟨#[98, 101, 104, 105, 110, 100]⟩, .int .i64 0, .int .i64 0]

theorem append_marks (W : World) (ty : TypeId) (g b n : Nat) (K N A : Nat → Int) (S : Nat → ByteArray) (hb : W.heap[b]? = some (.cells markC.toArray 28)) (hold : ∀ i, i < n * 4 → W.cell? ⟨g, i, none⟩ = some (cellC K S N A i)) (hc : ∀ j, j < (n + 3) * 4 → (W.cell? ⟨g, j, none⟩).isSome = true) (hf : ∀ j, W.frozen? ⟨g, j, none⟩ = false) :
    ∃ W', (Builtin.append_ #[22, 22] ty #[.slice (some ⟨g, 0, none⟩) n (n + 3), .slice (some ⟨b, 0, none⟩) 3 3]).run Tryd.prog W = .ok (.slice (some ⟨g, 0, none⟩) (n + 3) (n + 3)) W' ∧ Below g W W' ∧ (∀ i, i < n * 4 → W'.cell? ⟨g, i, none⟩ = some (cellC K S N A i)) ∧
      (∀ j, n ≤ j → j < n + 3 → W'.cell? ⟨g, j * 4, none⟩ = some (.int .i64 (-9)) ∧ W'.cell? ⟨g, j * 4 + 1, none⟩ = some (.string ⟨#[98, 101, 104, 105, 110, 100]⟩) ∧ W'.cell? ⟨g, j * 4 + 2, none⟩ = some (.int .i64 0) ∧ W'.cell? ⟨g, j * 4 + 3, none⟩ = some (.int .i64 0)) ∧ (∀ j, W'.frozen? ⟨g, j, none⟩ = false) := by
  obtain ⟨i0, hi, hz0, hz1, hz2⟩ := info_parts Tryd.info28
  have hlen : markC.length = 12 := rfl
  have hr := run_append_room_cells (P := Tryd.prog) W 22 ty 28 i0 Tryd.underlying22 hi g 0 n (n + 3) ⟨b, 0, none⟩ 3 3 markC (by rw [hz1]; rfl) (World.news_of_block hb) (by decide) (Nat.le_refl _)
    (fun j hj => by rw [hlen] at hj; rw [hz1]; exact hc _ (by omega)) (fun j _ => hf _)
  rw [hz1] at hr
  have hin := World.cell?_setCells_in g markC (0 + n * 4) W (fun j hj => by rw [hlen] at hj; exact hc _ (by omega))
  have hout := World.cell?_setCells_out g markC (0 + n * 4) W
  refine ⟨_, hr, Lib.below_setCells g (Nat.le_refl _) _ _ (Below.refl _ _), fun i hi => ?_, fun j h1 h2 => ?_, fun j => ?_⟩
  · rw [hout ⟨g, i, none⟩ (fun _ _ => Or.inl (by show i < 0 + n * 4; omega))]
    exact hold i hi
  · have at' : ∀ d (hd : d < 12), (W.setCells g (0 + n * 4) markC).cell? ⟨g, n * 4 + d, none⟩ = some markC[d] := fun d hd => by
      have := hin d hd
      rw [Nat.zero_add] at this ⊢
      exact this
    rcases (by omega : j = n ∨ j = n + 1 ∨ j = n + 2) with rfl | rfl | rfl
    · exact ⟨at' 0 (by omega), at' 1 (by omega), at' 2 (by omega), at' 3 (by omega)⟩
    · rw [show (n + 1) * 4 = n * 4 + 4 by omega]
      simp only [Nat.add_assoc]
      exact ⟨at' 4 (by omega), at' 5 (by omega), at' 6 (by omega), at' 7 (by omega)⟩
    · rw [show (n + 2) * 4 = n * 4 + 8 by omega]
      simp only [Nat.add_assoc]
      exact ⟨at' 8 (by omega), at' 9 (by omega), at' 10 (by omega), at' 11 (by omega)⟩
  · rw [World.frozen?_setCells]
    exact hf j

/-- The world behind the append. -/
structure PrW (w : World) (g gm n : Nat) (K : Nat → Int) (S : Nat → ByteArray) (N A : Nat → Int) (W : World) : Prop where
  bel : Below w.heap.size w W
  low : w.heap.size ≤ g
  gl : g < W.heap.size
  ml : gm < W.heap.size
  row : ∀ j, j < n → W.cell? ⟨g, 0 + j * 4, none⟩ = some (.int .i64 (K j)) ∧ W.cell? ⟨g, 0 + j * 4 + 1, none⟩ = some (.string (S j)) ∧ W.cell? ⟨g, 0 + j * 4 + 2, none⟩ = some (.int .i64 (N j)) ∧ W.cell? ⟨g, 0 + j * 4 + 3, none⟩ = some (.int .i64 (A j))
  marks : ∀ j, n ≤ j → j < n + 3 → W.cell? ⟨g, j * 4, none⟩ = some (.int .i64 (-9)) ∧ W.cell? ⟨g, j * 4 + 1, none⟩ = some (.string ⟨#[98, 101, 104, 105, 110, 100]⟩) ∧ W.cell? ⟨g, j * 4 + 2, none⟩ = some (.int .i64 0) ∧ W.cell? ⟨g, j * 4 + 3, none⟩ = some (.int .i64 0)
  mark : W.cell? ⟨gm, 0, none⟩ = some (.int .i64 (-9)) ∧ W.cell? ⟨gm, 1, none⟩ = some (.string ⟨#[98, 101, 104, 105, 110, 100]⟩) ∧ W.cell? ⟨gm, 2, none⟩ = some (.int .i64 0) ∧ W.cell? ⟨gm, 3, none⟩ = some (.int .i64 0)
  free : ∀ j, W.frozen? ⟨g, j, none⟩ = false

theorem PrW.below {w : World} {g gm n : Nat} {K N A : Nat → Int} {S : Nat → ByteArray} {W W' : World} (h : PrW w g gm n K S N A W) (hb : Below W.heap.size W W') : PrW w g gm n K S N A W' := by
  have hsz := h.bel.size
  have at' : ∀ o, W'.cell? ⟨g, o, none⟩ = W.cell? ⟨g, o, none⟩ := fun o => hb.cell (p := ⟨g, o, none⟩) h.gl
  have am : ∀ o, W'.cell? ⟨gm, o, none⟩ = W.cell? ⟨gm, o, none⟩ := fun o => hb.cell (p := ⟨gm, o, none⟩) h.ml
  refine ⟨h.bel.trans (hb.mono hsz), h.low, Nat.lt_of_lt_of_le h.gl hb.size, Nat.lt_of_lt_of_le h.ml hb.size, ?_, ?_, ?_, ?_⟩
  · simp only [at']; exact h.row
  · simp only [at']; exact h.marks
  · simp only [am]; exact h.mark
  · intro j; rw [hb.frozen (p := ⟨g, j, none⟩) h.gl]; exact h.free j
theorem PrW.drewN {w : World} {g gm n : Nat} {K N A : Nat → Int} {S : Nat → ByteArray} {W : World} (h : PrW w g gm n K S N A W) (k : Nat) : PrW w g gm n K S N A (W.drewN k) := h.below (below_drewN (Below.refl _ _) k)
theorem PrW.rowI {w : World} {g gm n : Nat} {K N A : Nat → Int} {S : Nat → ByteArray} {W : World} (h : PrW w g gm n K S N A W) : RowI W (.slice (some ⟨g, 0, none⟩) n (n + 3)) n K S N A :=
  .inr ⟨g, 0, _, rfl, by omega, h.gl, h.row⟩

/-- The world while the row is written over. -/
structure PsW (w : World) (g n j : Nat) (W : World) : Prop where
  bel : Below w.heap.size w W
  low : w.heap.size ≤ g
  gl : g < W.heap.size
  done : ∀ i, i < j → W.cell? ⟨g, 0 + i * 4, none⟩ = some (.int .i64 6) ∧ W.cell? ⟨g, 0 + i * 4 + 1, none⟩ = some (.string ⟨#[]⟩) ∧ W.cell? ⟨g, 0 + i * 4 + 2, none⟩ = some (.int .i64 i) ∧ W.cell? ⟨g, 0 + i * 4 + 3, none⟩ = some (.int .i64 0)
  there : ∀ i, i < n * 4 → (W.cell? ⟨g, i, none⟩).isSome = true
  free : ∀ j, W.frozen? ⟨g, j, none⟩ = false

theorem PrW.over {w : World} {g gm n : Nat} {K N A : Nat → Int} {S : Nat → ByteArray} {W : World} (h : PrW w g gm n K S N A W) : PsW w g n 0 W :=
  ⟨h.bel, h.low, h.gl, fun i hi => by omega, fun i hi => by
    have := cells_all h.row i hi
    rw [Nat.zero_add] at this
    rw [this]; rfl, h.free⟩

theorem PsW.step {w : World} {g n j : Nat} {W : World} (h : PsW w g n j W) (hj : j < n) :
    PsW w g n (j + 1) ((((W.setCell ⟨g, j * 4, none⟩ (.int .i64 6)).setCell ⟨g, j * 4 + 1, none⟩ (.string ⟨#[]⟩)).setCell ⟨g, j * 4 + 2, none⟩ (.int .i64 j)).setCell ⟨g, j * 4 + 3, none⟩ (.int .i64 0)) := by
  have e : ((((W.setCell ⟨g, j * 4, none⟩ (.int .i64 6)).setCell ⟨g, j * 4 + 1, none⟩ (.string ⟨#[]⟩)).setCell ⟨g, j * 4 + 2, none⟩ (.int .i64 j)).setCell ⟨g, j * 4 + 3, none⟩ (.int .i64 0)) = W.setCells g (j * 4) [.int .i64 6, .string ⟨#[]⟩, .int .i64 j, .int .i64 0] := rfl
  rw [e]
  have hin := World.cell?_setCells_in g [.int .i64 6, .string ⟨#[]⟩, .int .i64 j, .int .i64 0] (j * 4) W (fun i hi => h.there _ (by simp at hi; omega))
  have hout := World.cell?_setCells_out g [.int .i64 6, .string ⟨#[]⟩, .int .i64 j, .int .i64 0] (j * 4) W
  have hb := Lib.below_setCells (a := W) g (Nat.le_refl _) [.int .i64 6, .string ⟨#[]⟩, .int .i64 j, .int .i64 0] (j * 4) (Below.refl g W)
  refine ⟨h.bel.trans (hb.mono h.low), h.low, Nat.lt_of_lt_of_le h.gl hb.size, fun i hi => ?_, fun i hi => ?_, fun i => ?_⟩
  · rw [Nat.zero_add]
    by_cases hij : i = j
    · subst hij
      exact ⟨hin 0 (by simp), hin 1 (by simp), hin 2 (by simp), hin 3 (by simp)⟩
    · obtain ⟨a0, a1, a2, a3⟩ := h.done i (by omega)
      rw [Nat.zero_add] at a0 a1 a2 a3
      rw [hout ⟨g, i * 4, none⟩ (fun _ _ => Or.inl (by show i * 4 < j * 4; omega)), hout ⟨g, i * 4 + 1, none⟩ (fun _ _ => Or.inl (by show i * 4 + 1 < j * 4; omega)), hout ⟨g, i * 4 + 2, none⟩ (fun _ _ => Or.inl (by show i * 4 + 2 < j * 4; omega)), hout ⟨g, i * 4 + 3, none⟩ (fun _ _ => Or.inl (by show i * 4 + 3 < j * 4; omega))]
      exact ⟨a0, a1, a2, a3⟩
  · by_cases h1 : j * 4 ≤ i ∧ i < j * 4 + 4
    · obtain ⟨d, rfl⟩ : ∃ d, i = j * 4 + d := ⟨i - j * 4, by omega⟩
      rw [hin d (by simp; omega)]
      rfl
    · rw [hout ⟨g, i, none⟩ (fun _ _ => by show i < j * 4 ∨ j * 4 + 4 ≤ i; omega)]
      exact h.there i hi
  · rw [World.frozen?_setCells]
    exact h.free i

set_option maxHeartbeats 4000000 in
set_option maxRecDepth 10000 in
theorem prints_any (v u : Value) (n m : Nat) (K N A K' N' A' : Nat → Int) (S S' : Nat → ByteArray) (w : World) (hCl : Cl w) (hP : Pt w) (h1 : 1 < w.heap.size) (hv : RowI w v n K S N A) (hu : RowI w u m K' S' N' A')
    (hn : n ≤ 3518437208780) (hm : m ≤ 9223372036854775807) (hS : ∀ j, j < n → (S j).size ≤ 4611686018427387903) (hS' : ∀ j, j < m → (S' j).size ≤ 4611686018427387903)
    (hK : ∀ j, j < n → -9223372036854775808 ≤ K j ∧ K j ≤ 9223372036854775807) (hK' : ∀ j, j < m → -9223372036854775808 ≤ K' j ∧ K' j ≤ 9223372036854775807) :
    Calls Tryd.prog 3 #[v, u] w fun e w' => e = .returned (.bool true) ∧ Below w.heap.size w w' := by
  have AW := awake_any w hCl h1
  obtain ⟨s, c, RP, PP⟩ := ans_any n K N S (by omega) hS hK
  obtain ⟨s', c', RP', PP'⟩ := ans_any m K' N' S' hm hS' hK'
  obtain ⟨s6, c6, RP6, PP6⟩ := ans_any n (fun _ => 6) (fun j => j) (fun _ => ⟨#[]⟩) (by omega) (fun _ _ => by show (0 : Nat) ≤ 4611686018427387903; omega) (fun _ _ => by omega)
  obtain ⟨i0, hi, hz0, hz1, hz2⟩ := info_parts Tryd.info28
  have hform : ∃ ad cap, v = .slice ad n cap := by
    rcases hv with ⟨ad, cap, rfl, rfl⟩ | ⟨g, o, cap, rfl, _⟩
    · exact ⟨_, _, rfl⟩
    · exact ⟨_, _, rfl⟩
  obtain ⟨ad, cap, rfl⟩ := hform
  have hRV := fun W (h : Below w.heap.size w W) => hv.below h
  have hRU := fun W (h : Below w.heap.size w W) => hu.below h
  have hCl' := fun W (h : Below w.heap.size w W) => hCl.below h h1
  have hP' := fun W (h : Below w.heap.size w W) => hP.below h
  have R1 := fun W h => RP _ A W (hRV W h)
  have R2 := fun W h => RP' u A' W (hRU W h)
  have P2 := fun W h => PP' u A' W (hCl' W h) (hP' W h) (Nat.lt_of_lt_of_le h1 h.size) (hRU W h)
  have P1 := fun W g gm (h : PrW w g gm n K S N A W) => PP _ A W (hCl' W h.bel) (hP' W h.bel) (Nat.lt_of_lt_of_le h1 h.bel.size) h.rowI
  have SM := fun W g gm (h : PrW w g gm n K S N A W) => same_eq _ _ n K N A S W h.rowI (hRV W h.bel) (by omega)
  have HRV : Hid (∀ W, Below w.heap.size w W → RowI W (.slice ad n cap) n K S N A) := hRV
  have HCl : Hid (∀ W, Below w.heap.size w W → Cl W) := hCl'
  have HP : Hid (∀ W, Below w.heap.size w W → Pt W) := hP'
  have R6 : ∀ W g, PsW w g n n W → Calls Tryd.prog 9 #[.slice (some ⟨g, 0, none⟩) n (n + 3)] W fun e w' => e = .returned (.tuple #[.string s6, .int .i64 c6]) ∧ Below W.heap.size W w' := fun W g h => RP6 _ (fun _ => 0) W (.inr ⟨g, 0, _, rfl, by omega, h.gl, h.done⟩)
  have P6 : ∀ W W' g, PsW w g n n W → Below W.heap.size W W' → Calls Tryd.prog 10 #[.slice (some ⟨g, 0, none⟩) n (n + 3)] W' fun e w' => e = .returned (.tuple #[.string s6, .int .i64 c6]) ∧ Below W'.heap.size W' w' := fun W W' g h hb =>
    have hb' := h.bel.trans (hb.mono h.bel.size)
    PP6 _ (fun _ => 0) W' (hCl' _ hb') (hP' _ hb') (Nat.lt_of_lt_of_le h1 hb'.size) ((show RowI W (.slice (some ⟨g, 0, none⟩) n (n + 3)) n (fun _ => 6) (fun _ => ⟨#[]⟩) (fun j => j) (fun _ => 0) from .inr ⟨g, 0, _, rfl, by omega, h.gl, h.done⟩).below hb)
  clear hRV hRU hv hu hCl' hP' RP PP RP' PP' RP6 PP6 hS hS' hK hK' hCl hP
  go_enter Tryd.func3, Tryd.ntmps3
  go_upto_region 6 with (first
    | (go_at_call 8; with_reducible refine Calls.mono AW ?_; rintro e w1 ⟨rfl, hb1⟩)
    | (go_at_call 9; with_reducible refine Calls.mono (R1 w1 hb1) ?_; rintro e w2 ⟨rfl, hb2⟩; have B2 := hb1.trans (hb2.mono hb1.size))
    | (go_at_call 9; with_reducible refine Calls.mono (R2 w2 B2) ?_; rintro e w3 ⟨rfl, hb3⟩; have B3 := B2.trans (hb3.mono B2.size))
    | (at_make; refine wpList_make_room _ rfl _ _ 22 rfl 28 i0 _ 4 Tryd.underlying22 hi hz0 hz1 _ _ _ _ n (n + 3) rfl rfl rfl (by omega) (by omega) (by rw [hz2]; omega) (by unfold maxLen; omega) ?_; intro w5 g hg hsz5 hb5 hc5 hf5))
  obtain ⟨gm, HM⟩ : ∃ gm, Hid (gm = w3.heap.size) := ⟨w3.heap.size, by show _ = _; rfl⟩
  have hgg : g = gm + 1 := by rw [hg, HM.out]; simp
  have hgm : gm < g := by omega
  rw [← HM.out] at ⊢
  rw [← hgg] at ⊢
  have hB3 := B3.size
  have b5 : Below w.heap.size w w5 := (B3.alloc hB3 _).trans (hb5.mono (by simp; omega))
  have glow : w.heap.size ≤ g := by rw [hgg, HM.out]; omega
  have g5 : g < w5.heap.size := by rw [hsz5, hg]; omega
  clear hgg
  have m5 : ∀ o, w5.cell? ⟨gm, o, none⟩ = #[Value.int .i64 (-9), .string ⟨#[98, 101, 104, 105, 110, 100]⟩, .int .i64 0, .int .i64 0][o]? := fun o => by
    rw [hb5.cell (p := ⟨gm, o, none⟩) (by show gm < _; rw [HM.out]; simp), HM.out]
    exact World.cell?_alloc_mark _ _ _ _ _
  obtain ⟨w6, CP, hb6, hc6, ht6, hf6⟩ := copy_tok w5 3 g n (n + 3) cap ad K N A S (HRV.out w5 b5) hc5 hf5
  have b6 : Below w.heap.size w w6 := b5.trans (hb6.mono glow)
  have g6 : g < w6.heap.size := Nat.lt_of_lt_of_le g5 hb6.size
  have m6 : ∀ o, w6.cell? ⟨gm, o, none⟩ = #[Value.int .i64 (-9), .string ⟨#[98, 101, 104, 105, 110, 100]⟩, .int .i64 0, .int .i64 0][o]? := fun o => by
    rw [hb6.cell (p := ⟨gm, o, none⟩) (by show gm < g; omega)]
    exact m5 o
  have n0 : w6.cell? ⟨gm, 0, none⟩ = some (.int .i64 (-9)) := m6 0
  have n1 : w6.cell? ⟨gm, 1, none⟩ = some (.string ⟨#[98, 101, 104, 105, 110, 100]⟩) := m6 1
  have n2 : w6.cell? ⟨gm, 2, none⟩ = some (.int .i64 0) := m6 2
  have n3 : w6.cell? ⟨gm, 3, none⟩ = some (.int .i64 0) := m6 3
  have hal : ∀ o, (w6.alloc (.cells markC.toArray 28)).cell? ⟨g, o, none⟩ = w6.cell? ⟨g, o, none⟩ := fun o => World.cell?_of_block (heap_alloc_old w6 _ g6)
  have hfl : ∀ o, (w6.alloc (.cells markC.toArray 28)).frozen? ⟨g, o, none⟩ = w6.frozen? ⟨g, o, none⟩ := fun o => World.frozen?_of_block (heap_alloc_old w6 _ g6)
  obtain ⟨w8, AP, hb8, hc8, hk8, hf8⟩ := append_marks (w6.alloc (.cells markC.toArray 28)) 22 g w6.heap.size n K N A S (heap_alloc_new w6 _) (fun i hi => by rw [hal]; exact hc6 i hi) (fun j hj => by rw [hal]; exact ht6 j hj) (fun j => by rw [hfl]; exact hf6 j)
  have Q8 : PrW w g gm n K S N A w8 := by
    refine ⟨(b6.alloc (by omega) _).trans (hb8.mono glow), glow, ?_, ?_, cells_each (fun i hi => by rw [Nat.zero_add]; exact hc8 i hi), hk8, ?_, hf8⟩
    · have := hb8.size
      simp at this
      omega
    · have := hb8.size
      simp at this
      omega
    · have e : ∀ o, w8.cell? ⟨gm, o, none⟩ = w6.cell? ⟨gm, o, none⟩ := fun o => by
        rw [hb8.cell (p := ⟨gm, o, none⟩) (by show gm < g; omega)]
        exact World.cell?_of_block (heap_alloc_old w6 _ (by show gm < _; omega))
      simp only [e]
      exact ⟨n0, n1, n2, n3⟩
  have hz6 : ¬ gm = w6.heap.size := by omega
  clear hc5 hf5 hb5 hsz5 hg m5 m6 hal hfl hb8 hc8 hk8 hf8 hc6 ht6 hf6 hb6
  go_upto_region 14 with (first
    | (at_builtin; refine Lib.wpList_copy_run _ rfl _ _ 22 22 rfl _ _ rfl rfl CP ?_)
    | (at_builtin; refine Lib.wpList_append_run _ rfl _ _ 22 22 rfl _ _ rfl rfl _ _ AP ?_)
    | (go_at_call 10; with_reducible refine Calls.mono (P1 w8 g gm Q8) ?_; rintro e w9 ⟨rfl, hb9⟩; have Q9 := Q8.below hb9)
    | (go_at_call 10; with_reducible refine Calls.mono (P2 w9 Q9.bel) ?_; rintro e w10 ⟨rfl, hb10⟩; have Q10 := Q9.below hb10)
    | (go_at_call 10; with_reducible refine Calls.mono (P1 w10 g gm Q10) ?_; rintro e w11 ⟨rfl, hb11⟩; have Q11 := Q10.below hb11)
    | (go_at_call 11; with_reducible refine Calls.mono (SM w11 g gm Q11) ?_; rintro e w12 ⟨rfl, k12, rfl⟩; have Q12 := Q11.drewN k12))
  generalize w11.drewN k12 = w12 at Q12 ⊢
  clear AW R1 R2 P1 P2 SM HRV HM Q8 Q9 Q10 Q11 hb9 hb10 hb11 CP AP B2 B3 hb1 hb2 hb3 b5 b6 g5 g6 n0 n1 n2 n3 hz6 hB3
  have hE := Tryd.eg28
  have hN : ∀ W, (binOp .neq 28 (.agg #[.int .i64 (-9), .string ⟨#[98, 101, 104, 105, 110, 100]⟩, .int .i64 0, .int .i64 0]) (.agg #[.int .i64 (-9), .string ⟨#[98, 101, 104, 105, 110, 100]⟩, .int .i64 0, .int .i64 0])).run Tryd.prog W = .ok (.bool false) W := fun W => neq_self _ _ _ _ W
  go_wp2
  go_loopw [20] (fun i wr => ∃ j k : Nat, n ≤ j ∧ j ≤ n + 3 ∧ i = .int .i64 j ∧ wr = w12.drewN k) (fun i _ => n + 3 - (intOf i).toNat)
  case atStart => exact ⟨n, 0, by omega, by omega, by go_num, rfl⟩
  case round =>
    obtain ⟨j, k, hj0, hj, rfl, rfl⟩ := hrel
    by_cases hlt : j < n + 3
    · obtain ⟨a0, a1, a2, a3⟩ := Q12.marks j hj0 hlt
      obtain ⟨b0, b1, b2, b3⟩ := Q12.mark
      go_wp2
      go_quiet (fail)
      go_wp2
      go_roundw
      case rel => exact ⟨j + 1, _, by omega, by omega, by go_num, by first | rfl | rw [World.drewN_drewN]⟩
      case measure => simp [intOf]; omega
    · have Q13 := (Q12.drewN k).over
      generalize w12.drewN k = w13 at Q13 ⊢
      clear Q12
      go_wp2
      go_loopw [21] (fun i wr => ∃ j : Nat, j ≤ n ∧ i = .int .i64 j ∧ PsW w g n j wr) (fun i _ => n - (intOf i).toNat)
      case atStart => exact ⟨0, by omega, by go_num, Q13⟩
      case round =>
        obtain ⟨i, hi, rfl, QS⟩ := hrel
        by_cases hlt2 : i < n
        · obtain ⟨x0, hx0⟩ := Option.isSome_iff_exists.1 (QS.there (i * 4) (by omega))
          obtain ⟨x1, hx1⟩ := Option.isSome_iff_exists.1 (QS.there (i * 4 + 1) (by omega))
          obtain ⟨x2, hx2⟩ := Option.isSome_iff_exists.1 (QS.there (i * 4 + 2) (by omega))
          obtain ⟨x3, hx3⟩ := Option.isSome_iff_exists.1 (QS.there (i * 4 + 3) (by omega))
          have f0 := QS.free (i * 4)
          have f1 := QS.free (i * 4 + 1)
          have f2 := QS.free (i * 4 + 2)
          have f3 := QS.free (i * 4 + 3)
          go_wp2
          go_roundw
          case rel => exact ⟨i + 1, by omega, by go_num, QS.step hlt2⟩
          case measure => simp [intOf]; omega
        · have e : i = n := by omega
          subst e
          go_wp2_with (first
            | (go_at_call 9; with_reducible refine Calls.mono (R6 _ g QS) ?_; rintro e w14 ⟨rfl, hb14⟩)
            | (go_at_call 10; with_reducible refine Calls.mono (P6 _ w14 g QS hb14) ?_; rintro e w15 ⟨rfl, hb15⟩))
          go_ret
          exact ⟨rfl, (QS.bel.trans (hb14.mono QS.bel.size)).trans (hb15.mono (Nat.le_trans QS.bel.size hb14.size))⟩
end Go.Proofs.YtkfhdmkdkphmoaaDoor
