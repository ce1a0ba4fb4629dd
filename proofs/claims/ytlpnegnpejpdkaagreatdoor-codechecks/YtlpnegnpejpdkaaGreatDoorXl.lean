/- lent: a table in memory of its own, with two marks behind each row. -/
import Derived.Test.YtlpnegnpejpdkaaGreatDoorMsx
import Derived.Test.YtlpnegnpejpdkaaGreatDoorMjx
namespace Go.Proofs.YtlpnegnpejpdkaaGreatDoor
open Go.RowKit

theorem res10 {w : World} {X : Nat} {tm : Array Value} {a b : Value} (h4 : tm[2]? = some (.pointer (some ⟨X, 0, none⟩))) (x0 : w.cell? ⟨X, 0, none⟩ = some a) (x1 : w.cell? ⟨X, 1, none⟩ = some b) : (results Tryz.f10 tm).run Tryz.prog w = .ok (.agg #[a, b]) w := by
  simp [results, Tryz.f10, go_sem, h4, x0, x1]
set_option maxHeartbeats 16000000 in
set_option maxRecDepth 10000 in
theorem lent_any {w : World} {sv gv : Value} {t : Tab} (h : TabV w (fun y => y < w.heap.size) sv gv t) (hr : Room t) : Calls Tryz.prog 10 #[.agg #[sv, gv]] w fun r w' => r = .returned (.agg #[.slice (some ⟨w.heap.size + 2, 0, none⟩) t.1.length (t.1.length + 2), .slice (some ⟨w.heap.size + 3, 0, none⟩) t.2.length (t.2.length + 2)]) ∧ Hid (LentT w' (w.heap.size + 2) (w.heap.size + 3) t ∧ Below w.heap.size w w') := by
  obtain ⟨sa, sc, rfl⟩ := RowK.len h.shp
  obtain ⟨ga, gc, rfl⟩ := RowK.len h.glb
  obtain ⟨j48, z48, _, hi48, hz48, hs48, hb48, _⟩ : ∃ (i : TypeInfo) (z : Value), True ∧ Tryz.prog.info? 48 = some i ∧ i.zero = some z ∧ i.size = 2 ∧ i.bytes = 24 ∧ True := by
    obtain ⟨i, z, a, b, c, d, _⟩ := Tryz.ty22.info
    exact ⟨i, z, trivial, a, b, c, d, trivial⟩
  obtain ⟨j51, z51, _, hi51, hz51, hs51, hb51, _⟩ : ∃ (i : TypeInfo) (z : Value), True ∧ Tryz.prog.info? 51 = some i ∧ i.zero = some z ∧ i.size = 3 ∧ i.bytes = 48 ∧ True := by
    obtain ⟨i, z, a, b, c, d, _⟩ := Tryz.ty23.info
    exact ⟨i, z, trivial, a, b, c, d, trivial⟩
  obtain ⟨j53, hi53, hz53, hs53, hb53⟩ := Tryz.info53
  obtain ⟨X, hX⟩ : ∃ X, X = w.heap.size := ⟨_, rfl⟩
  obtain ⟨ns, hns⟩ : ∃ n, n = t.1.length := ⟨_, rfl⟩
  obtain ⟨ng, hng⟩ : ∃ n, n = t.2.length := ⟨_, rfl⟩
  obtain ⟨W0, hW0⟩ : ∃ W0, W0 = (w.alloc (.cells #[.slice sa ns sc, .slice ga ng gc] 25)).alloc (.cells #[.slice none 0 0, .slice none 0 0] 25) := ⟨_, rfl⟩
  have b1 : Below w.heap.size w W0 := by rw [hW0]; exact ((Below.refl _ _).alloc (Nat.le_refl _) _).alloc (by rw [World.size_alloc]; omega) _
  have hs1 : (w.alloc (.cells #[.slice sa ns sc, .slice ga ng gc] 25)).heap.size = w.heap.size + 1 := World.size_alloc _ _
  have hs0 : W0.heap.size = X + 2 := by rw [hW0, World.size_alloc, hs1, hX]
  have hYW : W0.heap[X + 1]? = some (.cells #[.slice none 0 0, .slice none 0 0] 25 (0, 0)) := by rw [hW0, hX, ← hs1]; exact new_blk _ _
  have hXW : W0.heap[X]? = some (.cells #[.slice sa ns sc, .slice ga ng gc] 25 (0, 0)) := by
    have q : Below (X + 1) (w.alloc (.cells #[.slice sa ns sc, .slice ga ng gc] 25)) W0 := by rw [hW0, hX, ← hs1]; exact (Below.refl _ _).alloc (Nat.le_refl _) _
    rw [q.block X (by omega), hX]
    exact new_blk _ _
  have HC : Hid (∀ w2, Below (X + 2) W0 w2 → (w2.cell? ⟨X, 0, none⟩ = some (.slice sa ns sc) ∧ w2.cell? ⟨X, 1, none⟩ = some (.slice ga ng gc)) ∧ (w2.heap[X + 1]? = some (.cells #[.slice none 0 0, .slice none 0 0] 25 (0, 0))) ∧ Below w.heap.size w w2 ∧ TabV w2 (fun y => y < X) (.slice sa ns sc) (.slice ga ng gc) t) := fun w2 hb => by
    have hb2 := b1.trans (hb.mono (by omega))
    refine ⟨⟨heap_cl ((hb.block X (by omega)).trans hXW) rfl, heap_cl ((hb.block X (by omega)).trans hXW) rfl⟩, (hb.block _ (by omega)).trans hYW, hb2, ?_⟩
    rw [hns, hng]
    exact h.on (Keeps.of hb2 fun _ h => h) |> fun q => by rw [hX]; exact q
  have HXE : Hid (X = w.heap.size) := hX
  have HS0 : Hid (W0.heap.size = X + 2) := hs0
  have HNS : Hid (ns = t.1.length) := hns
  have HNG : Hid (ng = t.2.length) := hng
  have HRM : Hid (Room t) := hr
  have r1 : ns ≤ 5864062014700 := by rw [hns]; exact hr.shp
  have r2 : ng ≤ 2932031007400 := by rw [hng]; exact hr.glb
  have HRC : Hid (∀ i (h : i < t.2.length), t.2[i].2.2.length ≤ 5864062014700) := fun i h => hr.cod _ (List.getElem_mem h)
  obtain ⟨F, hF⟩ : ∃ F : Ending → World → Prop, F = fun r w' => r = .returned (.agg #[.slice (some ⟨w.heap.size + 2, 0, none⟩) t.1.length (t.1.length + 2), .slice (some ⟨w.heap.size + 3, 0, none⟩) t.2.length (t.2.length + 2)]) ∧ Hid (LentT w' (w.heap.size + 2) (w.heap.size + 3) t ∧ Below w.heap.size w w') := ⟨_, rfl⟩
  rw [← hF]
  have HF : Hid (∀ w', LentT w' (X + 2) (X + 3) t → Below w.heap.size w w' → F (.returned (.agg #[.slice (some ⟨X + 2, 0, none⟩) ns (ns + 2), .slice (some ⟨X + 3, 0, none⟩) ng (ng + 2)])) w') := fun w' h1 h2 => by
    rw [hF, hns, hng]
    rw [hX] at h1
    exact ⟨by rw [hX], h1, h2⟩
  rw [← hns, ← hng]
  obtain ⟨⟨x0, x1⟩, y0, _, _⟩ := HC.out W0 (Below.refl _ _)
  clear h hr hX hns hng b1 hs1 hs0 hYW hXW hF y0
  go_enter Tryz.func10, Tryz.ntmps10
  go_upto_region 1 with fail
  rw [← hW0, ← HXE.out]
  clear hW0
  go_upto_region 2 with (refine wpList_make_room _ rfl _ _ 22 rfl 48 j48 z48 2 (by kernel_rfl) hi48 hz48 hs48 .i64 .i64 ((ns : Int) + 2) ((ns : Int) + 2) (ns + 2) (ns + 2) rfl rfl (by omega) (by omega) (Nat.le_refl _) (by rw [hb48]; omega) (by unfold maxLen; omega) ?_; intro w1 g1 hG1 hsz1 hbG1 hcur1; rw [HS0.out] at hG1 hsz1 hbG1; subst hG1; obtain ⟨f0, hf0⟩ := hcur1; have H1 : Hid (Below (X + 2) W0 w1 ∧ w1.heap.size = X + 3 ∧ RowL w1 48 2 (X + 2) (ns + 2) f0) := ⟨hbG1, hsz1, hf0⟩; clear hsz1 hbG1 hf0)
  clear x0 x1 hi48 hz48 hs48 hb48
  go_upto_region 3 with fail
  go_loopw [4] (fun iv wr => ∃ (j : Nat) (f : Nat → List Value), j ≤ ns + 2 ∧ iv = .int .i64 j ∧ Hid (Below (X + 2) W0 wr ∧ wr.heap.size = X + 3 ∧ RowL wr 48 2 (X + 2) (ns + 2) f ∧ ∀ i, i < j → f i = shpC t.1 i)) (fun iv _ => ns + 2 - (intOf iv).toNat)
  case atStart => exact ⟨0, f0, by omega, by go_num, H1.out.1, H1.out.2.1, H1.out.2.2, fun i hi => by omega⟩
  case round =>
    clear H1
    obtain ⟨j, f, hj, rfl, HR⟩ := hrel
    have j0 : (0 : Int) ≤ (j : Int) := by omega
    by_cases hlt : j < ns + 2
    · have hlt2 : (j : Int) < ((ns + 2 : Nat) : Int) := by omega
      obtain ⟨⟨a, b, c0, c1⟩, f0', f1'⟩ := HR.out.2.2.1.two hlt
      go_upto_region 6 with fail
      obtain ⟨W2, hW2⟩ : ∃ W2, W2 = (wr.setCell ⟨X + 2, j * 2, none⟩ (.string ⟨#[98, 101, 104, 105, 110, 100]⟩)).setCell ⟨X + 2, j * 2 + 1, none⟩ (.int .i64 0) := ⟨_, rfl⟩
      obtain ⟨q1, q2, q3⟩ := HR.out.2.2.1.set2 hlt _ _ hW2
      rw [← hW2]
      have HR2 : Hid (Below (X + 2) W0 W2 ∧ W2.heap.size = X + 3 ∧ RowL W2 48 2 (X + 2) (ns + 2) (fun y => if y = j then [.string ⟨#[98, 101, 104, 105, 110, 100]⟩, .int .i64 0] else f y)) := ⟨HR.out.1.trans q2, by rw [q3]; exact HR.out.2.1, q1⟩
      have HR3 : Hid (∀ i, i < j → f i = shpC t.1 i) := HR.out.2.2.2
      clear c0 c1 f0' f1' hW2 q1 q2 q3 HR
      obtain ⟨⟨x0, x1⟩, _, _, hT⟩ := HC.out W2 HR2.out.1
      obtain ⟨⟨a2, b2, d0, d1⟩, g0', g1'⟩ := HR2.out.2.2.two hlt
      by_cases hin : j < ns
      · have hin2 : (j : Int) < (ns : Int) := by omega
        have hin3 : j < t.1.length := by have := HNS.out; omega
        obtain ⟨sa', sc', e, hrow⟩ := shp_at hT.shp
        obtain ⟨rfl, -, rfl⟩ := Value.slice.inj e
        obtain ⟨sg, so, rfl, _, hcap, e0, e1, _⟩ := hrow j hin3
        clear hrow e hT
        have hcap2 : ns ≤ sc := by have := HNS.out; omega
        go_upto_region 4 with fail
        obtain ⟨W3, hW3⟩ : ∃ W3, W3 = (W2.setCell ⟨X + 2, j * 2, none⟩ (.string ⟨t.1[j].1.toArray⟩)).setCell ⟨X + 2, j * 2 + 1, none⟩ (.int .i64 t.1[j].2) := ⟨_, rfl⟩
        obtain ⟨q1, q2, q3⟩ := HR2.out.2.2.set2 hlt _ _ hW3
        rw [← hW3]
        have HN : Hid (Below (X + 2) W0 W3 ∧ W3.heap.size = X + 3 ∧ RowL W3 48 2 (X + 2) (ns + 2) (fun y => if y = j then [.string ⟨t.1[j].1.toArray⟩, .int .i64 t.1[j].2] else (if y = j then [.string ⟨#[98, 101, 104, 105, 110, 100]⟩, .int .i64 0] else f y)) ∧ ∀ i, i < j + 1 → (if i = j then [.string ⟨t.1[j].1.toArray⟩, .int .i64 t.1[j].2] else (if i = j then [.string ⟨#[98, 101, 104, 105, 110, 100]⟩, .int .i64 0] else f i)) = shpC t.1 i) := ⟨HR2.out.1.trans q2, by rw [q3]; exact HR2.out.2.1, q1, mark_at (mark_on HR3.out) (shpC_in hin3).symm⟩
        clear q1 q2 q3 hW3 x0 x1 d0 d1 g0' g1' e0 e1 HR2 HR3
        go_wp2
        go_roundw
        case rel => exact ⟨j + 1, _, by omega, by go_num, HN.out⟩
        case measure => simp [intOf]; omega
      · have hin2 : ¬ (j : Int) < (ns : Int) := by omega
        have HN : Hid (∀ i, i < j + 1 → (if i = j then [.string ⟨#[98, 101, 104, 105, 110, 100]⟩, .int .i64 0] else f i) = shpC t.1 i) := mark_at HR3.out (shpC_out (by have := HNS.out; omega)).symm
        clear hT d0 d1 g0' g1'
        go_wp2
        go_roundw
        case rel => exact ⟨j + 1, _, by omega, by go_num, HR2.out.1, HR2.out.2.1, HR2.out.2.2, HN.out⟩
        case measure => simp [intOf]; omega
    · have HV : Hid (Below (X + 2) W0 wr ∧ wr.heap.size = X + 3 ∧ RowL wr 48 2 (X + 2) (ns + 2) (shpC t.1)) := ⟨HR.out.1, HR.out.2.1, HR.out.2.2.1.congr fun i hi => (HR.out.2.2.2 i (by omega)).symm⟩
      have hlt2 : ¬ (j : Int) < ((ns + 2 : Nat) : Int) := by omega
      have hlt3 : ¬ (j : Int) < (ns : Int) + 2 := by omega
      clear HR
      obtain ⟨⟨x0, x1⟩, _, _, _⟩ := HC.out wr HV.out.1
      go_upto_region 9 with (refine wpList_make_room _ rfl _ _ 23 rfl 51 j51 z51 3 (by kernel_rfl) hi51 hz51 hs51 .i64 .i64 ((ng : Int) + 2) ((ng : Int) + 2) (ng + 2) (ng + 2) rfl rfl (by omega) (by omega) (Nat.le_refl _) (by rw [hb51]; omega) (by unfold maxLen; omega) ?_; intro w3 g3 hG3 hsz3 hbG3 hcur3; rw [HV.out.2.1] at hG3 hsz3 hbG3; subst hG3; obtain ⟨f3, hf3⟩ := hcur3; have H3 : Hid (Below (X + 3) wr w3 ∧ w3.heap.size = X + 4 ∧ RowL w3 51 3 (X + 3) (ng + 2) f3) := ⟨hbG3, hsz3, hf3⟩; clear hsz3 hbG3 hf3)
      clear x0 x1 hi51 hz51 hs51 hb51 hlt2 hlt3 j0 hj hlt
      have HCV : Hid (∀ w2, Below (X + 3) wr w2 → (w2.cell? ⟨X, 0, none⟩ = some (.slice sa ns sc) ∧ w2.cell? ⟨X, 1, none⟩ = some (.slice ga ng gc)) ∧ (w2.heap[X + 1]? = some (.cells #[.slice none 0 0, .slice none 0 0] 25 (0, 0))) ∧ Below w.heap.size w w2 ∧ TabV w2 (fun y => y < X) (.slice sa ns sc) (.slice ga ng gc) t ∧ RowL w2 48 2 (X + 2) (ns + 2) (shpC t.1)) := fun w2 hb => by
        obtain ⟨a, b, c, d⟩ := HC.out w2 (HV.out.1.trans (hb.mono (by omega)))
        exact ⟨a, b, c, d, HV.out.2.2.below hb (by omega)⟩
      clear HC HV
      generalize wr = V at *
      go_upto_region 10 with fail
      go_loopw [6, 7, 8, 9] (fun iv _ _ _ wr => ∃ (i : Nat) (f : Nat → List Value), i ≤ ng + 2 ∧ iv = .int .i64 i ∧ Hid (Below (X + 3) V wr ∧ wr.heap.size = X + 4 + min i ng ∧ RowL wr 51 3 (X + 3) (ng + 2) f ∧ (∀ y, y < i → f y = glbC (X + 3) t.2 y) ∧ ∀ y (h : y < t.2.length), y < i → RowL wr 53 3 (X + 3 + 1 + y) (t.2[y].2.2.length + 2) (insL t.2[y].2.2))) (fun iv _ _ _ _ => ng + 2 - (intOf iv).toNat)
      case atStart => exact ⟨0, f3, by omega, by go_num, H3.out.1, by have := H3.out.2.1; omega, H3.out.2.2, fun i hi => by omega, fun i _ hi => by omega⟩
      case round =>
        clear H3
        obtain ⟨i, f4, hi, rfl, HR⟩ := hrel
        have i0 : (0 : Int) ≤ (i : Int) := by omega
        by_cases hlt : i < ng + 2
        · have hlt2 : (i : Int) < ((ng + 2 : Nat) : Int) := by omega
          obtain ⟨⟨a, b, c, c0, c1, c2⟩, z0, z1, z2⟩ := HR.out.2.2.1.three hlt
          go_upto_region 13 with fail
          obtain ⟨W2, hW2⟩ : ∃ W2, W2 = ((wr.setCell ⟨X + 3, i * 3, none⟩ (.string ⟨#[98, 101, 104, 105, 110, 100]⟩)).setCell ⟨X + 3, i * 3 + 1, none⟩ (.int .i64 0)).setCell ⟨X + 3, i * 3 + 2, none⟩ (.slice none 0 0) := ⟨_, rfl⟩
          obtain ⟨q1, q2, q3⟩ := HR.out.2.2.1.set3 hlt _ _ _ hW2
          rw [← hW2]
          have HFAR : Hid (∀ y (h : y < t.2.length), y < i → RowL W2 53 3 (X + 3 + 1 + y) (t.2[y].2.2.length + 2) (insL t.2[y].2.2)) := fun y hy hyi => by
            rw [hW2]
            exact (((HR.out.2.2.2.2 y hy hyi).far (by omega) _ _).far (by omega) _ _).far (by omega) _ _
          have HR2 : Hid (Below (X + 3) V W2 ∧ W2.heap.size = X + 4 + min i ng ∧ RowL W2 51 3 (X + 3) (ng + 2) (fun y => if y = i then [.string ⟨#[98, 101, 104, 105, 110, 100]⟩, .int .i64 0, .slice none 0 0] else f4 y) ∧ ∀ y, y < i → f4 y = glbC (X + 3) t.2 y) := ⟨HR.out.1.trans q2, by rw [q3]; exact HR.out.2.1, q1, HR.out.2.2.2.1⟩
          clear c0 c1 c2 z0 z1 z2 hW2 q1 q2 q3 HR
          obtain ⟨⟨x0, x1⟩, _, _, hT, _⟩ := HCV.out W2 HR2.out.1
          by_cases hin : i < ng
          case neg =>
            have hin2 : ¬ (i : Int) < (ng : Int) := by omega
            have HN : Hid (∀ y, y < i + 1 → (if y = i then [.string ⟨#[98, 101, 104, 105, 110, 100]⟩, .int .i64 0, .slice none 0 0] else f4 y) = glbC (X + 3) t.2 y) := mark_at HR2.out.2.2.2 (glbC_out (by have := HNG.out; omega)).symm
            have HM : Hid (min (i + 1) ng = min i ng) := by show min (i + 1) ng = min i ng; omega
            clear hT
            go_wp2
            go_roundw
            case rel => exact ⟨i + 1, _, by omega, by go_num, HR2.out.1, by rw [HM.out]; exact HR2.out.2.1, HR2.out.2.2.1, HN.out, fun y hy hyi => HFAR.out y hy (by have := HNG.out; omega)⟩
            case measure => simp [intOf]; omega
          have hin2 : (i : Int) < (ng : Int) := by omega
          have hin3 : i < t.2.length := by have := HNG.out; omega
          have hmin : min i ng = i := by omega
          have HSZ : Hid (W2.heap.size = X + 3 + 1 + i) := by show W2.heap.size = X + 3 + 1 + i; rw [HR2.out.2.1, hmin]
          obtain ⟨n, hn⟩ : ∃ n, n = t.2[i].2.2.length := ⟨_, rfl⟩
          obtain ⟨code, hcode⟩ : ∃ code, code = t.2[i].2.2 := ⟨_, rfl⟩
          have HNC : Hid (n = code.length) := by rw [hcode]; exact hn
          have HCE : Hid (code = t.2[i].2.2) := hcode
          have hn5 : n ≤ 5864062014700 := by rw [hn]; exact HRC.out i hin3
          have HAT : Hid (∃ (g0 o0 : Nat) (ca : Option Addr) (cc : Nat), ga = some ⟨g0, o0, none⟩ ∧ ng ≤ gc ∧ (∀ w2, Below (X + 3) V w2 → w2.cell? ⟨g0, o0 + i * 3, none⟩ = some (.string ⟨t.2[i].1.toArray⟩) ∧ w2.cell? ⟨g0, o0 + i * 3 + 1, none⟩ = some (.int .i64 t.2[i].2.1) ∧ w2.cell? ⟨g0, o0 + i * 3 + 2, none⟩ = some (.slice ca n cc) ∧ ∀ k (hk : k < code.length), ∃ g1 o1, ca = some ⟨g1, o1, none⟩ ∧ n ≤ cc ∧ w2.cell? ⟨g1, o1 + k * 3, none⟩ = some (.int .i64 code[k].1) ∧ w2.cell? ⟨g1, o1 + k * 3 + 1, none⟩ = some (.int .i64 code[k].2.1) ∧ w2.cell? ⟨g1, o1 + k * 3 + 2, none⟩ = some (.int .i64 code[k].2.2))) := by
            obtain ⟨ga', gc', e, hrow⟩ := glb_at hT.glb
            obtain ⟨rfl, -, rfl⟩ := Value.slice.inj e
            obtain ⟨g0, o0, cv, rfl, _, hcap, e0, e1, e2, _, _, hcr⟩ := hrow i hin3
            obtain ⟨ca, cc, ecv⟩ := RowK.len hcr
            refine ⟨g0, o0, ca, cc, rfl, by have := HNG.out; omega, fun w2 hb => ?_⟩
            obtain ⟨_, _, _, hT2, _⟩ := HCV.out w2 hb
            obtain ⟨ga2, gc2, e', hrow2⟩ := glb_at hT2.glb
            obtain ⟨rfl, -, rfl⟩ := Value.slice.inj e'
            obtain ⟨g2, o2, cv2, e3, _, _, e4, e5, e6, _, _, hcr2⟩ := hrow2 i hin3
            simp only [Option.some.injEq, Addr.mk.injEq, and_true] at e3
            obtain ⟨rfl, rfl⟩ := e3
            have hc2 : cv2 = cv := by
              have hbw : w2.cell? ⟨g0, o0 + i * 3 + 2, none⟩ = W2.cell? ⟨g0, o0 + i * 3 + 2, none⟩ := by
                have hgX : g0 < X + 3 := by omega
                rw [hb.cell (p := ⟨g0, o0 + i * 3 + 2, none⟩) hgX, HR2.out.1.cell (p := ⟨g0, o0 + i * 3 + 2, none⟩) hgX]
              rw [hbw, e2] at e6
              exact (Option.some.inj e6).symm
            subst hc2
            refine ⟨e4, e5, by rw [e6, ecv, hn], fun k hk => ?_⟩
            subst hcode
            obtain ⟨ca2, cc2, e7, hh⟩ := ins_at hcr2
            rw [ecv] at e7
            obtain ⟨rfl, -, rfl⟩ := Value.slice.inj e7
            obtain ⟨g1, o1, q1, _, q2, q3, q4, q5⟩ := hh k hk
            exact ⟨g1, o1, q1, by omega, q3, q4, q5⟩
          obtain ⟨gg, go, ca, cc, rfl, hgc, HAT2⟩ := HAT.out
          replace HAT2 : Hid _ := HAT2
          obtain ⟨d0, d1, d2, _⟩ := HAT2.out W2 HR2.out.1
          clear HAT hT hn hcode hmin
          go_upto_region 16 with (refine wpList_make_room _ rfl _ _ 49 rfl 53 j53 _ 3 (by kernel_rfl) hi53 hz53 hs53 .i64 .i64 ((n : Int) + 2) ((n : Int) + 2) (n + 2) (n + 2) rfl rfl (by omega) (by omega) (Nat.le_refl _) (by rw [hb53]; omega) (by unfold maxLen; omega) ?_; intro w5 g5 hG5 hsz5 hbG5 hcur5; rw [HSZ.out] at hG5 hsz5 hbG5; subst hG5; obtain ⟨f5, hf5⟩ := hcur5; have H5 : Hid (Below (X + 3 + 1 + i) W2 w5 ∧ w5.heap.size = X + 3 + 1 + i + 1 ∧ RowL w5 53 3 (X + 3 + 1 + i) (n + 2) f5) := ⟨hbG5, hsz5, hf5⟩; clear hsz5 hbG5 hf5)
          clear x0 x1 d0 d1 d2
          have HCW : Hid (∀ w2, Below (X + 3 + 1 + i) W2 w2 → Below (X + 3) V w2) := fun w2 hb => HR2.out.1.trans (hb.mono (by omega))
          go_upto_region 17 with fail
          go_loopw [9] (fun kv wr => ∃ (k : Nat) (f : Nat → List Value), k ≤ n + 2 ∧ kv = .int .i64 k ∧ Hid (Below (X + 3 + 1 + i) W2 wr ∧ wr.heap.size = X + 3 + 1 + i + 1 ∧ RowL wr 53 3 (X + 3 + 1 + i) (n + 2) f ∧ ∀ y, y < k → f y = insL code y)) (fun kv _ => n + 2 - (intOf kv).toNat)
          case atStart => exact ⟨0, f5, by omega, by go_num, H5.out.1, H5.out.2.1, H5.out.2.2, fun i hi => by omega⟩
          case round =>
            clear H5
            obtain ⟨k, f6, hk, rfl, HK6⟩ := hrel
            have k0 : (0 : Int) ≤ (k : Int) := by omega
            by_cases hkl : k < n + 2
            · have hkl2 : (k : Int) < ((n + 2 : Nat) : Int) := by omega
              obtain ⟨⟨a6, b6, c6, e0, e1, e2⟩, z0, z1, z2⟩ := HK6.out.2.2.1.three hkl
              go_upto_region 20 with fail
              obtain ⟨W4, hW4⟩ : ∃ W4, W4 = ((wr.setCell ⟨X + 3 + 1 + i, k * 3, none⟩ (.int .i64 (-77))).setCell ⟨X + 3 + 1 + i, k * 3 + 1, none⟩ (.int .i64 0)).setCell ⟨X + 3 + 1 + i, k * 3 + 2, none⟩ (.int .i64 0) := ⟨_, rfl⟩
              obtain ⟨q1, q2, q3⟩ := HK6.out.2.2.1.set3 hkl _ _ _ hW4
              rw [← hW4]
              have HK7 : Hid (Below (X + 3 + 1 + i) W2 W4 ∧ W4.heap.size = X + 3 + 1 + i + 1 ∧ RowL W4 53 3 (X + 3 + 1 + i) (n + 2) (fun y => if y = k then [.int .i64 (-77), .int .i64 0, .int .i64 0] else f6 y) ∧ ∀ y, y < k → f6 y = insL code y) := ⟨HK6.out.1.trans q2, by rw [q3]; exact HK6.out.2.1, q1, HK6.out.2.2.2⟩
              clear e0 e1 e2 z0 z1 z2 hW4 q1 q2 q3 HK6
              by_cases hkn : k < n
              case neg =>
                have hkn2 : ¬ (k : Int) < (n : Int) := by omega
                have HN : Hid (∀ y, y < k + 1 → (if y = k then [.int .i64 (-77), .int .i64 0, .int .i64 0] else f6 y) = insL code y) := mark_at HK7.out.2.2.2 (insL_out (by have := HNC.out; omega)).symm
                go_wp2
                go_roundw
                case rel => exact ⟨k + 1, _, by omega, by go_num, HK7.out.1, HK7.out.2.1, HK7.out.2.2.1, HN.out⟩
                case measure => simp [intOf]; omega
              have hkn2 : (k : Int) < (n : Int) := by omega
              have hkn3 : k < code.length := by have := HNC.out; omega
              obtain ⟨⟨x0, x1⟩, _⟩ := HCV.out W4 (HCW.out W4 HK7.out.1)
              obtain ⟨_, _, d2, hcd⟩ := HAT2.out W4 (HCW.out W4 HK7.out.1)
              obtain ⟨g1, o1, rfl, hcc, m0, m1, m2⟩ := hcd k hkn3
              obtain ⟨⟨a7, b7, c7, e0, e1, e2⟩, z0, z1, z2⟩ := HK7.out.2.2.1.three hkl
              clear hcd
              go_upto_region 18 with fail
              obtain ⟨W6, hW6⟩ : ∃ W6, W6 = ((W4.setCell ⟨X + 3 + 1 + i, k * 3, none⟩ (.int .i64 code[k].1)).setCell ⟨X + 3 + 1 + i, k * 3 + 1, none⟩ (.int .i64 code[k].2.1)).setCell ⟨X + 3 + 1 + i, k * 3 + 2, none⟩ (.int .i64 code[k].2.2) := ⟨_, rfl⟩
              obtain ⟨q1, q2, q3⟩ := HK7.out.2.2.1.set3 hkl _ _ _ hW6
              rw [← hW6]
              have HN : Hid (Below (X + 3 + 1 + i) W2 W6 ∧ W6.heap.size = X + 3 + 1 + i + 1 ∧ RowL W6 53 3 (X + 3 + 1 + i) (n + 2) (fun y => if y = k then [.int .i64 code[k].1, .int .i64 code[k].2.1, .int .i64 code[k].2.2] else (if y = k then [.int .i64 (-77), .int .i64 0, .int .i64 0] else f6 y)) ∧ ∀ y, y < k + 1 → (if y = k then [.int .i64 code[k].1, .int .i64 code[k].2.1, .int .i64 code[k].2.2] else (if y = k then [.int .i64 (-77), .int .i64 0, .int .i64 0] else f6 y)) = insL code y) := ⟨HK7.out.1.trans q2, by rw [q3]; exact HK7.out.2.1, q1, mark_at (mark_on HK7.out.2.2.2) (insL_in hkn3).symm⟩
              clear x0 x1 d2 m0 m1 m2 e0 e1 e2 z0 z1 z2 hW6 q1 q2 q3 HK7
              go_wp2
              go_roundw
              case rel => exact ⟨k + 1, _, by omega, by go_num, HN.out⟩
              case measure => simp [intOf]; omega
            · have hkl2 : ¬ (k : Int) < ((n + 2 : Nat) : Int) := by omega
              have HCO : Hid (RowL wr 53 3 (X + 3 + 1 + i) (n + 2) (insL code)) := HK6.out.2.2.1.congr fun y hy => (HK6.out.2.2.2 y (by omega)).symm
              have HW6 : Hid (Below (X + 3 + 1 + i) W2 wr ∧ wr.heap.size = X + 3 + 1 + i + 1) := ⟨HK6.out.1, HK6.out.2.1⟩
              clear HK6
              obtain ⟨D, hD⟩ : ∃ D : World, D = wr.drew := ⟨_, rfl⟩
              have HD : Hid (Below (X + 3 + 1 + i) W2 D ∧ D.heap.size = X + 3 + 1 + i + 1 ∧ RowL D 53 3 (X + 3 + 1 + i) (n + 2) (insL code)) := ⟨by rw [hD]; exact HW6.out.1.drew, by rw [hD]; exact HW6.out.2, by rw [hD]; exact HCO.out.on rfl⟩
              obtain ⟨⟨_, x1⟩, _⟩ := HCV.out D (HCW.out D HD.out.1)
              obtain ⟨d0, d1, _, _⟩ := HAT2.out D (HCW.out D HD.out.1)
              obtain ⟨⟨a7, b7, c7, e0, e1, e2⟩, z0, z1, z2⟩ := (HR2.out.2.2.1.below HD.out.1 (by omega)).three hlt
              obtain ⟨nm, hnm⟩ : ∃ nm, nm = t.2[i].1 := ⟨_, rfl⟩
              obtain ⟨ar, har⟩ : ∃ ar, ar = t.2[i].2.1 := ⟨_, rfl⟩
              rw [← hnm] at d0
              rw [← har] at d1
              have HNM : Hid (nm = t.2[i].1 ∧ ar = t.2[i].2.1) := ⟨hnm, har⟩
              have n0 : (0 : Int) ≤ (n : Int) := by omega
              have n1 : (n : Int) ≤ ((n + 2 : Nat) : Int) := by omega
              have n2 : (n : Int) ≤ (n : Int) + 2 := by omega
              have hS0 : (fun w' : World => w'.cell? ⟨X, 1, none⟩ = some (.slice (some ⟨gg, go, none⟩) ng gc) ∧ w'.cell? ⟨gg, go + i * 3, none⟩ = some (.string ⟨nm.toArray⟩) ∧ w'.cell? ⟨gg, go + i * 3 + 1, none⟩ = some (.int .i64 ar)) D := ⟨x1, d0, d1⟩
              clear x1 d0 d1 hnm har
              go_upto_region 22 with fail
              refine wp_region_M (S := (fun w' : World => w'.cell? ⟨X, 1, none⟩ = some (.slice (some ⟨gg, go, none⟩) ng gc) ∧ w'.cell? ⟨gg, go + i * 3, none⟩ = some (.string ⟨nm.toArray⟩) ∧ w'.cell? ⟨gg, go + i * 3 + 1, none⟩ = some (.int .i64 ar))) (L := 100) (n := 20) (by kernel_rfl) rfl (by kernel_rfl) ?_
              rw [← hD]
              clear hD
              refine wpAnyK_go (i := 0) (m' := 1) (some 93) (v := .slice (some ⟨X + 3, 0, none⟩) (ng + 2) (ng + 2)) rfl rfl (by kernel_rfl) (by kernel_rfl) (by kernel_rfl) (by kernel_rfl) (by kernel_rfl) (fun _ _ _ h => h) (Or.inl ⟨by rfl, ?_⟩) hS0 ?_
              · intro w' hSw
                go_simp
              simp only [Act.put, List.setIfInBounds_toArray, List.set_cons_zero, List.set_cons_succ]
              refine wpAnyK_go (i := 1) (m' := 3) (some 94) (v := .int .i64 (i : Int)) rfl rfl (by kernel_rfl) (by kernel_rfl) (by kernel_rfl) (by kernel_rfl) (by kernel_rfl) (fun _ _ _ h => h) (Or.inl ⟨by rfl, ?_⟩) hS0 ?_
              · intro w' hSw
                go_simp
              simp only [Act.put, List.setIfInBounds_toArray, List.set_cons_zero, List.set_cons_succ]
              refine wpAnyK_go (i := 2) (m' := 7) (some 95) (v := .pointer (some ⟨X, 1, none⟩)) rfl rfl (by kernel_rfl) (by kernel_rfl) (by kernel_rfl) (by kernel_rfl) (by kernel_rfl) (fun _ _ _ h => h) (Or.inl ⟨by rfl, ?_⟩) hS0 ?_
              · intro w' hSw
                go_simp
              simp only [Act.put, List.setIfInBounds_toArray, List.set_cons_zero, List.set_cons_succ]
              refine wpAnyK_go (i := 3) (m' := 15) (some 96) (v := .slice (some ⟨gg, go, none⟩) ng gc) rfl rfl (by kernel_rfl) (by kernel_rfl) (by kernel_rfl) (by kernel_rfl) (by kernel_rfl) (fun _ _ _ h => h) (Or.inl ⟨by rfl, ?_⟩) hS0 ?_
              · intro w' hSw
                obtain ⟨p1, p2, p3⟩ := hSw
                go_simp
              simp only [Act.put, List.setIfInBounds_toArray, List.set_cons_zero, List.set_cons_succ]
              refine wpAnyK_go (i := 4) (m' := 31) (some 97) (v := .int .i64 (i : Int)) rfl rfl (by kernel_rfl) (by kernel_rfl) (by kernel_rfl) (by kernel_rfl) (by kernel_rfl) (fun _ _ _ h => h) (Or.inl ⟨by rfl, ?_⟩) hS0 ?_
              · intro w' hSw
                go_simp
              simp only [Act.put, List.setIfInBounds_toArray, List.set_cons_zero, List.set_cons_succ]
              refine wpAnyK_go (i := 5) (m' := 63) (some 98) (v := .pointer (some ⟨gg, go + i * 3, none⟩)) rfl rfl (by kernel_rfl) (by kernel_rfl) (by kernel_rfl) (by kernel_rfl) (by kernel_rfl) (fun _ _ _ h => h) (Or.inl ⟨by rfl, ?_⟩) hS0 ?_
              · intro w' hSw
                go_simp
              simp only [Act.put, List.setIfInBounds_toArray, List.set_cons_zero, List.set_cons_succ]
              refine wpAnyK_go (i := 6) (m' := 127) (some 99) (v := .pointer (some ⟨gg, go + i * 3, none⟩)) rfl rfl (by kernel_rfl) (by kernel_rfl) (by kernel_rfl) (by kernel_rfl) (by kernel_rfl) (fun _ _ _ h => h) (Or.inl ⟨by rfl, ?_⟩) hS0 ?_
              · intro w' hSw
                go_simp
              simp only [Act.put, List.setIfInBounds_toArray, List.set_cons_zero, List.set_cons_succ]
              refine wpAnyK_go (i := 7) (m' := 255) (some 100) (v := .string ⟨nm.toArray⟩) rfl rfl (by kernel_rfl) (by kernel_rfl) (by kernel_rfl) (by kernel_rfl) (by kernel_rfl) (fun _ _ _ h => h) (Or.inl ⟨by rfl, ?_⟩) hS0 ?_
              · intro w' hSw
                obtain ⟨p1, p2, p3⟩ := hSw
                go_simp
              simp only [Act.put, List.setIfInBounds_toArray, List.set_cons_zero, List.set_cons_succ]
              refine wpAnyK_go (i := 8) (m' := 511) (some 101) (v := .pointer (some ⟨X, 1, none⟩)) rfl rfl (by kernel_rfl) (by kernel_rfl) (by kernel_rfl) (by kernel_rfl) (by kernel_rfl) (fun _ _ _ h => h) (Or.inl ⟨by rfl, ?_⟩) hS0 ?_
              · intro w' hSw
                go_simp
              simp only [Act.put, List.setIfInBounds_toArray, List.set_cons_zero, List.set_cons_succ]
              refine wpAnyK_go (i := 9) (m' := 1023) (some 102) (v := .slice (some ⟨gg, go, none⟩) ng gc) rfl rfl (by kernel_rfl) (by kernel_rfl) (by kernel_rfl) (by kernel_rfl) (by kernel_rfl) (fun _ _ _ h => h) (Or.inl ⟨by rfl, ?_⟩) hS0 ?_
              · intro w' hSw
                obtain ⟨p1, p2, p3⟩ := hSw
                go_simp
              simp only [Act.put, List.setIfInBounds_toArray, List.set_cons_zero, List.set_cons_succ]
              refine wpAnyK_go (i := 10) (m' := 2047) (some 103) (v := .int .i64 (i : Int)) rfl rfl (by kernel_rfl) (by kernel_rfl) (by kernel_rfl) (by kernel_rfl) (by kernel_rfl) (fun _ _ _ h => h) (Or.inl ⟨by rfl, ?_⟩) hS0 ?_
              · intro w' hSw
                go_simp
              simp only [Act.put, List.setIfInBounds_toArray, List.set_cons_zero, List.set_cons_succ]
              refine wpAnyK_go (i := 11) (m' := 4095) (some 104) (v := .pointer (some ⟨gg, go + i * 3, none⟩)) rfl rfl (by kernel_rfl) (by kernel_rfl) (by kernel_rfl) (by kernel_rfl) (by kernel_rfl) (fun _ _ _ h => h) (Or.inl ⟨by rfl, ?_⟩) hS0 ?_
              · intro w' hSw
                go_simp
              simp only [Act.put, List.setIfInBounds_toArray, List.set_cons_zero, List.set_cons_succ]
              refine wpAnyK_go (i := 12) (m' := 8191) (some 105) (v := .pointer (some ⟨gg, go + i * 3 + 1, none⟩)) rfl rfl (by kernel_rfl) (by kernel_rfl) (by kernel_rfl) (by kernel_rfl) (by kernel_rfl) (fun _ _ _ h => h) (Or.inl ⟨by rfl, ?_⟩) hS0 ?_
              · intro w' hSw
                go_simp
              simp only [Act.put, List.setIfInBounds_toArray, List.set_cons_zero, List.set_cons_succ]
              refine wpAnyK_go (i := 13) (m' := 16383) (some 106) (v := .int .i64 ar) rfl rfl (by kernel_rfl) (by kernel_rfl) (by kernel_rfl) (by kernel_rfl) (by kernel_rfl) (fun _ _ _ h => h) (Or.inl ⟨by rfl, ?_⟩) hS0 ?_
              · intro w' hSw
                obtain ⟨p1, p2, p3⟩ := hSw
                go_simp
              simp only [Act.put, List.setIfInBounds_toArray, List.set_cons_zero, List.set_cons_succ]
              refine wpAnyK_go (i := 14) (m' := 32767) (some 107) (v := .slice (some ⟨X + 3 + 1 + i, 0, none⟩) (n + 2) (n + 2)) rfl rfl (by kernel_rfl) (by kernel_rfl) (by kernel_rfl) (by kernel_rfl) (by kernel_rfl) (fun _ _ _ h => h) (Or.inl ⟨by rfl, ?_⟩) hS0 ?_
              · intro w' hSw
                go_simp
              simp only [Act.put, List.setIfInBounds_toArray, List.set_cons_zero, List.set_cons_succ]
              refine wpAnyK_go (i := 15) (m' := 65535) (some 108) (v := .int .i64 (n : Int)) rfl rfl (by kernel_rfl) (by kernel_rfl) (by kernel_rfl) (by kernel_rfl) (by kernel_rfl) (fun _ _ _ h => h) (Or.inl ⟨by rfl, ?_⟩) hS0 ?_
              · intro w' hSw
                go_simp
              simp only [Act.put, List.setIfInBounds_toArray, List.set_cons_zero, List.set_cons_succ]
              refine wpAnyK_go (i := 16) (m' := 131071) (some 109) (v := .slice (some ⟨X + 3 + 1 + i, 0, none⟩) n (n + 2)) rfl rfl (by kernel_rfl) (by kernel_rfl) (by kernel_rfl) (by kernel_rfl) (by kernel_rfl) (fun _ _ _ h => h) (Or.inl ⟨by rfl, ?_⟩) hS0 ?_
              · intro w' hSw
                go_simp
              simp only [Act.put, List.setIfInBounds_toArray, List.set_cons_zero, List.set_cons_succ]
              refine wpAnyK_go (i := 17) (m' := 262143) (some 110) (v := .agg #[.string ⟨nm.toArray⟩, .int .i64 ar, .slice (some ⟨X + 3 + 1 + i, 0, none⟩) n (n + 2)]) rfl rfl (by kernel_rfl) (by kernel_rfl) (by kernel_rfl) (by kernel_rfl) (by kernel_rfl) (fun _ _ _ h => h) (Or.inl ⟨by rfl, ?_⟩) hS0 ?_
              · intro w' hSw
                go_simp
              simp only [Act.put, List.setIfInBounds_toArray, List.set_cons_zero, List.set_cons_succ]
              refine wpAnyK_go (i := 18) (m' := 524287) (some 111) (v := .pointer (some ⟨X + 3, i * 3, none⟩)) rfl rfl (by kernel_rfl) (by kernel_rfl) (by kernel_rfl) (by kernel_rfl) (by kernel_rfl) (fun _ _ _ h => h) (Or.inl ⟨by rfl, ?_⟩) hS0 ?_
              · intro w' hSw
                go_simp
              simp only [Act.put, List.setIfInBounds_toArray, List.set_cons_zero, List.set_cons_succ]
              refine wpAnyK_only (i := 19) (m' := 1048575) (by kernel_rfl) rfl (by kernel_rfl) fun K hK => ?_
              go_simp
              obtain ⟨W7, hW7⟩ : ∃ W7, W7 = ((D.setCell ⟨X + 3, i * 3, none⟩ (.string ⟨nm.toArray⟩)).setCell ⟨X + 3, i * 3 + 1, none⟩ (.int .i64 ar)).setCell ⟨X + 3, i * 3 + 2, none⟩ (.slice (some ⟨X + 3 + 1 + i, 0, none⟩) n (n + 2)) := ⟨_, rfl⟩
              obtain ⟨q1, q2, q3⟩ := (HR2.out.2.2.1.below HD.out.1 (by omega)).set3 hlt _ _ _ hW7
              rw [← hW7]
              have HN1 : Hid (Below (X + 3) V W7 ∧ W7.heap.size = X + 4 + min (i + 1) ng) := ⟨(HCW.out D HD.out.1).trans q2, by rw [q3, HD.out.2.1]; omega⟩
              have HN2 : Hid (∀ y, y < i + 1 → (if y = i then [.string ⟨nm.toArray⟩, .int .i64 ar, .slice (some ⟨X + 3 + 1 + i, 0, none⟩) n (n + 2)] else (if y = i then [.string ⟨#[98, 101, 104, 105, 110, 100]⟩, .int .i64 0, .slice none 0 0] else f4 y)) = glbC (X + 3) t.2 y) := mark_at (mark_on HR2.out.2.2.2) (by rw [glbC_in hin3, HNM.out.1, HNM.out.2, HNC.out, HCE.out])
              have HN3 : Hid (RowL W7 51 3 (X + 3) (ng + 2) (fun y => if y = i then [.string ⟨nm.toArray⟩, .int .i64 ar, .slice (some ⟨X + 3 + 1 + i, 0, none⟩) n (n + 2)] else (if y = i then [.string ⟨#[98, 101, 104, 105, 110, 100]⟩, .int .i64 0, .slice none 0 0] else f4 y))) := q1
              have HN4 : Hid (∀ y (h : y < t.2.length), y < i + 1 → RowL W7 53 3 (X + 3 + 1 + y) (t.2[y].2.2.length + 2) (insL t.2[y].2.2)) := fun y hy hyi => by
                rw [hW7]
                refine (((?_ : RowL D 53 3 (X + 3 + 1 + y) (t.2[y].2.2.length + 2) (insL t.2[y].2.2)).far (by omega) _ _).far (by omega) _ _).far (by omega) _ _
                by_cases e : y = i
                · subst e
                  have h7 := HD.out.2.2
                  rw [HNC.out, HCE.out] at h7
                  exact h7
                · exact (HFAR.out y hy (by omega)).below HD.out.1 (by omega)
              have hS7 : (fun w' : World => w'.cell? ⟨X, 1, none⟩ = some (.slice (some ⟨gg, go, none⟩) ng gc) ∧ w'.cell? ⟨gg, go + i * 3, none⟩ = some (.string ⟨nm.toArray⟩) ∧ w'.cell? ⟨gg, go + i * 3 + 1, none⟩ = some (.int .i64 ar)) W7 := by
                obtain ⟨⟨_, x1⟩, _⟩ := HCV.out W7 HN1.out.1
                obtain ⟨d0, d1, _, _⟩ := HAT2.out W7 HN1.out.1
                exact ⟨x1, by rw [HNM.out.1]; exact d0, by rw [HNM.out.2]; exact d1⟩
              refine hK.out _ _ (fun _ => hS7) ?_
              clear hK K hS0 hS7 hW7 q1 q2 q3 e0 e1 e2 z0 z1 z2
              refine wpAnyK_done (by kernel_rfl) ?_ _
              go_wp2
              go_roundw
              case rel => exact ⟨i + 1, _, by omega, by go_num, HN1.out.1, HN1.out.2, HN3.out, HN2.out, HN4.out⟩
              case measure => simp [intOf]; omega
        · have hie : i = ng + 2 := by omega
          have hlt2 : ¬ (i : Int) < ((ng + 2 : Nat) : Int) := by omega
          have HIE : Hid (i = ng + 2) := hie
          obtain ⟨D, hD⟩ : ∃ D : World, D = wr.drew := ⟨_, rfl⟩
          have HD : Hid (Below (X + 3) V D ∧ RowL D 51 3 (X + 3) (ng + 2) (glbC (X + 3) t.2) ∧ ∀ y (h : y < t.2.length), RowL D 53 3 (X + 3 + 1 + y) (t.2[y].2.2.length + 2) (insL t.2[y].2.2)) := by
            refine ⟨by rw [hD]; exact HR.out.1.drew, ?_, fun y hy => ?_⟩
            · rw [hD]
              exact (HR.out.2.2.1.on rfl).congr fun y hy => (HR.out.2.2.2.1 y (by omega)).symm
            · rw [hD]
              exact (HR.out.2.2.2.2 y hy (by have := HNG.out; omega)).on rfl
          obtain ⟨⟨x0, x1⟩, hy, hbw, _, hrs⟩ := HCV.out D HD.out.1
          have HB : Hid (Below w.heap.size w D ∧ RowL D 48 2 (X + 2) (ns + 2) (shpC t.1)) := ⟨hbw, hrs⟩
          have HY : Hid (D.heap[X + 1]? = some (.cells #[.slice none 0 0, .slice none 0 0] 25 (0, 0))) := hy
          have y0 : D.cell? ⟨X + 1, 0, none⟩ = some (.slice none 0 0) := heap_cl hy rfl
          have y1 : D.cell? ⟨X + 1, 1, none⟩ = some (.slice none 0 0) := heap_cl hy rfl
          have v0 : D.frozen? ⟨X + 1, 0, none⟩ = false := heap_frozen hy
          have v1 : D.frozen? ⟨X + 1, 1, none⟩ = false := heap_frozen hy
          have n0 : (0 : Int) ≤ (ns : Int) := by omega
          have n1 : (ns : Int) ≤ ((ns + 2 : Nat) : Int) := by omega
          have n3 : (0 : Int) ≤ (ng : Int) := by omega
          have n5 : (ns : Int) ≤ (ns : Int) + 2 := by omega
          have n6 : (ng : Int) ≤ (ng : Int) + 2 := by omega
          have n4 : (ng : Int) ≤ ((ng + 2 : Nat) : Int) := by omega
          have hS0 : (fun w' : World => w'.cell? ⟨X, 0, none⟩ = some (.slice sa ns sc) ∧ w'.cell? ⟨X, 1, none⟩ = some (.slice ga ng gc)) D := ⟨x0, x1⟩
          clear HR x0 x1 hy hbw hrs hie
          obtain ⟨x0, x1⟩ := id hS0
          go_upto_region 23 with fail
          clear x0 x1
          refine wp_region_M (S := (fun w' : World => w'.cell? ⟨X, 0, none⟩ = some (.slice sa ns sc) ∧ w'.cell? ⟨X, 1, none⟩ = some (.slice ga ng gc))) (L := 11) (n := 12) (by kernel_rfl) rfl (by kernel_rfl) ?_
          rw [← hD]
          clear hD
          refine wpAnyK_go (i := 0) (m' := 1) (some 112) (v := .slice (some ⟨X + 2, 0, none⟩) (ns + 2) (ns + 2)) rfl rfl (by kernel_rfl) (by kernel_rfl) (by kernel_rfl) (by kernel_rfl) (by kernel_rfl) (fun _ _ _ h => h) (Or.inl ⟨by rfl, ?_⟩) hS0 ?_
          · intro w' hSw
            go_simp
          simp only [Act.put, List.setIfInBounds_toArray, List.set_cons_zero, List.set_cons_succ]
          refine wpAnyK_go (i := 1) (m' := 3) (some 113) (v := .pointer (some ⟨X, 0, none⟩)) rfl rfl (by kernel_rfl) (by kernel_rfl) (by kernel_rfl) (by kernel_rfl) (by kernel_rfl) (fun _ _ _ h => h) (Or.inl ⟨by rfl, ?_⟩) hS0 ?_
          · intro w' hSw
            go_simp
          simp only [Act.put, List.setIfInBounds_toArray, List.set_cons_zero, List.set_cons_succ]
          refine wpAnyK_go (i := 2) (m' := 7) (some 114) (v := .slice sa ns sc) rfl rfl (by kernel_rfl) (by kernel_rfl) (by kernel_rfl) (by kernel_rfl) (by kernel_rfl) (fun _ _ _ h => h) (Or.inl ⟨by rfl, ?_⟩) hS0 ?_
          · intro w' hSw
            obtain ⟨p1, p2⟩ := hSw
            go_simp
          simp only [Act.put, List.setIfInBounds_toArray, List.set_cons_zero, List.set_cons_succ]
          refine wpAnyK_go (i := 3) (m' := 15) (some 115) (v := .int .i64 (ns : Int)) rfl rfl (by kernel_rfl) (by kernel_rfl) (by kernel_rfl) (by kernel_rfl) (by kernel_rfl) (fun _ _ _ h => h) (Or.inl ⟨by rfl, ?_⟩) hS0 ?_
          · intro w' hSw
            go_simp
          simp only [Act.put, List.setIfInBounds_toArray, List.set_cons_zero, List.set_cons_succ]
          refine wpAnyK_go (i := 4) (m' := 31) (some 116) (v := .slice (some ⟨X + 2, 0, none⟩) ns (ns + 2)) rfl rfl (by kernel_rfl) (by kernel_rfl) (by kernel_rfl) (by kernel_rfl) (by kernel_rfl) (fun _ _ _ h => h) (Or.inl ⟨by rfl, ?_⟩) hS0 ?_
          · intro w' hSw
            go_simp
          simp only [Act.put, List.setIfInBounds_toArray, List.set_cons_zero, List.set_cons_succ]
          refine wpAnyK_go (i := 5) (m' := 63) (some 117) (v := .slice (some ⟨X + 3, 0, none⟩) (ng + 2) (ng + 2)) rfl rfl (by kernel_rfl) (by kernel_rfl) (by kernel_rfl) (by kernel_rfl) (by kernel_rfl) (fun _ _ _ h => h) (Or.inl ⟨by rfl, ?_⟩) hS0 ?_
          · intro w' hSw
            go_simp
          simp only [Act.put, List.setIfInBounds_toArray, List.set_cons_zero, List.set_cons_succ]
          refine wpAnyK_go (i := 6) (m' := 127) (some 118) (v := .pointer (some ⟨X, 1, none⟩)) rfl rfl (by kernel_rfl) (by kernel_rfl) (by kernel_rfl) (by kernel_rfl) (by kernel_rfl) (fun _ _ _ h => h) (Or.inl ⟨by rfl, ?_⟩) hS0 ?_
          · intro w' hSw
            go_simp
          simp only [Act.put, List.setIfInBounds_toArray, List.set_cons_zero, List.set_cons_succ]
          refine wpAnyK_go (i := 7) (m' := 255) (some 119) (v := .slice ga ng gc) rfl rfl (by kernel_rfl) (by kernel_rfl) (by kernel_rfl) (by kernel_rfl) (by kernel_rfl) (fun _ _ _ h => h) (Or.inl ⟨by rfl, ?_⟩) hS0 ?_
          · intro w' hSw
            obtain ⟨p1, p2⟩ := hSw
            go_simp
          simp only [Act.put, List.setIfInBounds_toArray, List.set_cons_zero, List.set_cons_succ]
          refine wpAnyK_go (i := 8) (m' := 511) (some 120) (v := .int .i64 (ng : Int)) rfl rfl (by kernel_rfl) (by kernel_rfl) (by kernel_rfl) (by kernel_rfl) (by kernel_rfl) (fun _ _ _ h => h) (Or.inl ⟨by rfl, ?_⟩) hS0 ?_
          · intro w' hSw
            go_simp
          simp only [Act.put, List.setIfInBounds_toArray, List.set_cons_zero, List.set_cons_succ]
          refine wpAnyK_go (i := 9) (m' := 1023) (some 121) (v := .slice (some ⟨X + 3, 0, none⟩) ng (ng + 2)) rfl rfl (by kernel_rfl) (by kernel_rfl) (by kernel_rfl) (by kernel_rfl) (by kernel_rfl) (fun _ _ _ h => h) (Or.inl ⟨by rfl, ?_⟩) hS0 ?_
          · intro w' hSw
            go_simp
          simp only [Act.put, List.setIfInBounds_toArray, List.set_cons_zero, List.set_cons_succ]
          refine wpAnyK_go (i := 10) (m' := 2047) (some 122) (v := .agg #[.slice (some ⟨X + 2, 0, none⟩) ns (ns + 2), .slice (some ⟨X + 3, 0, none⟩) ng (ng + 2)]) rfl rfl (by kernel_rfl) (by kernel_rfl) (by kernel_rfl) (by kernel_rfl) (by kernel_rfl) (fun _ _ _ h => h) (Or.inl ⟨by rfl, ?_⟩) hS0 ?_
          · intro w' hSw
            go_simp
          simp only [Act.put, List.setIfInBounds_toArray, List.set_cons_zero, List.set_cons_succ]
          refine wpAnyK_only (i := 11) (m' := 4095) (by kernel_rfl) rfl (by kernel_rfl) fun K hK => ?_
          go_simp
          refine hK.out _ _ (fun h => absurd h (by decide)) ?_
          clear hK K hS0 y0 y1 v0 v1
          obtain ⟨W8, hW8⟩ : ∃ W8, W8 = (D.setCell ⟨X + 1, 0, none⟩ (.slice (some ⟨X + 2, 0, none⟩) ns (ns + 2))).setCell ⟨X + 1, 1, none⟩ (.slice (some ⟨X + 3, 0, none⟩) ng (ng + 2)) := ⟨_, rfl⟩
          have hz := (setCell_block ((setCell_block HY.out (v := .slice (some ⟨X + 2, 0, none⟩) ns (ns + 2)) (i := 0)).trans rfl) (v := .slice (some ⟨X + 3, 0, none⟩) ng (ng + 2)) (i := 1)).trans rfl
          rw [← hW8] at hz ⊢
          have HL : Hid (LentT W8 (X + 2) (X + 3) t) := by
            rw [hW8]
            refine ⟨?_, ?_, fun y hy => ?_, by omega⟩
            · have h7 := HB.out.2
              rw [HNS.out] at h7
              exact (h7.far (by omega) _ _).far (by omega) _ _
            · have h7 := HD.out.2.1
              rw [HNG.out] at h7
              exact (h7.far (by omega) _ _).far (by omega) _ _
            · exact ((HD.out.2.2 y hy).far (by omega) _ _).far (by omega) _ _
          have HBW : Hid (Below w.heap.size w W8) := by
            show Below w.heap.size w W8
            rw [hW8]
            have hx : w.heap.size ≤ X + 1 := by have := HXE.out; omega
            exact (HB.out.1.setCell (p := ⟨X + 1, 0, none⟩) hx _).setCell (p := ⟨X + 1, 1, none⟩) hx _
          have q0 : W8.cell? ⟨X + 1, 0, none⟩ = some (.slice (some ⟨X + 2, 0, none⟩) ns (ns + 2)) := heap_cl hz rfl
          have q1 : W8.cell? ⟨X + 1, 1, none⟩ = some (.slice (some ⟨X + 3, 0, none⟩) ng (ng + 2)) := heap_cl hz rfl
          clear hW8 hz
          refine wpAnyK_done (by kernel_rfl) ?_ _
          go_wp2
          exact bodyPost_ret (res10 rfl q0 q1) rfl (HF.out _ HL.out HBW.out)
end Go.Proofs.YtlpnegnpejpdkaaGreatDoor
