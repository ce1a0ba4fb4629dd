/- The contract of cut: the whole text is cut as the plain side says. -/
import Derived.Test.YtkfhdmkdkphmoabDoorCutW
import Derived.Deep.Cut
import Derived.Deep.RegionWith
import Derived.Deep.RegionLaw
import Derived.Deep.QuietTactic
import Derived.BigQuiet
namespace Go.Proofs.YtkfhdmkdkphmoabDoor
open Go.RowKit

abbrev Lexed := Except (Nat × Nat) (List Tk)

theorem lexL_cons (k : Nat) (x : UInt8) (r : List UInt8) (c : Nat) : lexL k (x :: r) c = (match stepL (x :: r) with
    | .error e => .error (e, k)
    | .ok (none, n) => lexL (k + n) (r.drop (n - 1)) c
    | .ok (some (kd, tx, nm), n) => if c = 20000 then .error (4, k) else (lexL (k + n) (r.drop (n - 1)) (c + 1)).map ((kd, tx, nm, k) :: ·)) := lexL_one k x r c
theorem lexL_end {s : ByteArray} {k c : Nat} (h : ¬ k < s.size) : lexL k (rest s k) c = .ok [] := by rw [rest_out h, lexL_nil]
theorem lexL_skip {s : ByteArray} {k c n : Nat} (h : k < s.size) (hs : stepL (rest s k) = .ok (none, n)) (hn : 1 ≤ n) : lexL k (rest s k) c = lexL (k + n) (rest s (k + n)) c := by
  have e : (rest s (k + 1)).drop (n - 1) = rest s (k + n) := by rw [rest_drop, show k + 1 + (n - 1) = k + n by omega]
  rw [rest_in h] at hs ⊢
  rw [lexL_cons, hs]
  simp only []
  rw [e]
theorem lexL_err {s : ByteArray} {k c e : Nat} (h : k < s.size) (hs : stepL (rest s k) = .error e) : lexL k (rest s k) c = .error (e, k) := by
  rw [rest_in h] at hs ⊢
  rw [lexL_cons, hs]
theorem lexL_full {s : ByteArray} {k n kd nm : Nat} {tx : List UInt8} (h : k < s.size) (hs : stepL (rest s k) = .ok (some (kd, tx, nm), n)) : lexL k (rest s k) 20000 = .error (4, k) := by
  rw [rest_in h] at hs ⊢
  rw [lexL_cons, hs]
  simp
theorem lexL_tok {s : ByteArray} {k c n kd nm : Nat} {tx : List UInt8} (h : k < s.size) (hs : stepL (rest s k) = .ok (some (kd, tx, nm), n)) (hn : 1 ≤ n) (hc : ¬ c = 20000) :
    lexL k (rest s k) c = (lexL (k + n) (rest s (k + n)) (c + 1)).map ((kd, tx, nm, k) :: ·) := by
  have e : (rest s (k + 1)).drop (n - 1) = rest s (k + n) := by rw [rest_drop, show k + 1 + (n - 1) = k + n by omega]
  rw [rest_in h] at hs ⊢
  rw [lexL_cons, hs]
  simp only []
  rw [e, if_neg hc]

theorem tokL_err {l : List UInt8} {c : Nat} (h : tokL l = .error c) : c ≠ 0 := by
  unfold tokL at h
  repeat' split at h
  all_goals first | (cases h; done) | (simp at h; omega)
theorem dash_head {l : List UInt8} (h : dashB (l.take (runLen l)) = true) : 1 ≤ l.idxOf 10 ∧ l.idxOf 10 ≤ l.length := by
  refine ⟨?_, List.idxOf_le_length⟩
  cases l with
  | nil => simp [dashB] at h
  | cons c r =>
    have hc : c ≠ 10 := by
      rintro rfl
      have : runLen (10 :: r) = 0 := rfl
      rw [this] at h
      simp [dashB] at h
    rw [List.idxOf_cons]
    have : (c == 10) = false := by simpa using hc
    rw [this]
    simp
theorem CutW.grow {w W W' : World} {s : ByteArray} {cb tb : Nat} {f a : Int} {tk : Value} {ts : List Tk} {v0 v2 v3 : Int} {v1 : ByteArray} {o : Obj} (T : CutW w W s cb tb f a tk ts v0 v1 v2 v3) (hg : (W.alloc o).grownBy W' tk.ownBlock) : Below (tb + 1) W W' := by
  have hz := lt_of_heap T.tok
  exact (((Below.refl (tb + 1) W).alloc (by omega) o)).grown hg (by simp; omega) (fun k hk => (T.own.lt k hk).1)
theorem own_form {w : World} {B n : Nat} {v : Value} {xs : List Value} (h : w.ownsRow B 34 4 v n xs) : ∃ ad cap, v = .slice ad n cap := by
  rcases h.2 with ⟨rfl, rfl⟩ | ⟨g, cap, cur, rfl, _⟩
  · exact ⟨none, 0, rfl⟩
  · exact ⟨_, _, rfl⟩
theorem map_app (o : Lexed) (ts : List Tk) (t : Tk) : (o.map (t :: ·)).map (ts ++ ·) = o.map ((ts ++ [t]) ++ ·) := by cases o <;> simp [Except.map]

def CutPost (w : World) (s : ByteArray) (cb tb : Nat) (e : Ending) (w' : World) : Lexed → Prop
  | .error (c, p) => e = .returned (.int .i64 c) ∧ (∃ (a : Int) (tk : Value), w'.heap[cb]? = some (.cells #[.string s, .int .i64 p, .int .i64 a, tk] 41 (0, 0))) ∧ Below cb w w'
  | .ok ts => e = .returned (.int .i64 0) ∧ (∃ (f a : Int) (tk : Value), w'.heap[cb]? = some (.cells #[.string s, .int .i64 f, .int .i64 a, tk] 41 (0, 0)) ∧ w'.ownsRow (tb + 1) 34 4 tk ts.length (rowCells ts)) ∧ Below cb w w'

/-- What holds wherever the next piece is looked at. -/
def cutJ (w : World) (s : ByteArray) (cb tb : Nat) (R : Lexed) (a : Act) (w' : World) : Prop :=
  ∃ (k : Nat) (f : Int) (tk : Value) (ts : List Tk) (v0 : Int) (v1 : ByteArray) (v2 v3 : Int) (U : Nat → Value), a = { tmps := #[.pointer (some ⟨cb, 0, none⟩), undef, .int .i64 0, .pointer (some ⟨tb, 0, none⟩), .int .i64 0, U 5, U 6, U 7, U 8, U 9, U 10, U 11, U 12, U 13, U 14, U 15, U 16, U 17, U 18, U 19, U 20, U 21, U 22, U 23, U 24, U 25, U 26, U 27, U 28, U 29, U 30, U 31, U 32, U 33, U 34, U 35, U 36, U 37, U 38, U 39, U 40, U 41, U 42, U 43, U 44, U 45, U 46, U 47, U 48, U 49, U 50, U 51, U 52, U 53, U 54, U 55, U 56, U 57, U 58, U 59, U 60, U 61, U 62, U 63, U 64, U 65, U 66, U 67, U 68, U 69, U 70, U 71, U 72, U 73, U 74, U 75, U 76, U 77, U 78, U 79, U 80, U 81, U 82, U 83, U 84, U 85, U 86, U 87, U 88, U 89, U 90, U 91, U 92, U 93, U 94, U 95, U 96, U 97, U 98, U 99, U 100, U 101, U 102, U 103, U 104, U 105, U 106, U 107, U 108, U 109, U 110, U 111, U 112, U 113, U 114, U 115, U 116, U 117, U 118, U 119, U 120, U 121, U 122, U 123, U 124, U 125, U 126, U 127, U 128, U 129], defers := [] } ∧
    CutW w w' s cb tb f k tk ts v0 v1 v2 v3 ∧ k ≤ s.size ∧ ts.length ≤ k ∧ ts.length ≤ 20000 ∧ R = (lexL k (rest s k) ts.length).map (ts ++ ·)
def atOf (cb : Nat) (w : World) : Nat := match w.cell? ⟨cb, 2, none⟩ with | some (.int _ n) => n.toNat | _ => 0
def cutM (s : ByteArray) (cb : Nat) (_ : Act) (w : World) : Nat := s.size - atOf cb w

theorem cutJ_mk {w w' : World} {s : ByteArray} {cb tb : Nat} {R : Lexed} {k : Nat} {f : Int} {tk : Value} {ts : List Tk} {v0 : Int} {v1 : ByteArray} {v2 v3 : Int} {u5 u6 u7 u8 u9 u10 u11 u12 u13 u14 u15 u16 u17 u18 u19 u20 u21 u22 u23 u24 u25 u26 u27 u28 u29 u30 u31 u32 u33 u34 u35 u36 u37 u38 u39 u40 u41 u42 u43 u44 u45 u46 u47 u48 u49 u50 u51 u52 u53 u54 u55 u56 u57 u58 u59 u60 u61 u62 u63 u64 u65 u66 u67 u68 u69 u70 u71 u72 u73 u74 u75 u76 u77 u78 u79 u80 u81 u82 u83 u84 u85 u86 u87 u88 u89 u90 u91 u92 u93 u94 u95 u96 u97 u98 u99 u100 u101 u102 u103 u104 u105 u106 u107 u108 u109 u110 u111 u112 u113 u114 u115 u116 u117 u118 u119 u120 u121 u122 u123 u124 u125 u126 u127 u128 u129 : Value}
    (T : CutW w w' s cb tb f k tk ts v0 v1 v2 v3) (h1 : k ≤ s.size) (h2 : ts.length ≤ k) (h3 : ts.length ≤ 20000) (h4 : R = (lexL k (rest s k) ts.length).map (ts ++ ·)) :
    cutJ w s cb tb R { tmps := #[.pointer (some ⟨cb, 0, none⟩), undef, .int .i64 0, .pointer (some ⟨tb, 0, none⟩), .int .i64 0, u5, u6, u7, u8, u9, u10, u11, u12, u13, u14, u15, u16, u17, u18, u19, u20, u21, u22, u23, u24, u25, u26, u27, u28, u29, u30, u31, u32, u33, u34, u35, u36, u37, u38, u39, u40, u41, u42, u43, u44, u45, u46, u47, u48, u49, u50, u51, u52, u53, u54, u55, u56, u57, u58, u59, u60, u61, u62, u63, u64, u65, u66, u67, u68, u69, u70, u71, u72, u73, u74, u75, u76, u77, u78, u79, u80, u81, u82, u83, u84, u85, u86, u87, u88, u89, u90, u91, u92, u93, u94, u95, u96, u97, u98, u99, u100, u101, u102, u103, u104, u105, u106, u107, u108, u109, u110, u111, u112, u113, u114, u115, u116, u117, u118, u119, u120, u121, u122, u123, u124, u125, u126, u127, u128, u129], defers := [] } w' := ⟨k, f, tk, ts, v0, v1, v2, v3, fun i => (#[u5, u6, u7, u8, u9, u10, u11, u12, u13, u14, u15, u16, u17, u18, u19, u20, u21, u22, u23, u24, u25, u26, u27, u28, u29, u30, u31, u32, u33, u34, u35, u36, u37, u38, u39, u40, u41, u42, u43, u44, u45, u46, u47, u48, u49, u50, u51, u52, u53, u54, u55, u56, u57, u58, u59, u60, u61, u62, u63, u64, u65, u66, u67, u68, u69, u70, u71, u72, u73, u74, u75, u76, u77, u78, u79, u80, u81, u82, u83, u84, u85, u86, u87, u88, u89, u90, u91, u92, u93, u94, u95, u96, u97, u98, u99, u100, u101, u102, u103, u104, u105, u106, u107, u108, u109, u110, u111, u112, u113, u114, u115, u116, u117, u118, u119, u120, u121, u122, u123, u124, u125, u126, u127, u128, u129] : Array Value).getD (i - 5) undef, rfl, T, h1, h2, h3, h4⟩
theorem cutM_at {w w' : World} {s : ByteArray} {cb tb k : Nat} {f : Int} {tk : Value} {ts : List Tk} {v0 : Int} {v1 : ByteArray} {v2 v3 : Int} {a : Act} (T : CutW w w' s cb tb f k tk ts v0 v1 v2 v3) : cutM s cb a w' = s.size - k := by
  unfold cutM atOf
  rw [T.cells.2.2.1]
  simp
theorem next_lt {w w' w'' : World} {s : ByteArray} {cb tb k k' : Nat} {f f' : Int} {tk tk' : Value} {ts ts' : List Tk} {v0 v2 v3 v0' v2' v3' : Int} {v1 v1' : ByteArray} {a a' : Act}
    (T : CutW w w' s cb tb f k tk ts v0 v1 v2 v3) (T' : CutW w w'' s cb tb f' k' tk' ts' v0' v1' v2' v3') (h : k < k') (h' : k' ≤ s.size) : cutM s cb a' w'' < cutM s cb a w' := by
  rw [cutM_at T, cutM_at T']
  omega

set_option maxHeartbeats 16000000 in
set_option maxRecDepth 20000 in
theorem cut_any (s : ByteArray) (cb : Nat) (w : World) (hs : s.size ≤ 65536) (hC : Cl w) (h1 : 1 < cb)
    (hcut : w.heap[cb]? = some (.cells #[.string s, .int .i64 0, .int .i64 0, .slice none 0 0] 41 (0, 0))) :
    Calls Tryd.prog 9 #[.pointer (some ⟨cb, 0, none⟩)] w fun e w' => CutPost w s cb w.heap.size e w' (lexL 0 (rest s 0) 0) := by
  have hcb := lt_of_heap hcut
  generalize hR : lexL 0 (rest s 0) 0 = R
  have T0 : CutW w (w.alloc (Obj.cells #[Value.int .i64 0, Value.string ⟨#[]⟩, Value.int .i64 0, Value.int .i64 0] 34)) s cb w.heap.size 0 (0 : Nat) (.slice none 0 0) [] 0 ⟨#[]⟩ 0 0 := by
    have hb := (Below.refl w.heap.size w).alloc (Nat.le_refl _) (Obj.cells #[Value.int .i64 0, Value.string ⟨#[]⟩, Value.int .i64 0, Value.int .i64 0] 34)
    refine ⟨(hb.block cb hcb).trans hcut, ?_, World.ownsRow_nil _ _ _ _, hb.mono (by omega), hcb, h1⟩
    show (w.heap.push _)[w.heap.size]? = _
    simp
  have HR0 : Hid (R = (lexL 0 (rest s 0) ([] : List Tk).length).map (([] : List Tk) ++ ·)) := by
    show R = _
    rw [← hR]
    show lexL 0 (rest s 0) 0 = (lexL 0 (rest s 0) 0).map _
    cases lexL 0 (rest s 0) 0 <;> rfl
  obtain ⟨i0, hi, hz0, hz1, hz2⟩ := info_parts Tryd.info34
  generalize hW : w.alloc (Obj.cells #[Value.int .i64 0, Value.string ⟨#[]⟩, Value.int .i64 0, Value.int .i64 0] 34) = W0 at T0
  generalize htb : w.heap.size = tb at T0 ⊢
  have HW : Hid (w.alloc (Obj.cells #[Value.int .i64 0, Value.string ⟨#[]⟩, Value.int .i64 0, Value.int .i64 0] 34) = W0) := hW
  have HT : Hid (w.heap.size = tb) := htb
  clear hW htb hR hcut
  go_enter Tryd.func9, Tryd.ntmps9
  go_wp2
  refine wp_scope_loop2 0 (cutJ w s cb tb R) (cutM s cb) rfl ?_ ?_
  · go_wp2
    rw [HW.out, HT.out]
    exact cutJ_mk T0 (by omega) (by simp) (by simp) HR0.out
  · rintro a w0 ⟨k, f, tk, ts, v0, v1, v2, v3, U, rfl, T, hk, hts, hts2, HRk⟩
    have HR : Hid (R = (lexL k (rest s k) ts.length).map (ts ++ ·)) := HRk
    have HM : Hid (CutW w w0 s cb tb f k tk ts v0 v1 v2 v3) := T
    clear HRk T0 HR0 HW HT
    obtain ⟨c0, c1, c2, c3, fc, t0, t1, t2, t3, ft⟩ := T.cells
    go_wp2
    have T1 := T.setFrom k
    generalize w0.setCell ⟨cb, 1, none⟩ (.int .i64 (k : Int)) = w1 at T1 ⊢
    clear T c0 c1 c2 c3 fc t0 t1 t2 t3 ft
    have T := T1
    clear T1
    obtain ⟨c0, c1, c2, c3, fc, t0, t1, t2, t3, ft⟩ := T.cells
    go_cut [12] from 5 (fun b wc => b = .bool (decide (k = s.size)) ∧ CutW w wc s cb tb k k tk ts v0 v1 v2 v3)
    case first =>
      go_quiet (fail)
      go_wp2
      go_meet
      exact ⟨by rw [show ((k : Int) == (s.size : Int)) = decide (k = s.size) by rw [Bool.eq_iff_iff]; simp; omega], T.drewN _⟩
    case rest =>
    clear T c0 c1 c2 c3 fc t0 t1 t2 t3 ft
    obtain ⟨rfl, T⟩ := hcut
    obtain ⟨c0, c1, c2, c3, fc, t0, t1, t2, t3, ft⟩ := T.cells
    by_cases hke : k = s.size
    · have HF : Hid (R = .ok ts) := by
        show R = _
        rw [HR.out, lexL_end (by omega)]
        simp [Except.map]
      simp only [hke, decide_true]
      go_wp2
      refine jumps_ret ?_
      go_ret
      rw [HF.out]
      exact ⟨rfl, ⟨_, _, _, T.cut, T.own⟩, T.bel⟩
    · have hlt : k < s.size := by omega
      simp only [hke, decide_false]
      go_wp2
      go_cut [23] from 5 (fun b wc => b = .bool (decide (clsAt s k = 6)) ∧ CutW w wc s cb tb k k tk ts v0 v1 v2 v3)
      case first =>
        have hcn : ∀ n, Cl (wc.drewN n) := fun n => (T.drewN n).cl hC
        go_quiet (first | (go_at_call 13; exact Calls.quiet_of_same (class_any _ _ _ (hcn _))))
        go_wp2
        go_meet
        exact ⟨by rw [show (((clsAt s k : Nat) : Int) == 6) = decide (clsAt s k = 6) by rw [Bool.eq_iff_iff]; simp; omega], T.drewN _⟩
      case rest =>
      clear T c0 c1 c2 c3 fc t0 t1 t2 t3 ft
      obtain ⟨rfl, T⟩ := hcut
      obtain ⟨c0, c1, c2, c3, fc, t0, t1, t2, t3, ft⟩ := T.cells
      by_cases h6 : clsAt s k = 6
      · have HF : Hid (R = (lexL (k + 1) (rest s (k + 1)) ts.length).map (ts ++ ·)) := by
          show R = _
          rw [HR.out, lexL_skip hlt (n := 1) (by rw [stepL, if_pos (by rw [← clsAt_rest]; exact h6)]) (by omega)]
        simp only [h6, decide_true]
        go_wp2
        go_step3
        simp +zetaDelta only [Exit.inBlock, Exit.then, jumps]
        refine Or.inr ⟨by decide, _, rfl, ?_⟩
        go_wp2
        go_step3
        have T2 : CutW w (wc.setCell ⟨cb, 2, none⟩ (.int .i64 ((k : Int) + 1))) s cb tb k ((k + 1 : Nat) : Int) tk ts v0 v1 v2 v3 := T.setAt _
        simp +zetaDelta only [Exit.then, jumps, true_and]
        exact ⟨cutJ_mk T2 (by omega) (by omega) hts2 HF.out, next_lt HM.out T2 (by omega) (by omega)⟩
      · simp only [h6, decide_false]
        have h6' : ¬ clsHd (rest s k) = 6 := by rw [← clsAt_rest]; exact h6
        have PF : ∀ W, Calls Tryd.prog 14 #[.string (s.extract k s.size), .string ⟨#[123, 45]⟩] W fun e w' => e = .returned (.bool ([123, 45].isPrefixOf (rest s k))) ∧ w' = W := fun W => by
          have := Tryd.strings_HasPrefix (s.extract k s.size) ⟨#[123, 45]⟩ W
          rw [show Lib.hasPrefix (s.extract k s.size).data.toList (⟨#[123, 45]⟩ : ByteArray).data.toList = [123, 45].isPrefixOf (rest s k) from by rw [Lib.extract_to_end]; rfl] at this
          exact this
        have i1 : (0 : Int) ≤ (k : Int) := by omega
        have i2 : (k : Int) ≤ (s.size : Int) := by omega
        go_wp2
        go_cut [34] from 5 (fun b wc => b = .bool ([123, 45].isPrefixOf (rest s k)) ∧ CutW w wc s cb tb k k tk ts v0 v1 v2 v3)
        case first =>
          go_quiet (first | (go_at_call 14; exact Calls.quiet_of_same (PF _)))
          go_wp2
          go_meet
          exact ⟨rfl, T.drewN _⟩
        case rest =>
        clear T c0 c1 c2 c3 fc t0 t1 t2 t3 ft PF
        obtain ⟨rfl, T⟩ := hcut
        obtain ⟨c0, c1, c2, c3, fc, t0, t1, t2, t3, ft⟩ := T.cells
        cases hp : [123, 45].isPrefixOf (rest s k)
        · have RE : ∀ W, Cl W → Calls Tryd.prog 16 #[.string s, .int .i64 k] W fun e w' => e = .returned (.int .i64 (runEndP s k)) ∧ w' = W := fun W h => runEnd_any s k W (by unfold maxLen; omega) hk h
          have hre := endOf_le (· == 8) s k hk
          have hrs : runEndP s k = k + runLen (rest s k) := endOf_span (· == 8) s k rfl
          have EX := extract_rest s k (runLen (rest s k))
          rw [← hrs] at EX
          have hre2 : runEndP s k ≤ s.size := hre.2
          have hre1 : k ≤ runEndP s k := hre.1
          have DS : ∀ W, Calls Tryd.prog 15 #[.string (s.extract k (runEndP s k))] W fun e w' => e = .returned (.bool (dashB ((rest s k).take (runLen (rest s k))))) ∧ w' = W := fun W => by
            have := isDashes_any (s.extract k (runEndP s k)) W (by unfold maxLen; rw [ByteArray.size_extract]; omega)
            rw [show (s.extract k (runEndP s k)).data.toList = (rest s k).take (runLen (rest s k)) from by rw [EX]] at this
            exact this
          clear hre hrs EX
          generalize runEndP s k = m at RE hre2 hre1 DS
          have i3 : (k : Int) ≤ (m : Int) := by omega
          have i4 : (m : Int) ≤ (s.size : Int) := by omega
          go_wp2
          go_cut [45] from 5 (fun b wc => b = .bool (dashB ((rest s k).take (runLen (rest s k)))) ∧ CutW w wc s cb tb k k tk ts v0 v1 v2 v3)
          case first =>
            have hcn : ∀ n, Cl (wc.drewN n) := fun n => (T.drewN n).cl hC
            go_quiet (first | (go_at_call 16; exact Calls.quiet_of_same (RE _ (hcn _))) | (go_at_call 15; exact Calls.quiet_of_same (DS _)))
            go_wp2
            go_meet
            exact ⟨rfl, T.drewN _⟩
          case rest =>
          clear T c0 c1 c2 c3 fc t0 t1 t2 t3 ft RE DS
          obtain ⟨rfl, T⟩ := hcut
          obtain ⟨c0, c1, c2, c3, fc, t0, t1, t2, t3, ft⟩ := T.cells
          cases hd : dashB ((rest s k).take (runLen (rest s k)))
          · have TK := token_any s cb k tk wc hs (T.cl hC) h1 hk T.cut h6'
            have hstep : stepL (rest s k) = (match tokL (rest s k) with | .error c => .error c | .ok (kd, tx, nm, n) => .ok (some (kd, tx, nm), n)) := by
              rw [stepL, if_neg h6', if_neg (by rw [hp]; decide), if_neg (by rw [hd]; decide)]
              cases tokL (rest s k) <;> rfl
            clear hp hd
            cases htk : tokL (rest s k) with
            | error c =>
              rw [htk] at TK hstep
              have hc0 := tokL_err htk
              have hc0' : ¬ (c : Int) = 0 := by omega
              have HF : Hid (R = .error (c, k)) := by
                show R = _
                rw [HR.out, lexL_err hlt hstep]
                rfl
              clear hstep htk
              go_wp2_with (go_at_call 17; refine Calls.mono TK ?_; rintro e w2 ⟨⟨x0, x1, x2, x3, rfl⟩, ⟨a2, hc2⟩, hap⟩; have T2 := T.token hc2 hap; clear T c0 c1 c2 c3 fc t0 t1 t2 t3 ft TK; obtain ⟨c0, c1, c2, c3, fc, t0, t1, t2, t3, ft⟩ := T2.cells)
              refine jumps_ret ?_
              go_ret
              rw [HF.out]
              have T3 := T2.setTok x0 x1 x2 x3
              exact ⟨rfl, ⟨_, _, T3.cut⟩, T3.bel⟩
            | ok x =>
              obtain ⟨kd, tx, nm, n⟩ := x
              rw [htk] at TK hstep
              have hn := tokL_pos htk
              rw [rest_len] at hn
              have HST : Hid (stepL (rest s k) = .ok (some (kd, tx, nm), n)) := hstep
              obtain ⟨m2, hm2⟩ : ∃ m2, m2 = k + n := ⟨_, rfl⟩
              have TK2 : Calls Tryd.prog 17 #[.pointer (some ⟨cb, 0, none⟩)] wc fun e w' => e = .returned (.tuple #[.agg #[.int .i64 kd, .string ⟨tx.toArray⟩, .int .i64 nm, .int .i64 0], .int .i64 0]) ∧ w'.heap[cb]? = some (.cells #[.string s, .int .i64 k, .int .i64 m2, tk] 41 (0, 0)) ∧ Apart wc.heap.size cb wc w' := by
                rw [hm2]; exact TK
              have HM2 : Hid (m2 = k + n) := hm2
              have hm3 : k < m2 ∧ m2 ≤ s.size := by omega
              obtain ⟨hm4, hm5⟩ := hm3
              clear hstep htk TK hm2 hn
              go_wp2_with (go_at_call 17; refine Calls.mono TK2 ?_; rintro e w2 ⟨rfl, hc2, hap⟩; have T2 := T.token hc2 hap; clear T c0 c1 c2 c3 fc t0 t1 t2 t3 ft TK2; obtain ⟨c0, c1, c2, c3, fc, t0, t1, t2, t3, ft⟩ := T2.cells)
              go_step3
              simp +zetaDelta only [Exit.then, jumps]
              refine Or.inr ⟨by decide, _, rfl, ?_⟩
              have T3 := T2.setTok kd ⟨tx.toArray⟩ nm 0
              generalize (((w2.setCell ⟨tb, 0, none⟩ (.int .i64 (kd : Int))).setCell ⟨tb, 1, none⟩ (.string ⟨tx.toArray⟩)).setCell ⟨tb, 2, none⟩ (.int .i64 (nm : Int))).setCell ⟨tb, 3, none⟩ (.int .i64 0) = w3 at T3 ⊢
              clear T2 c0 c1 c2 c3 fc t0 t1 t2 t3 ft hap hc2
              obtain ⟨c0, c1, c2, c3, fc, t0, t1, t2, t3, ft⟩ := T3.cells
              obtain ⟨ad, cap, hform⟩ := own_form T3.own
              subst hform
              by_cases hfull : ts.length = 20000
              · have HF : Hid (R = .error (4, k)) := by
                  show R = _
                  rw [HR.out, hfull, lexL_full hlt HST.out]
                  rfl
                have hfull' : (ts.length : Int) = 20000 := by omega
                clear hfull
                go_wp2
                refine jumps_ret ?_
                go_ret
                rw [HF.out]
                exact ⟨rfl, ⟨_, _, T3.cut⟩, T3.bel⟩
              · have HF : Hid (R = (lexL m2 (rest s m2) (ts ++ [((kd, tx, nm, k) : Tk)]).length).map ((ts ++ [((kd, tx, nm, k) : Tk)]) ++ ·)) := by
                  show R = _
                  rw [HR.out, lexL_tok hlt HST.out (by have := HM2.out; omega) hfull, ← HM2.out, map_app]
                  simp
                have hfull' : ¬ (ts.length : Int) = 20000 := by omega
                have hts3 : ts.length < 20000 := by omega
                clear hfull
                go_wp2
                have T4 := T3.setPlace k
                generalize w3.setCell ⟨tb, 3, none⟩ (.int .i64 (k : Int)) = w4 at T4 ⊢
                clear T3 c0 c1 c2 c3 fc t0 t1 t2 t3 ft
                obtain ⟨c0, c1, c2, c3, fc, t0, t1, t2, t3, ft⟩ := T4.cells
                have hz := lt_of_heap T4.tok
                have hz3 := lt_of_heap T4.cut
                have hlt4 := T4.lt
                have ca : ∀ o, (w4.alloc o).cell? ⟨cb, 3, none⟩ = some (.slice ad ts.length cap) := fun o => (World.cell?_alloc_old w4 o ⟨cb, 3, none⟩ (by show cb ≠ w4.heap.size; omega)).trans c3
                have n1 : ¬ cb = w4.heap.size := by omega
                have n2 : ¬ w4.heap.size = cb := by omega
                go_cut [] from 5 (fun wc => ∃ tk', CutW w wc s cb tb k m2 tk' (ts ++ [((kd, tx, nm, k) : Tk)]) kd ⟨tx.toArray⟩ nm k)
                case first =>
                  go_region_law ((refine step_append_lies _ (by rfl) _ _ _ (by rfl) (tb + 1) 34 i0 _ 4 40 Tryd.underlying23 hi hz0 hz1 hz2 rfl (by omega) (.slice ad ts.length cap) ts.length (rowCells ts) (by rfl) ((T4.own.alloc _).drew) ⟨w4.heap.size, 0, none⟩ 1 1 [.int .i64 (kd : Int), .string ⟨tx.toArray⟩, .int .i64 (nm : Int), .int .i64 (k : Int)] (by rfl) (by rfl) (World.news_of_block (cs := #[.int .i64 (kd : Int), .string ⟨tx.toArray⟩, .int .i64 (nm : Int), .int .i64 (k : Int)]) (t := 34) (fr := (0, 0)) (heap_alloc_new w4 _)) (by simp [Value.oneCell']) (by omega) (by unfold maxLen; omega) (by omega) (by simp; omega) (w4.heap.size + 1) (by simp) ?_; intro g cap' w5 hown1 hgrow hat hlt5; have hB5 := T4.drew.grow hgrow; have c3n := (hB5.cell (p := ⟨cb, 3, none⟩) (by show cb < tb + 1; omega)).trans c3; have fcn := (hB5.frozen (p := ⟨cb, 3, none⟩) (by show cb < tb + 1; omega)).trans (fc 3)))
                  all_goals (go_wp2; go_meet; exact ⟨_, T4.drew.put (kd, tx, nm, k) rfl (rowCells_snoc _ _) hown1 hgrow⟩)
                case rest =>
                obtain ⟨tk', T5⟩ := hcut
                go_wp2
                go_step3
                simp +zetaDelta only [jumps, true_and]
                exact ⟨cutJ_mk T5 hm5 (by simp; omega) (by simp; omega) HF.out, next_lt HM.out T5 hm4 hm5⟩
          · have hix := dash_head hd
            rw [rest_len] at hix
            have HF : Hid (R = (lexL (k + (rest s k).idxOf 10) (rest s (k + (rest s k).idxOf 10)) ts.length).map (ts ++ ·)) := by
              show R = _
              rw [HR.out, lexL_skip hlt (n := (rest s k).idxOf 10) (by rw [stepL, if_neg h6', if_neg (by rw [hp]; decide), if_pos hd]) hix.1]
            have LE : ∀ W, Calls Tryd.prog 19 #[.string s, .int .i64 k] W fun e w' => e = .returned (.int .i64 (k + (rest s k).idxOf 10 : Nat)) ∧ w' = W := fun W => by
              have := lineEnd_any s k W (by unfold maxLen; omega) hk
              rw [lineR, Nat.add_comm] at this
              exact this
            obtain ⟨m2, hm2⟩ : ∃ m2, m2 = k + (rest s k).idxOf 10 := ⟨_, rfl⟩
            rw [← hm2] at HF LE
            have hm3 : k < m2 ∧ m2 ≤ s.size := by omega
            clear hm2 hix
            go_wp2
            go_step3
            simp +zetaDelta only [Exit.inBlock, Exit.then, jumps]
            refine Or.inr ⟨by decide, _, rfl, ?_⟩
            go_wp2
            go_cut [] from 5 (fun wc => CutW w wc s cb tb k m2 tk ts v0 v1 v2 v3)
            case first =>
              go_region_with (first | (go_at_call 19; refine Calls.mono (LE _) ?_; rintro e w' ⟨rfl, rfl⟩))
              all_goals (go_wp2; go_meet; first | exact T.setAt _ | exact (T.setAt _).drew | exact ((T.setAt _).drew).drew)
            case rest =>
            go_wp2
            go_step3
            simp +zetaDelta only [Exit.then, jumps, true_and]
            exact ⟨cutJ_mk hcut hm3.2 (by omega) hts2 HF.out, next_lt HM.out hcut hm3.1 hm3.2⟩
        · have BE : ∀ W, Calls Tryd.prog 18 #[.string s, .int .i64 k] W fun e w' => e = .returned (.int .i64 (blockR s k 0)) ∧ w' = W := fun W => blockEnd_any s k W hs hk
          have hst : stepL (rest s k) = (match blockL (rest s k) 0 with | none => .error 13 | some n => .ok (none, n)) := by rw [stepL, if_neg h6', if_pos hp]; cases blockL (rest s k) 0 <;> rfl
          have hbr : blockR s k 0 = (match blockL (rest s k) 0 with | some n => ((k + n : Nat) : Int) | none => -1) := rfl
          have HST : Hid (stepL (rest s k) = (match blockL (rest s k) 0 with | none => .error 13 | some n => .ok (none, n))) := hst
          have HBR : Hid (blockR s k 0 = (match blockL (rest s k) 0 with | some n => ((k + n : Nat) : Int) | none => -1)) := hbr
          clear hst hbr
          go_wp2
          go_step3
          simp +zetaDelta only [Exit.inBlock, Exit.then, jumps]
          refine Or.inr ⟨by decide, _, rfl, ?_⟩
          go_wp2
          go_cut [] from 5 (fun wc => CutW w wc s cb tb k (blockR s k 0) tk ts v0 v1 v2 v3)
          case first =>
            go_region_with (first | (go_at_call 18; refine Calls.mono (BE _) ?_; rintro e w' ⟨rfl, rfl⟩))
            all_goals (go_wp2; go_meet; first | exact T.setAt _ | exact (T.setAt _).drew | exact ((T.setAt _).drew).drew)
          case rest =>
          clear T c0 c1 c2 c3 fc t0 t1 t2 t3 ft BE
          have T := hcut
          clear hcut
          obtain ⟨c0, c1, c2, c3, fc, t0, t1, t2, t3, ft⟩ := T.cells
          have hst := HST.out
          have hbr := HBR.out
          clear HST HBR
          cases hb : blockL (rest s k) 0 with
          | none =>
            rw [hb] at hst hbr
            have HF : Hid (R = .error (13, k)) := by
              show R = _
              rw [HR.out, lexL_err hlt hst]
              rfl
            rw [hbr] at T c2
            clear hst hb
            go_wp2
            refine jumps_ret ?_
            go_ret
            rw [HF.out]
            exact ⟨rfl, ⟨_, _, T.cut⟩, T.bel⟩
          | some n =>
            have hn := blockL_pos hb
            rw [rest_len] at hn
            rw [hb] at hst hbr
            have HF : Hid (R = (lexL (k + n) (rest s (k + n)) ts.length).map (ts ++ ·)) := by
              show R = _
              rw [HR.out, lexL_skip hlt hst (by omega)]
            obtain ⟨m2, hm2⟩ : ∃ m2, m2 = k + n := ⟨_, rfl⟩
            have hbr' : blockR s k 0 = (m2 : Int) := by rw [hbr, hm2]
            rw [← hm2] at HF
            have hm3 : k < m2 ∧ m2 ≤ s.size := by omega
            rw [hbr'] at T c2
            clear hst hb hbr hbr' hm2 hn
            go_wp2
            go_step3
            simp +zetaDelta only [Exit.then, jumps, true_and]
            exact ⟨cutJ_mk T hm3.2 (by omega) hts2 HF.out, next_lt HM.out T hm3.1 hm3.2⟩
end Go.Proofs.YtkfhdmkdkphmoabDoor
