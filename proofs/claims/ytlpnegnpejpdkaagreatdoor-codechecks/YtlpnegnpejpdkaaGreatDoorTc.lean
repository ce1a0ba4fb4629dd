/- textWriter: numbers, and the lines that tell a constructor or a global. -/
import Derived.Shelf.LaysM
import Derived.Shelf.Strconv.Itoa3
import Derived.Lib.SmallJoins
import Derived.Lib.ItoaLen
import Derived.Test.YtlpnegnpejpdkaaGreatDoorMjx
namespace Go.Proofs
open Go.Shelf
def Tryz.laysM171_ren : Go.Shelf.Ren := ⟨fun | 171 => 126 | 243 => 136 | 246 => 147 | 283 => 156 | 284 => 157 | 285 => 158 | 286 => 159 | 129 => 166 | 317 => 165 | 318 => 167 | 319 => 168 | 320 => 169 | 337 => 172 | 338 => 173 | n => n, fun | 3 => 3 | 9 => 9 | 2 => 2 | 4 => 4 | 171 => 186 | 0 => 0 | 53 => 91 | 37 => 40 | 5 => 5 | 173 => 189 | 212 => 197 | 51 => 93 | 20 => 20 | 213 => 198 | 46 => 95 | 232 => 210 | 233 => 211 | n => n, fun | 17 => 6 | 18 => 9 | 19 => 10 | n => n⟩
theorem Tryz.laysM171 : Go.Proofs.LaysM.n171 Tryz.prog Tryz.laysM171_ren := {
  mixed := by kernel_rfl
  f129 := Tryz.func166.trans (congrArg some (by kernel_rfl))
  f171 := Tryz.func126.trans (congrArg some (by kernel_rfl))
  f243 := Tryz.func136.trans (congrArg some (by kernel_rfl))
  f246 := Tryz.func147.trans (congrArg some (by kernel_rfl))
  f283 := Tryz.func156.trans (congrArg some (by kernel_rfl))
  f284 := Tryz.func157.trans (congrArg some (by kernel_rfl))
  f285 := Tryz.func158.trans (congrArg some (by kernel_rfl))
  f286 := Tryz.func159.trans (congrArg some (by kernel_rfl))
  f317 := Tryz.func165.trans (congrArg some (by kernel_rfl))
  f318 := Tryz.func167.trans (congrArg some (by kernel_rfl))
  f319 := Tryz.func168.trans (congrArg some (by kernel_rfl))
  f320 := Tryz.func169.trans (congrArg some (by kernel_rfl))
  f337 := Tryz.func172.trans (congrArg some (by kernel_rfl))
  f338 := Tryz.func173.trans (congrArg some (by kernel_rfl))
  t0 := Tryz.underlying0
  a0 := Tryz.isAgg0
  z0 := Tryz.sizeOf0
  v0 := Tryz.zeroValue0
  t2 := Tryz.underlying2
  a2 := Tryz.isAgg2
  z2 := Tryz.sizeOf2
  v2 := Tryz.zeroValue2
  t3 := Tryz.underlying3
  a3 := Tryz.isAgg3
  z3 := Tryz.sizeOf3
  v3 := Tryz.zeroValue3
  t4 := Tryz.underlying4
  a4 := Tryz.isAgg4
  z4 := Tryz.sizeOf4
  v4 := Tryz.zeroValue4
  t5 := Tryz.underlying5
  a5 := Tryz.isAgg5
  z5 := Tryz.sizeOf5
  v5 := Tryz.zeroValue5
  t9 := Tryz.underlying9
  a9 := Tryz.isAgg9
  z9 := Tryz.sizeOf9
  v9 := Tryz.zeroValue9
  t20 := Tryz.underlying20
  a20 := Tryz.isAgg20
  z20 := Tryz.sizeOf20
  v20 := Tryz.zeroValue20
  t37 := Tryz.underlying40
  a37 := Tryz.isAgg40
  z37 := Tryz.sizeOf40
  v37 := Tryz.zeroValue40
  t46 := Tryz.underlying95
  a46 := Tryz.isAgg95
  z46 := Tryz.sizeOf95
  v46 := Tryz.zeroValue95
  t51 := Tryz.underlying93
  a51 := Tryz.isAgg93
  z51 := Tryz.sizeOf93
  v51 := Tryz.zeroValue93
  t53 := Tryz.underlying91
  a53 := Tryz.isAgg91
  z53 := Tryz.sizeOf91
  v53 := Tryz.zeroValue91
  t171 := Tryz.underlying186
  a171 := Tryz.isAgg186
  z171 := Tryz.sizeOf186
  v171 := Tryz.zeroValue186
  t173 := Tryz.underlying189
  a173 := Tryz.isAgg189
  z173 := Tryz.sizeOf189
  v173 := Tryz.zeroValue189
  t212 := Tryz.underlying197
  a212 := Tryz.isAgg197
  z212 := Tryz.sizeOf197
  v212 := Tryz.zeroValue197
  t213 := Tryz.underlying198
  a213 := Tryz.isAgg198
  z213 := Tryz.sizeOf198
  t232 := Tryz.underlying210
  a232 := Tryz.isAgg210
  z232 := Tryz.sizeOf210
  v232 := Tryz.zeroValue210
  t233 := Tryz.underlying211
  a233 := Tryz.isAgg211
  z233 := Tryz.sizeOf211
  v233 := Tryz.zeroValue211
  g17 := by kernel_rfl
  g18 := by kernel_rfl
  g19 := by kernel_rfl
  i0 := by kernel_rfl
  i2 := by kernel_rfl
  i3 := by kernel_rfl
  i4 := by kernel_rfl
  i5 := by kernel_rfl
  i9 := by kernel_rfl
  i20 := by kernel_rfl
  i37 := by kernel_rfl
  i46 := by kernel_rfl
  i51 := by kernel_rfl
  i53 := by kernel_rfl
  i171 := by kernel_rfl
  i173 := by kernel_rfl
  i212 := by kernel_rfl
  i232 := by kernel_rfl
  i233 := by kernel_rfl
  m17 := by kernel_rfl
  m18 := by kernel_rfl
  m19 := by kernel_rfl }
open Go.RowKit Go.Sort Go.Lib in
/-- strconv.Itoa: "Itoa is equivalent to FormatInt(int64(i), 10).": i's DECIMAL NUMERAL ('Lib.itoa': a '-' where i is negative, then the digits), FOR EVERY int. The world behind the call: the world before it, new blocks behind the heap (the library's 'var a [24]byte'), draws. (LAID: no walk: one application.) -/
theorem Tryz.strconv_Itoa (n : Int) (h0 : -9223372036854775808 ≤ n) (h1 : n ≤ 9223372036854775807) (w : World) (htab : Lib.TabIs Tryz.prog w "internal/strconv.uint64pow10" .u64 Lib.pow10Tab) :
    Calls Tryz.prog 126 #[.int .i64 n] w fun e w' => e = .returned (.string ⟨(Lib.itoa n).toArray⟩) ∧ ∃ k os, w' = grow (w.drewN k) os := Any.strconv_Itoa Tryz.laysM171 n h0 h1 w htab
end Go.Proofs
namespace Go.Proofs.YtlpnegnpejpdkaaGreatDoor
open Go.RowKit

/-- The library's table of powers of ten. -/
def Pt (w : World) : Prop := Lib.TabIs Tryz.prog w "internal/strconv.uint64pow10" .u64 Lib.pow10Tab
theorem below_grow (w : World) (k : Nat) (os : Array Obj) : Below w.heap.size w (Go.Sort.grow (w.drewN k) os) := by
  have h1 : Below w.heap.size w (w.drewN k) := below_drewN (Below.refl _ _) k
  refine h1.trans ⟨rfl, rfl, rfl, ?_, fun y hy => ?_⟩
  · show (w.drewN k).heap.size ≤ ((w.drewN k).heap ++ os).size
    simp
  · show ((w.drewN k).heap ++ os)[y]? = (w.drewN k).heap[y]?
    have hs : (w.drewN k).heap.size = w.heap.size := by simp
    rw [Array.getElem?_append_left (by omega)]
def i64 (n : Int) : Prop := -9223372036854775808 ≤ n ∧ n ≤ 9223372036854775807
theorem itoa_any {w : World} (hp : Pt w) {n : Int} (hn : i64 n) : Calls Tryz.prog 126 #[.int .i64 n] w fun r w' => r = .returned (.string ⟨(Lib.itoa n).toArray⟩) ∧ Hid (Below w.heap.size w w') := by
  refine (Tryz.strconv_Itoa n hn.1 hn.2 w hp).mono ?_
  rintro e w' ⟨h1, k, os, rfl⟩
  exact ⟨h1, below_grow w k os⟩
def numT (n : Int) : Byt := [32] ++ Lib.itoa n
theorem numT_len {n : Int} (hn : i64 n) : (numT n).length ≤ 22 := by
  have := Lib.itoa_length_le n hn.1 hn.2
  unfold numT
  rw [List.length_append]
  have h1 : ([32] : Byt).length = 1 := rfl
  omega
set_option maxRecDepth 10000 in
theorem tnum_any {w : World} {P : Nat} {sv gv : Value} {l : Byt} {O : Option Nat} (h : TX w P sv gv l O) (hl : l.length ≤ 70000000) (hT : ∀ w', Below P w w' → Pt w') {n : Int} (hn : i64 n) : Calls Tryz.prog 108 #[.pointer (some ⟨P, 0, none⟩), .int .i64 n] w fun r w' => TP w P sv gv l O (numT n) r w' := by
  have C1 := put_any h [32] (by show _ + 1 ≤ _; omega)
  have hil := Lib.itoa_length_le n hn.1 hn.2
  have CI : ∀ W, Below P w W → Calls Tryz.prog 126 #[.int .i64 n] W fun r w' => r = .returned (.string ⟨(Lib.itoa n).toArray⟩) ∧ Hid (Below W.heap.size W w') := fun W hb => itoa_any (hT W hb) hn
  obtain ⟨D, hD⟩ : ∃ D, D = Lib.itoa n := ⟨_, rfl⟩
  rw [← hD] at CI hil
  have HD : Hid (numT n = [32] ++ D) := by show _ = _; rw [hD]; rfl
  clear h hT hD
  go_enter Tryz.func108, Tryz.ntmps108
  go_upto_region 1 with (go_at_call 106; (with_reducible refine Calls.mono C1 ?_); rintro e2 w2 ⟨rfl, H2⟩)
  obtain ⟨O2, k1, k2⟩ := H2.out
  have CI2 := CI w2 k2.bel
  have HK2 : Hid (TX w2 P sv gv (l ++ [32]) O2 ∧ TO w P O w2 O2) := ⟨k1, k2⟩
  clear C1 CI k1 k2 H2
  go_wp2_with (first | (go_at_call 126; (with_reducible refine Calls.mono CI2 ?_); rintro e3 w3 ⟨rfl, H3⟩; obtain ⟨k3, k4⟩ := HK2.out.1.on H3.out; have C3 := put_any k3 D (by rw [List.length_append]; have h1 : ([32] : Byt).length = 1 := rfl; omega); have HK3 : Hid (TO w P O w3 O2) := HK2.out.2.trans k4; clear k3 k4) | (go_at_call 106; (with_reducible refine Calls.mono C3 ?_); rintro e4 w4 ⟨rfl, H4⟩))
  refine bodyPost_end (v := .tuple #[]) (by simp [results, Tryz.results108, go_sem]) rfl ?_
  rw [HD.out]
  exact TP.step HK3.out ⟨rfl, H4.out⟩
end Go.Proofs.YtlpnegnpejpdkaaGreatDoor
