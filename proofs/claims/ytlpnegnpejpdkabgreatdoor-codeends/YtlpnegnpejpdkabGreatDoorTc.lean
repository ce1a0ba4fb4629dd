/- textWriter: numbers, and the lines that tell a constructor or a global. -/
import Derived.Shelf.LaysM
import Derived.Shelf.Strconv.Itoa3
import Derived.Lib.SmallJoins
import Derived.Lib.ItoaLen
import Derived.Test.YtlpnegnpejpdkabGreatDoorMhx
namespace Go.Proofs
open Go.Shelf
def Tryz.laysM171_ren : Go.Shelf.Ren := ⟨fun | 171 => 80 | 243 => 89 | 246 => 100 | 283 => 109 | 284 => 110 | 285 => 111 | 286 => 112 | 129 => 119 | 317 => 118 | 318 => 120 | 319 => 121 | 320 => 122 | 337 => 125 | 338 => 126 | n => n, fun | 3 => 3 | 9 => 9 | 2 => 2 | 4 => 4 | 171 => 150 | 0 => 0 | 53 => 151 | 37 => 26 | 5 => 5 | 173 => 154 | 212 => 163 | 51 => 105 | 20 => 20 | 213 => 164 | 46 => 106 | 232 => 176 | 233 => 177 | n => n, fun | 17 => 6 | 18 => 9 | 19 => 10 | n => n⟩
theorem Tryz.laysM171 : Go.Proofs.LaysM.n171 Tryz.prog Tryz.laysM171_ren := {
  mixed := by kernel_rfl
  f129 := Tryz.func119.trans (congrArg some (by kernel_rfl))
  f171 := Tryz.func80.trans (congrArg some (by kernel_rfl))
  f243 := Tryz.func89.trans (congrArg some (by kernel_rfl))
  f246 := Tryz.func100.trans (congrArg some (by kernel_rfl))
  f283 := Tryz.func109.trans (congrArg some (by kernel_rfl))
  f284 := Tryz.func110.trans (congrArg some (by kernel_rfl))
  f285 := Tryz.func111.trans (congrArg some (by kernel_rfl))
  f286 := Tryz.func112.trans (congrArg some (by kernel_rfl))
  f317 := Tryz.func118.trans (congrArg some (by kernel_rfl))
  f318 := Tryz.func120.trans (congrArg some (by kernel_rfl))
  f319 := Tryz.func121.trans (congrArg some (by kernel_rfl))
  f320 := Tryz.func122.trans (congrArg some (by kernel_rfl))
  f337 := Tryz.func125.trans (congrArg some (by kernel_rfl))
  f338 := Tryz.func126.trans (congrArg some (by kernel_rfl))
  t0 := Tryz.underlying0
  a0 := Tryz.isAgg0
  z0 := Tryz.sizeOf0
  v0 := Tryz.zeroValue0
  t2 := Tryz.underlying2
  a2 := Tryz.isAgg2
  z2 := Tryz.sizeOf2
  v2 := Tryz.zeroValue2
  t3 := Tryz.underlying3
  a3 := Tryz.isAgg3
  z3 := Tryz.sizeOf3
  v3 := Tryz.zeroValue3
  t4 := Tryz.underlying4
  a4 := Tryz.isAgg4
  z4 := Tryz.sizeOf4
  v4 := Tryz.zeroValue4
  t5 := Tryz.underlying5
  a5 := Tryz.isAgg5
  z5 := Tryz.sizeOf5
  v5 := Tryz.zeroValue5
  t9 := Tryz.underlying9
  a9 := Tryz.isAgg9
  z9 := Tryz.sizeOf9
  v9 := Tryz.zeroValue9
  t20 := Tryz.underlying20
  a20 := Tryz.isAgg20
  z20 := Tryz.sizeOf20
  v20 := Tryz.zeroValue20
  t37 := Tryz.underlying26
  a37 := Tryz.isAgg26
  z37 := Tryz.sizeOf26
  v37 := Tryz.zeroValue26
  t46 := Tryz.underlying106
  a46 := Tryz.isAgg106
  z46 := Tryz.sizeOf106
  v46 := Tryz.zeroValue106
  t51 := Tryz.underlying105
  a51 := Tryz.isAgg105
  z51 := Tryz.sizeOf105
  v51 := Tryz.zeroValue105
  t53 := Tryz.underlying151
  a53 := Tryz.isAgg151
  z53 := Tryz.sizeOf151
  v53 := Tryz.zeroValue151
  t171 := Tryz.underlying150
  a171 := Tryz.isAgg150
  z171 := Tryz.sizeOf150
  v171 := Tryz.zeroValue150
  t173 := Tryz.underlying154
  a173 := Tryz.isAgg154
  z173 := Tryz.sizeOf154
  v173 := Tryz.zeroValue154
  t212 := Tryz.underlying163
  a212 := Tryz.isAgg163
  z212 := Tryz.sizeOf163
  v212 := Tryz.zeroValue163
  t213 := Tryz.underlying164
  a213 := Tryz.isAgg164
  z213 := Tryz.sizeOf164
  t232 := Tryz.underlying176
  a232 := Tryz.isAgg176
  z232 := Tryz.sizeOf176
  v232 := Tryz.zeroValue176
  t233 := Tryz.underlying177
  a233 := Tryz.isAgg177
  z233 := Tryz.sizeOf177
  v233 := Tryz.zeroValue177
  g17 := by kernel_rfl
  g18 := by kernel_rfl
  g19 := by kernel_rfl
  i0 := by kernel_rfl
  i2 := by kernel_rfl
  i3 := by kernel_rfl
  i4 := by kernel_rfl
  i5 := by kernel_rfl
  i9 := by kernel_rfl
  i20 := by kernel_rfl
  i37 := by kernel_rfl
  i46 := by kernel_rfl
  i51 := by kernel_rfl
  i53 := by kernel_rfl
  i171 := by kernel_rfl
  i173 := by kernel_rfl
  i212 := by kernel_rfl
  i232 := by kernel_rfl
  i233 := by kernel_rfl
  m17 := by kernel_rfl
  m18 := by kernel_rfl
  m19 := by kernel_rfl }
open Go.RowKit Go.Sort Go.Lib in
/-- strconv.Itoa: "Itoa is equivalent to FormatInt(int64(i), 10).": i's DECIMAL NUMERAL ('Lib.itoa': a '-' where i is negative, then the digits), FOR EVERY int. The world behind the call: the world before it, new blocks behind the heap (the library's 'var a [24]byte'), draws. (LAID: no walk: one application.) -/
theorem Tryz.strconv_Itoa (n : Int) (h0 : -9223372036854775808 ≤ n) (h1 : n ≤ 9223372036854775807) (w : World) (htab : Lib.TabIs Tryz.prog w "internal/strconv.uint64pow10" .u64 Lib.pow10Tab) :
    Calls Tryz.prog 80 #[.int .i64 n] w fun e w' => e = .returned (.string ⟨(Lib.itoa n).toArray⟩) ∧ ∃ k os, w' = grow (w.drewN k) os := Any.strconv_Itoa Tryz.laysM171 n h0 h1 w htab
end Go.Proofs
namespace Go.Proofs.YtlpnegnpejpdkabGreatDoor
open Go.RowKit

/-- The library's table of powers of ten. -/
def Pt (w : World) : Prop := Lib.TabIs Tryz.prog w "internal/strconv.uint64pow10" .u64 Lib.pow10Tab
theorem below_grow (w : World) (k : Nat) (os : Array Obj) : Below w.heap.size w (Go.Sort.grow (w.drewN k) os) := by
  have h1 : Below w.heap.size w (w.drewN k) := below_drewN (Below.refl _ _) k
  refine h1.trans ⟨rfl, rfl, rfl, ?_, fun y hy => ?_⟩
  · show (w.drewN k).heap.size ≤ ((w.drewN k).heap ++ os).size
    simp
  · show ((w.drewN k).heap ++ os)[y]? = (w.drewN k).heap[y]?
    have hs : (w.drewN k).heap.size = w.heap.size := by simp
    rw [Array.getElem?_append_left (by omega)]
def i64 (n : Int) : Prop := -9223372036854775808 ≤ n ∧ n ≤ 9223372036854775807
theorem itoa_any {w : World} (hp : Pt w) {n : Int} (hn : i64 n) : Calls Tryz.prog 80 #[.int .i64 n] w fun r w' => r = .returned (.string ⟨(Lib.itoa n).toArray⟩) ∧ Hid (Below w.heap.size w w') := by
  refine (Tryz.strconv_Itoa n hn.1 hn.2 w hp).mono ?_
  rintro e w' ⟨h1, k, os, rfl⟩
  exact ⟨h1, below_grow w k os⟩
def numT (n : Int) : Byt := [32] ++ Lib.itoa n
theorem numT_len {n : Int} (hn : i64 n) : (numT n).length ≤ 22 := by
  have := Lib.itoa_length_le n hn.1 hn.2
  unfold numT
  rw [List.length_append]
  have h1 : ([32] : Byt).length = 1 := rfl
  omega
set_option maxRecDepth 10000 in
theorem tnum_any {w : World} {P : Nat} {sv gv : Value} {l : Byt} {O : Option Nat} (h : TX w P sv gv l O) (hl : l.length ≤ 70000000) (hT : ∀ w', Below P w w' → Pt w') {n : Int} (hn : i64 n) : Calls Tryz.prog 66 #[.pointer (some ⟨P, 0, none⟩), .int .i64 n] w fun r w' => TP w P sv gv l O (numT n) r w' := by
  have C1 := put_any h [32] (by show _ + 1 ≤ _; omega)
  have hil := Lib.itoa_length_le n hn.1 hn.2
  have CI : ∀ W, Below P w W → Calls Tryz.prog 80 #[.int .i64 n] W fun r w' => r = .returned (.string ⟨(Lib.itoa n).toArray⟩) ∧ Hid (Below W.heap.size W w') := fun W hb => itoa_any (hT W hb) hn
  obtain ⟨D, hD⟩ : ∃ D, D = Lib.itoa n := ⟨_, rfl⟩
  rw [← hD] at CI hil
  have HD : Hid (numT n = [32] ++ D) := by show _ = _; rw [hD]; rfl
  clear h hT hD
  go_enter Tryz.func66, Tryz.ntmps66
  go_upto_region 1 with (go_at_call 64; (with_reducible refine Calls.mono C1 ?_); rintro e2 w2 ⟨rfl, H2⟩)
  obtain ⟨O2, k1, k2⟩ := H2.out
  have CI2 := CI w2 k2.bel
  have HK2 : Hid (TX w2 P sv gv (l ++ [32]) O2 ∧ TO w P O w2 O2) := ⟨k1, k2⟩
  clear C1 CI k1 k2 H2
  go_wp2_with (first | (go_at_call 80; (with_reducible refine Calls.mono CI2 ?_); rintro e3 w3 ⟨rfl, H3⟩; obtain ⟨k3, k4⟩ := HK2.out.1.on H3.out; have C3 := put_any k3 D (by rw [List.length_append]; have h1 : ([32] : Byt).length = 1 := rfl; omega); have HK3 : Hid (TO w P O w3 O2) := HK2.out.2.trans k4; clear k3 k4) | (go_at_call 64; (with_reducible refine Calls.mono C3 ?_); rintro e4 w4 ⟨rfl, H4⟩))
  refine bodyPost_end (v := .tuple #[]) (by simp [results, Tryz.results66, go_sem]) rfl ?_
  rw [HD.out]
  exact TP.step HK3.out ⟨rfl, H4.out⟩
end Go.Proofs.YtlpnegnpejpdkabGreatDoor
