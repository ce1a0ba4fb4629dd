/- strings.TrimLeft at a set of ASCII signs. -/
import Derived.Shelf.Strings.Trim
import Derived.Shelf.Strings.AsciiSet
import Derived.Shelf.Strings.IndexAnyAll
import Derived.Test.YtlpnegnpejpdkaaGreatDoorUc
namespace Go.Proofs
open Go.Shelf
def Tryz.lays161_ren : Go.Shelf.Ren := ⟨fun | 161 => 127 | 231 => 137 | 227 => 130 | 233 => 138 | 235 => 139 | 228 => 131 | 197 => 148 | 151 => 149 | 260 => 160 | 152 => 128 | 137 => 140 | 119 => 141 | 224 => 142 | 225 => 143 | 217 => 150 | 266 => 161 | n => n, fun | 9 => 9 | 4 => 4 | 3 => 3 | 5 => 5 | 117 => 163 | 116 => 162 | 0 => 0 | 124 => 172 | 105 => 177 | 21 => 21 | 119 => 200 | 46 => 95 | 139 => 203 | 138 => 202 | n => n, fun | 3 => 7 | 4 => 8 | n => n⟩
theorem Tryz.lays161 : Go.Proofs.Lays.n161 Tryz.prog Tryz.lays161_ren := {
  mixed := by kernel_rfl
  f119 := Tryz.func141.trans (congrArg some (by kernel_rfl))
  f137 := Tryz.func140.trans (congrArg some (by kernel_rfl))
  f151 := Tryz.func149.trans (congrArg some (by kernel_rfl))
  f152 := Tryz.func128.trans (congrArg some (by kernel_rfl))
  f161 := Tryz.func127.trans (congrArg some (by kernel_rfl))
  f197 := Tryz.func148.trans (congrArg some (by kernel_rfl))
  f217 := Tryz.func150.trans (congrArg some (by kernel_rfl))
  f224 := Tryz.func142.trans (congrArg some (by kernel_rfl))
  f225 := Tryz.func143.trans (congrArg some (by kernel_rfl))
  f227 := Tryz.func130.trans (congrArg some (by kernel_rfl))
  f228 := Tryz.func131.trans (congrArg some (by kernel_rfl))
  f231 := Tryz.func137.trans (congrArg some (by kernel_rfl))
  f233 := Tryz.func138.trans (congrArg some (by kernel_rfl))
  f235 := Tryz.func139.trans (congrArg some (by kernel_rfl))
  f260 := Tryz.func160.trans (congrArg some (by kernel_rfl))
  f266 := Tryz.func161.trans (congrArg some (by kernel_rfl))
  t0 := Tryz.underlying0
  a0 := Tryz.isAgg0
  z0 := Tryz.sizeOf0
  v0 := Tryz.zeroValue0
  t3 := Tryz.underlying3
  a3 := Tryz.isAgg3
  z3 := Tryz.sizeOf3
  v3 := Tryz.zeroValue3
  t4 := Tryz.underlying4
  a4 := Tryz.isAgg4
  z4 := Tryz.sizeOf4
  v4 := Tryz.zeroValue4
  t5 := Tryz.underlying5
  a5 := Tryz.isAgg5
  z5 := Tryz.sizeOf5
  v5 := Tryz.zeroValue5
  t9 := Tryz.underlying9
  a9 := Tryz.isAgg9
  z9 := Tryz.sizeOf9
  v9 := Tryz.zeroValue9
  t21 := Tryz.underlying21
  a21 := Tryz.isAgg21
  z21 := Tryz.sizeOf21
  v21 := Tryz.zeroValue21
  t46 := Tryz.underlying95
  a46 := Tryz.isAgg95
  z46 := Tryz.sizeOf95
  v46 := Tryz.zeroValue95
  t105 := Tryz.underlying177
  a105 := Tryz.isAgg177
  z105 := Tryz.sizeOf177
  v105 := Tryz.zeroValue177
  t116 := Tryz.underlying162
  a116 := Tryz.isAgg162
  z116 := Tryz.sizeOf162
  t117 := Tryz.underlying163
  a117 := Tryz.isAgg163
  z117 := Tryz.sizeOf163
  v117 := Tryz.zeroValue163
  t119 := Tryz.underlying200
  a119 := Tryz.isAgg200
  z119 := Tryz.sizeOf200
  t124 := Tryz.underlying172
  a124 := Tryz.isAgg172
  z124 := Tryz.sizeOf172
  v124 := Tryz.zeroValue172
  t138 := Tryz.underlying202
  a138 := Tryz.isAgg202
  z138 := Tryz.sizeOf202
  v138 := Tryz.zeroValue202
  t139 := Tryz.underlying203
  a139 := Tryz.isAgg203
  z139 := Tryz.sizeOf203
  v139 := Tryz.zeroValue203
  g3 := by kernel_rfl
  g4 := by kernel_rfl }
end Go.Proofs
namespace Go.Proofs.YtlpnegnpejpdkaaGreatDoor
open Go.RowKit

set_option maxHeartbeats 8000000 in
set_option maxRecDepth 10000 in
theorem trimset_any (l : List UInt8) (b : Nat) (f : UInt8 → Bool) (w : World) (hc : ∀ x : UInt8, w.cell? ⟨b, x.toNat, none⟩ = some (.bool (f x))) :
    Calls Tryz.prog 138 #[.string ⟨l.toArray⟩, .pointer (some ⟨b, 0, none⟩)] w fun e w' => e = .returned (.string ⟨(l.dropWhile f).toArray⟩) ∧ w' = w := by
  have HC : Hid (∀ x : UInt8, w.cell? ⟨b, x.toNat, none⟩ = some (.bool (f x))) := hc
  obtain ⟨D, hD⟩ : ∃ D, D = l.dropWhile f := ⟨_, rfl⟩
  rw [← hD]
  have HD : Hid (l.dropWhile f = D) := hD.symm
  clear hc hD
  go_enter Tryz.func138, Tryz.ntmps138
  go_upto_region 1 with fail
  go_loopw [0] (fun v wr => ∃ m : List UInt8, m.length ≤ l.length ∧ v = .string ⟨m.toArray⟩ ∧ wr = w ∧ Hid (m.dropWhile f = D)) (fun v _ => Lib.strSize v)
  case atStart => exact ⟨l, Nat.le_refl _, rfl, rfl, HD.out⟩
  case round =>
    clear HD
    obtain ⟨m, hml, rfl, rfl, HM⟩ := hrel
    cases m with
    | nil =>
      have HE : Hid (([] : List UInt8) = D) := HM.out
      have e0 : ¬ (((⟨([] : List UInt8).toArray⟩ : ByteArray).size : Int) > 0) := by decide
      go_wp2
      go_ret
      exact ⟨by rw [← HE.out]; rfl, rfl⟩
    | cons x r =>
      obtain ⟨t, ht⟩ : ∃ t : ByteArray, t = ⟨(x :: r).toArray⟩ := ⟨_, rfl⟩
      have hts : t.size = r.length + 1 := by rw [ht]; exact Lib.size_mk _
      have ht0 : ∀ h, t[0]'h = x := fun h => by subst ht; rfl
      have htx : t.extract 1 (r.length + 1) = ⟨r.toArray⟩ := by
        rw [ht, Lib.extract_mk]
        simp
      have HT : Hid (t = ⟨(x :: r).toArray⟩) := ht
      have hcx := HC.out x
      rw [← ht]
      have h0 : 0 < t.size := by omega
      have hx0 := ht0 h0
      cases hf : f x with
      | false =>
        rw [hf] at hcx
        have HE : Hid (x :: r = D) := by have := HM.out; rw [List.dropWhile_cons, hf] at this; exact this
        have CA := Tryz.asciiSet_contains b x false wr hcx
        clear HM ht
        go_wp2_with (go_at_call 131; (with_reducible refine Calls.mono CA ?_); rintro e2 w2 ⟨rfl, hw⟩; obtain rfl := hw.symm; clear hw)
        go_ret
        exact ⟨by rw [← HE.out, ← HT.out]; rfl, rfl⟩
      | true =>
        rw [hf] at hcx
        have HE : Hid (r.dropWhile f = D) := by have := HM.out; rw [List.dropWhile_cons, hf] at this; exact this
        have CA := Tryz.asciiSet_contains b x true wr hcx
        clear HM HT ht
        go_wp2_with (go_at_call 131; (with_reducible refine Calls.mono CA ?_); rintro e2 w2 ⟨rfl, hw⟩; obtain rfl := hw.symm; clear hw)
        go_roundw
        case rel => exact ⟨r, by simp at hml; omega, rfl, by trivial, HE.out⟩
        case measure => simp only [Lib.strSize_string, Lib.size_mk]; omega
set_option maxHeartbeats 8000000 in
set_option maxRecDepth 1000000 in
theorem trimleft_gen {P : Program} {ρ : Go.Shelf.Ren} (L : Lays.n161 P ρ) (hv116 : ∀ w, (zeroValue (ρ.t 116)).run P w = .ok (.agg (Array.replicate 256 (.bool false))) w) (hi116 : (P.info? (ρ.t 116)).map (·.size) = some 256) (s chars : ByteArray) (w : World) (h2 : 2 ≤ chars.size) (hcs : chars.size < 4294967281)
    (hascii : ∀ (j : Nat) b, chars.data.toList[j]? = some b → b.toNat < 128) (hT : ∀ (b : Nat) (w : World), (∀ x : UInt8, w.cell? ⟨b, x.toNat, none⟩ = some (.bool (chars.data.toList.contains x))) → Calls P (ρ.f 233) #[.string s, .pointer (some ⟨b, 0, none⟩)] w fun e w' => e = .returned (.string ⟨(s.data.toList.dropWhile chars.data.toList.contains).toArray⟩) ∧ w' = w) :
    Calls P (ρ.f 161) #[.string s, .string chars] w fun e w' => e = .returned (.string ⟨(s.data.toList.dropWhile chars.data.toList.contains).toArray⟩) ∧ Below w.heap.size w w' := by
  have hM := Any.strings_makeASCIISet { L with } hv116 hi116 chars w hcs hascii
  clear hascii
  have hemp : chars.toList.isEmpty = false := by
    rw [Lib.toList_data]
    cases h : chars.data.toList with
    | nil => have := Lib.size_eq chars; rw [h, List.length_nil] at this; omega
    | cons _ _ => rfl
  have hn1 : ((chars.size : Int) == 1) = false := beq_eq_false_iff_ne.2 (by omega)
  have hsc : (storeCells ⟨w.heap.size + 1, 0, none⟩ (Lib.setCells chars.data.toList).toList 0).run P ((w.alloc (.cells (Lib.setCells chars.data.toList) (ρ.t 116))).alloc (.cells (Array.replicate 256 (.bool false)) (ρ.t 116))) = .ok () ((w.alloc (.cells (Lib.setCells chars.data.toList) (ρ.t 116))).alloc (.cells (Lib.setCells chars.data.toList) (ρ.t 116))) := by
    have := run_storeCells_new (P := P) (w.alloc (.cells (Lib.setCells chars.data.toList) (ρ.t 116))) (ρ.t 116) (Array.replicate 256 (.bool false)) (Lib.setCells chars.data.toList) (by rw [Lib.setCells_size]; exact hi116) (by rw [Lib.setCells_size, Array.size_replicate]) (Lib.setCells_one _)
    simpa using this
  have hsz := Lib.setCells_size chars.data.toList
  have hcellAt : ∀ x : UInt8, ((w.alloc (.cells (Lib.setCells chars.data.toList) (ρ.t 116))).alloc (.cells (Lib.setCells chars.data.toList) (ρ.t 116))).cell? ⟨w.heap.size + 1, x.toNat, none⟩ = some (.bool (chars.data.toList.contains x)) := fun x => by
    rw [World.cell?_alloc_at _ _ _ _ (by simp), Lib.setCells_at]
  have CT := hT _ _ hcellAt
  have HB : Hid (Below w.heap.size w ((w.alloc (.cells (Lib.setCells chars.data.toList) (ρ.t 116))).alloc (.cells (Lib.setCells chars.data.toList) (ρ.t 116)))) := ((Below.refl _ _).alloc (Nat.le_refl _) _).alloc (by simp) _
  clear hcellAt hT
  by_cases hs0 : s.data.toList = []
  · have hs1 : s = ⟨#[]⟩ := by rw [← Lib.mk_data s, hs0]
    subst hs1
    have t9 := L.t9; have a9 := L.a9; have z9 := L.z9; have v9 := L.v9
    have t4 := L.t4; have a4 := L.a4; have z4 := L.z4; have v4 := L.v4
    go_enter L.f161, Body.n161_ntmps ρ
    go_wp2
    go_ret
    exact ⟨rfl, Below.refl _ _⟩
  · have hse : s.toList.isEmpty = false := by
      rw [Lib.toList_data]
      cases h : s.data.toList with
      | nil => exact absurd h hs0
      | cons _ _ => rfl
    have t3 := L.t3; have a3 := L.a3; have z3 := L.z3; have v3 := L.v3
    have t4 := L.t4; have a4 := L.a4; have z4 := L.z4; have v4 := L.v4
    have t5 := L.t5; have a5 := L.a5; have z5 := L.z5; have v5 := L.v5
    have t9 := L.t9; have a9 := L.a9; have z9 := L.z9; have v9 := L.v9
    have t116 := L.t116
    have e227 : ∀ args w, (callFunc (ρ.f 227) args).run P w = .ok (.enter (ρ.f 227) args) w := enters_of L.f227 (by kernel_rfl) rfl
    have e233 : ∀ args w, (callFunc (ρ.f 233) args).run P w = .ok (.enter (ρ.f 233) args) w := enters_of L.f233 (by kernel_rfl) rfl
    go_enter L.f161, Body.n161_ntmps ρ
    go_wp2_with (go_at_fn (ρ.f 227); refine hM.mono ?_; rintro e w' ⟨rfl, hw⟩; rw [hw])
    simp only [L.z116, Result.andThen, ↓reduceIte, hsc]
    rw [Oper.upon_skip]
    go_wp2_with (go_at_fn (ρ.f 233); refine CT.mono ?_; rintro e w' ⟨rfl, hw⟩; rw [hw])
    go_ret
    exact ⟨rfl, HB.out⟩
def blankB (b : UInt8) : Bool := [32, 9, 10, 13].contains b
def endB (b : UInt8) : Bool := [32, 9, 10, 13, 34].contains b
theorem set_info : (Tryz.prog.info? 162).map (fun i => (i.zero, i.size)) = some (some (.agg (Array.replicate 256 (.bool false))), 256) := by kernel_rfl
theorem trimleft_any (l : List UInt8) (w : World) : Calls Tryz.prog 127 #[.string ⟨l.toArray⟩, .string ⟨#[32, 9, 10, 13]⟩] w fun e w' => e = .returned (.string ⟨(l.dropWhile blankB).toArray⟩) ∧ Below w.heap.size w w' :=
  trimleft_gen Tryz.lays161 (zero_of_info set_info).1 (zero_of_info set_info).2 ⟨l.toArray⟩ ⟨#[32, 9, 10, 13]⟩ w (by decide) (by decide) (by
    intro j b h
    have h2 : b ∈ ([32, 9, 10, 13] : List UInt8) := List.mem_of_getElem? h
    simp only [List.mem_cons, List.not_mem_nil, or_false] at h2
    rcases h2 with rfl | rfl | rfl | rfl <;> decide) fun b w' hc => trimset_any l b blankB w' hc
theorem sign_any (l : List UInt8) (w : World) (hl : l.length < 4294967281) : Calls Tryz.prog 111 #[.string ⟨l.toArray⟩, .string ⟨#[32, 9, 10, 13, 34]⟩] w fun e w' => e = .returned (.int .i64 (Lib.indexAny l [32, 9, 10, 13, 34])) ∧ Below w.heap.size w w' := by
  by_cases h8 : l.length ≤ 8
  · exact any_short l h8 w
  · have hsz : (⟨l.toArray⟩ : ByteArray).size = l.length := by show l.toArray.size = _; simp
    refine (Tryz.strings_IndexAny_long (zero_of_info set_info).1 ⟨l.toArray⟩ ⟨#[32, 9, 10, 13, 34]⟩ w (by decide) (by omega) (by omega) (by decide) (by
      intro j b h
      have h2 : b ∈ ([32, 9, 10, 13, 34] : List UInt8) := List.mem_of_getElem? h
      simp only [List.mem_cons, List.not_mem_nil, or_false] at h2
      rcases h2 with rfl | rfl | rfl | rfl | rfl <;> decide)).mono ?_
    rintro e w' ⟨h1, rfl⟩
    exact ⟨h1, ((Below.refl _ _).alloc (Nat.le_refl _) _).alloc (by simp) _⟩
end Go.Proofs.YtlpnegnpejpdkaaGreatDoor
