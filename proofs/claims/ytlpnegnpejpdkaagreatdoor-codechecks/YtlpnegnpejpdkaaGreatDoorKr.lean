/- byteWriter: numbers and names behind its bytes. -/
import Derived.Test.YtlpnegnpejpdkaaGreatDoorMdx
import Derived.Test.YtlpnegnpejpdkaaGreatDoorKq
import Derived.Test.YtlpnegnpejpdkaaGreatDoorMax
namespace Go.Proofs.YtlpnegnpejpdkaaGreatDoor
open Go.RowKit

def EByt : Elt UInt8 where
  k := 1
  C _ _ cs x := cs = [.int .u8 (x.toNat : Nat)]
  len := by rintro _ _ _ _ rfl; rfl
  one := by rintro _ _ _ _ rfl u hu; rw [List.mem_singleton.1 hu]; rfl
  on := fun _ _ h => h
theorem Tryz.ty40 : Ty 40 5 EByt.k 1 := by
  obtain ⟨i, hi, h0, h1, h2⟩ := info_parts (show (Tryz.prog.info? 5).map (fun i => (i.zero, i.size, i.bytes)) = some (some (.int .u8 0), 1, 1) by kernel_rfl)
  exact ⟨Tryz.underlying40, ⟨i, _, hi, h0, h1, h2, rfl⟩, by decide, by decide⟩
/-- Block P holds the bytes that were written so far: they lie in a block behind it. -/
def BW (w : World) (P : Nat) (l : Byt) : Prop := ∃ v, w.heap[P]? = some (.cells #[v] 97 (0, 0)) ∧ OwnN EByt 5 (P + 1) (fun _ => False) w v l
theorem BW.lt {w : World} {P : Nat} {l : Byt} (h : BW w P l) : P < w.heap.size := by
  obtain ⟨v, h1, _⟩ := h
  exact lt_heap h1
theorem BW.on {w w' : World} {P : Nat} {l : Byt} (h : BW w P l) (hb : Below w.heap.size w w') : BW w' P l := by
  obtain ⟨v, h1, h2⟩ := h
  exact ⟨v, (hb.block P (lt_heap h1)).trans h1, h2.on (fun _ h => h.elim) (lt_heap h1) hb⟩
theorem BW.put {w : World} {P : Nat} {u v : Value} {l : Byt} (hP : w.heap[P]? = some (.cells #[u] 97 (0, 0))) (O : OwnN EByt 5 (P + 1) (fun _ => False) w v l) : BW (w.setCell ⟨P, 0, none⟩ v) P l := by
  refine ⟨v, by rw [setCell_block hP]; rfl, ?_⟩
  have hs : (w.setCell ⟨P, 0, none⟩ v).heap.size = w.heap.size := World.size_setCell _ _ _
  have h1 : Own EByt 5 (P + 1) (w.setCell ⟨P, 0, none⟩ v) (Nwr (fun _ => False) (P + 1) w v) v l := Own.on O (fun y hy => by
    rcases hy with hy | hy
    · exact hy.elim
    · exact Below.heap_setCell _ _ _ _ (by show y ≠ P; omega)) fun g e => Below.heap_setCell _ _ _ _ (by show g ≠ P; have := (O.lt g e).1; omega)
  unfold OwnN Nwr
  rw [hs]
  exact h1
/-- What a writer keeps: all blocks but its own two. -/
def BK (w : World) (P : Nat) (w' : World) : Prop := ∀ v, w.heap[P]? = some (.cells #[v] 97 (0, 0)) → ∃ v', w'.heap[P]? = some (.cells #[v'] 97 (0, 0)) ∧ w.heap.size ≤ w'.heap.size ∧ (v'.ownBlock = v.ownBlock ∨ ∃ g, v'.ownBlock = some g ∧ w.heap.size ≤ g) ∧ ∀ y, y < w.heap.size → y ≠ P → v.ownBlock ≠ some y → w'.heap[y]? = w.heap[y]?
theorem BK.refl (w : World) (P : Nat) : BK w P w := fun v h => ⟨v, h, Nat.le_refl _, .inl rfl, fun _ _ _ _ => rfl⟩
theorem BK.trans {a b c : World} {P : Nat} (h : BK a P b) (k : BK b P c) : BK a P c := fun v hv => by
  obtain ⟨v1, h1, h2, h3, h4⟩ := h v hv
  obtain ⟨v2, k1, k2, k3, k4⟩ := k v1 h1
  refine ⟨v2, k1, Nat.le_trans h2 k2, ?_, fun y hy hP hne => (k4 y (Nat.lt_of_lt_of_le hy h2) hP fun e => ?_).trans (h4 y hy hP hne)⟩
  · rcases k3 with k3 | ⟨g, k3, hg⟩
    · rw [k3]; exact h3
    · exact .inr ⟨g, k3, Nat.le_trans h2 hg⟩
  · rcases h3 with h3 | ⟨g, h3, hg⟩
    · exact hne (h3 ▸ e)
    · rw [h3] at e
      injection e with e
      omega
theorem BK.on {w w' : World} {P : Nat} (hb : Below w.heap.size w w') : BK w P w' := fun v hv => ⟨v, (hb.block P (lt_heap hv)).trans hv, hb.size, .inl rfl, fun y hy _ _ => hb.block y hy⟩
/-- A block that was there and is none of the writer's stays. -/
theorem BK.block {w w' : World} {P y : Nat} {l : Byt} (h : BK w P w') (hw : BW w P l) (hy : y < w.heap.size) (hP : y ≠ P) (ho : ∀ v, w.heap[P]? = some (.cells #[v] 97 (0, 0)) → v.ownBlock ≠ some y) : w'.heap[y]? = w.heap[y]? := by
  obtain ⟨v, h1, _⟩ := hw
  obtain ⟨v', _, _, _, k⟩ := h v h1
  exact k y hy hP (ho v h1)
/-- What a writer leaves: the bytes behind, and all blocks below its own as they were. -/
def BWo (w : World) (P : Nat) (l : Byt) (r : Ending) (w' : World) : Prop := r = .returned (.tuple #[]) ∧ Hid (BW w' P l ∧ Below P w w' ∧ BK w P w')
/-- append(x, y), x being bytes that were made, y one byte that was just laid in a block of its own. -/
theorem byte_append {ops : Array Oper} {rest : List Oper} {o : Oper} {a : Act} {Q : Exit → Act → World → Prop} {w2 : World} {B : Nat} (hgd : o.guard = none) (s x : Operand)
    (ho : o.op = .call { callee := .builtin .append, args := #[s, x], argTypes := #[40, 40] }) {v : Value} {p : UInt8} {z : Int} {l : Byt} {cap : Nat} (hs : a.eval s = v) (hown : OwnN EByt 5 B (fun _ => False) w2 v l) (hB : B ≤ w2.heap.size) (hx : a.eval x = .slice (some ⟨w2.heap.size, 0, none⟩) 1 cap) (hp : (p.toNat : Int) = z) (hcap : 1 ≤ cap) (hl : l.length + 1 ≤ 100000000)
    (h : ∀ v' w', OwnN EByt 5 B (fun _ => False) w' v' (l ++ [p]) → Below B w2 w' → w2.heap.size ≤ w'.heap.size → (∀ y, y < w2.heap.size → v.ownBlock ≠ some y → w'.heap[y]? = w2.heap[y]?) → (v'.ownBlock = v.ownBlock ∨ ∃ g, v'.ownBlock = some g ∧ w2.heap.size ≤ g) → wpList Tryz.prog ops Q rest (a.put o.dst v') w') : wpList Tryz.prog ops Q (o :: rest) a (w2.alloc (.cells #[.int .u8 z] 5)) := by
  subst hp
  have hb2 : Below w2.heap.size w2 (w2.alloc (.cells #[.int .u8 (p.toNat : Int)] 5)) := (Below.refl _ _).alloc (Nat.le_refl _) _
  have hs2 : (w2.alloc (.cells #[.int .u8 (p.toNat : Int)] 5)).heap.size = w2.heap.size + 1 := World.size_alloc _ _
  have O2 : OwnN EByt 5 B (fun _ => False) (w2.alloc (.cells #[.int .u8 (p.toNat : Int)] 5)) v l := hown.on (fun _ h => h.elim) hB hb2
  refine wpList_append_E (Z := fun y => y = w2.heap.size) Tryz.ty40 hgd s x ho hs O2 hx (RowE.new (E := EByt) (cs := [.int .u8 (p.toNat : Int)]) rfl (new_blk _ _) hcap) hl (by omega) (Nwr.lt (fun _ h => h.elim) (by omega)) ?_
  intro v' w' O K1 K2 G
  have hsz : w2.heap.size ≤ w'.heap.size := by have := K1.size; omega
  refine h v' w' ?_ ((hb2.mono hB).trans K1) hsz (fun y hy hne => (K2 y (by omega) hne).trans (hb2.block y hy)) (G.imp id fun ⟨g, e, hg⟩ => ⟨g, e, by omega⟩)
  refine O.up (fun y hy => hy.imp id fun h => ⟨h.1, Nat.lt_of_lt_of_le h.2.1 K1.size, ?_⟩) fun y hy e => ?_
  · rcases G with G | ⟨g, G, hg⟩
    · rw [G]; exact h.2.2
    · rw [G]; intro e; injection e with e; have := h.2.1; omega
  · rcases hy with hy | hy
    · exact hy.elim
    · exact hy.2.2 e
theorem BK.put {w w4 : World} {P : Nat} {v v4 : Value} (hP : w.heap[P]? = some (.cells #[v] 97 (0, 0))) (hP4 : w4.heap[P]? = some (.cells #[v] 97 (0, 0))) (hs : w.heap.size ≤ w4.heap.size) (K : ∀ y, y < w.heap.size → v.ownBlock ≠ some y → w4.heap[y]? = w.heap[y]?) (G : v4.ownBlock = v.ownBlock ∨ ∃ g, v4.ownBlock = some g ∧ w.heap.size ≤ g) : BK w P (w4.setCell ⟨P, 0, none⟩ v4) := fun u hu => by
  have e : u = v := by
    rw [hP] at hu
    simpa using hu.symm
  subst e
  exact ⟨v4, by rw [setCell_block hP4]; rfl, by rw [World.size_setCell]; exact hs, G, fun y hy hyP hne => (Below.heap_setCell _ _ _ _ (by show y ≠ P; exact hyP)).trans (K y hy hne)⟩
theorem num_cons {m k : Nat} (h : 128 ≤ m) : numF (k + 1) m = UInt8.ofNat (m % 128 + 128) :: numF k (m / 128) := by
  rw [numF, if_pos h]
theorem num_last {m k : Nat} (h : ¬ 128 ≤ m) : numF k m = [UInt8.ofNat m] := by
  cases k with
  | zero => rfl
  | succ k => rw [numF, if_neg h]
set_option maxHeartbeats 8000000 in
set_option maxRecDepth 10000 in
theorem wnum_any {w : World} {P n : Nat} {l : Byt} (h : BW w P l) (hn : n < 9223372036854775808) (hl : l.length ≤ 50000000) : Calls Tryz.prog 92 #[.pointer (some ⟨P, 0, none⟩), .int .i64 n] w fun r w' => BWo w P (l ++ numW n) r w' := by
  have HB0 : Hid (BW w P l) := h
  clear h
  go_enter Tryz.func92, Tryz.ntmps92
  go_upto_region 0 with fail
  go_loopw [1] (fun nv wr => ∃ (m k : Nat) (l2 : Byt), nv = .int .i64 m ∧ m < 128 ^ (k + 1) ∧ k ≤ 8 ∧ l2.length + k ≤ l.length + 8 ∧ Hid (BW wr P l2 ∧ Below P w wr ∧ BK w P wr) ∧ Hid (l2 ++ numF k m = l ++ numW n)) (fun nv _ => (intOf nv).toNat)
  case atStart => exact ⟨n, 8, l, by go_num, by simpa using hn, by omega, by omega, ⟨HB0.out, Below.refl _ _, BK.refl _ _⟩, rfl⟩
  case round =>
    clear HB0
    obtain ⟨m, k, l2, rfl, hm, hk, hl2, HW, HL⟩ := hrel
    have hm2 : m < 9223372036854775808 := Nat.lt_of_lt_of_le hm (Nat.le_trans (Nat.pow_le_pow_right (by decide) (show k + 1 ≤ 9 by omega)) (by decide))
    obtain ⟨⟨v, hP, O⟩, hbl, hbk⟩ := HW.out
    have p0 : wr.cell? ⟨P, 0, none⟩ = some v := heap_cl hP rfl
    have HO : Hid (OwnN EByt 5 (P + 1) (fun _ => False) wr v l2) := O
    have HP : Hid (wr.heap[P]? = some (.cells #[v] 97 (0, 0))) := hP
    have HBL : Hid (Below P w wr ∧ BK w P wr) := ⟨hbl, hbk⟩
    obtain ⟨ad, cap, rfl⟩ := O.len
    clear O hP hbl hbk HW
    by_cases h128 : 128 ≤ m
    · obtain ⟨k, rfl⟩ : ∃ j, k = j + 1 := by
        cases k with
        | zero => simp at hm; omega
        | succ j => exact ⟨j, rfl⟩
      have HL2 : Hid ((l2 ++ [UInt8.ofNat (m % 128 + 128)]) ++ numF k (m / 128) = l ++ numW n) := by
        show _ = _
        rw [← HL.out, num_cons h128, List.append_assoc]
        rfl
      have hbt : (UInt8.ofNat (m % 128 + 128)).toNat = m % 128 + 128 := ofNat_toNat (by omega)
      have HBT : Hid (((UInt8.ofNat (m % 128 + 128)).toNat : Int) = (m : Int) % 128 + 128) := by show _ = _; rw [hbt]; omega
      clear HL hbt
      have hlen : (l2 ++ [UInt8.ofNat (m % 128 + 128)]).length = l2.length + 1 := by simp
      go_upto_region 2 with (at_builtin; refine byte_append (w2 := wr) (p := UInt8.ofNat (m % 128 + 128)) (z := (m : Int) % 128 + 128) (cap := 1) rfl _ _ rfl rfl HO.out (lt_heap HP.out) rfl HBT.out (Nat.le_refl _) (by omega) ?_; intro v4 w4 O4 B4 S4 K4 G4; have hP4 : w4.heap[P]? = some (.cells #[.slice ad l2.length cap] 97 (0, 0)) := (B4.block P (Nat.lt_succ_self P)).trans HP.out; have p4 : w4.cell? ⟨P, 0, none⟩ = some (.slice ad l2.length cap) := heap_cl hP4 rfl; have f4 : w4.frozen? ⟨P, 0, none⟩ = false := heap_frozen hP4; have HBK : Hid (BK w P (w4.setCell ⟨P, 0, none⟩ v4)) := HBL.out.2.trans (BK.put HP.out hP4 S4 K4 G4); obtain ⟨ad4, cap4, rfl⟩ := O4.len; have HB5 : Hid (BW (w4.setCell ⟨P, 0, none⟩ (.slice ad4 (l2 ++ [UInt8.ofNat (m % 128 + 128)]).length cap4)) P (l2 ++ [UInt8.ofNat (m % 128 + 128)]) ∧ Below P w (w4.setCell ⟨P, 0, none⟩ (.slice ad4 (l2 ++ [UInt8.ofNat (m % 128 + 128)]).length cap4)) ∧ BK w P (w4.setCell ⟨P, 0, none⟩ (.slice ad4 (l2 ++ [UInt8.ofNat (m % 128 + 128)]).length cap4))) := ⟨BW.put hP4 O4, (HBL.out.1.trans (B4.mono (Nat.le_succ P))).setCell (show P ≤ P from Nat.le_refl P) _, HBK.out⟩; clear O4 B4 S4 K4 G4 hP4 HBK)
      rw [hlen] at HB5
      have hm3 : m / 128 < 128 ^ (k + 1) := by
        rw [Nat.pow_succ] at hm
        exact Nat.div_lt_of_lt_mul (by rw [Nat.mul_comm]; exact hm)
      have HLN : Hid ((l2 ++ [UInt8.ofNat (m % 128 + 128)]).length = l2.length + 1) := hlen
      clear hlen
      go_wp2
      go_roundw
      case rel => exact ⟨m / 128, k, _, by go_num, hm3, by omega, by rw [HLN.out]; omega, HB5.out, HL2.out⟩
      case measure => simp [intOf]; omega
    · have HL2 : Hid (l2 ++ [UInt8.ofNat m] = l ++ numW n) := by
        show _ = _
        rw [← HL.out, num_last h128]
      have hbt : (UInt8.ofNat m).toNat = m := ofNat_toNat (by omega)
      have HBT : Hid (((UInt8.ofNat m).toNat : Int) = (m : Int)) := by show _ = _; rw [hbt]
      have hm128 : m < 128 := by omega
      have hlen : (l2 ++ [UInt8.ofNat m]).length = l2.length + 1 := by simp
      clear HL hbt
      go_wp2_with (at_builtin; refine byte_append (w2 := wr) (p := UInt8.ofNat m) (z := (m : Int)) (cap := 1) rfl _ _ rfl rfl HO.out (lt_heap HP.out) rfl HBT.out (Nat.le_refl _) (by omega) ?_; intro v4 w4 O4 B4 S4 K4 G4; have hP4 : w4.heap[P]? = some (.cells #[.slice ad l2.length cap] 97 (0, 0)) := (B4.block P (Nat.lt_succ_self P)).trans HP.out; have p4 : w4.cell? ⟨P, 0, none⟩ = some (.slice ad l2.length cap) := heap_cl hP4 rfl; have f4 : w4.frozen? ⟨P, 0, none⟩ = false := heap_frozen hP4; have HBK : Hid (BK w P (w4.setCell ⟨P, 0, none⟩ v4)) := HBL.out.2.trans (BK.put HP.out hP4 S4 K4 G4); obtain ⟨ad4, cap4, rfl⟩ := O4.len; have HB5 : Hid (BW (w4.setCell ⟨P, 0, none⟩ (.slice ad4 (l2 ++ [UInt8.ofNat m]).length cap4)) P (l2 ++ [UInt8.ofNat m]) ∧ Below P w (w4.setCell ⟨P, 0, none⟩ (.slice ad4 (l2 ++ [UInt8.ofNat m]).length cap4)) ∧ BK w P (w4.setCell ⟨P, 0, none⟩ (.slice ad4 (l2 ++ [UInt8.ofNat m]).length cap4))) := ⟨BW.put hP4 O4, (HBL.out.1.trans (B4.mono (Nat.le_succ P))).setCell (show P ≤ P from Nat.le_refl P) _, HBK.out⟩; clear O4 B4 S4 K4 G4 hP4 HBK)
      rw [hlen] at HB5
      refine bodyPost_end (v := .tuple #[]) (by simp [results, Tryz.results92, go_sem]) rfl ?_
      rw [← HL2.out]
      exact ⟨rfl, HB5.out⟩
end Go.Proofs.YtlpnegnpejpdkaaGreatDoor
