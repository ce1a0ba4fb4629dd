/- byteWriter: a name behind its bytes; numbers that may be below 0. textWriter: what it holds, what it keeps; put. -/
import Derived.Test.YtlpnegnpejpdkaaGreatDoorKr
import Derived.Lib.AppendStr
import Derived.Test.YtlpnegnpejpdkaaGreatDoorMdx
namespace Go.Proofs.YtlpnegnpejpdkaaGreatDoor
open Go.RowKit

def byteV (b : UInt8) : Value := .int .u8 (b.toNat : Nat)
theorem flat_bytes (l : Byt) : (l.map fun x => [byteV x]).flatten = l.map byteV := by
  induction l with
  | nil => rfl
  | cons a r ih => simp [ih]
theorem own_bytes {B : Nat} {S : Nat → Prop} {w : World} {v : Value} {l : Byt} (h : OwnN EByt 5 B S w v l) : w.ownsRow B 5 1 v l.length (l.map byteV) := by
  obtain ⟨css, h1, h2⟩ := h.row
  have e : css = l.map fun x => [byteV x] := by
    refine List.ext_getElem (by simp [h1.1]) fun i a b => ?_
    rw [List.getElem_map]
    exact h1.2 i a (by simpa using b)
  rw [e, flat_bytes] at h2
  exact h2
theorem bytes_own {B : Nat} {w : World} {v : Value} {l : Byt} (h : w.ownsRow B 5 1 v l.length (l.map byteV)) : OwnN EByt 5 B (fun _ => False) w v l := by
  refine ⟨⟨l.map fun x => [byteV x], ⟨by simp, fun i a b => by simp [EByt, byteV]⟩, ?_⟩, fun y hy e => ?_⟩
  · rw [flat_bytes]
    exact h
  · rcases hy with hy | hy
    · exact hy.elim
    · exact hy.2.2 e
theorem numF_len : ∀ (k n : Nat), (numF k n).length ≤ k + 1
  | 0, _ => Nat.le_refl _
  | k + 1, n => by
    unfold numF
    split
    · rw [List.length_cons]
      have := numF_len k (n / 128)
      omega
    · simp
theorem num_len (n : Nat) : (numW n).length ≤ 9 := numF_len 8 n
theorem str_cells (s : Byt) : Lib.strCells ⟨s.toArray⟩ = s.map byteV := rfl
theorem str_append {w : World} {B : Nat} {ty : TypeId} {i : TypeInfo} (hi : Tryz.prog.info? 5 = some i) (hz : i.zero = some (.int .u8 0)) (hk : i.size = 1) (hby : i.bytes = 1) {v : Value} {n : Nat} {xs : List Value} (hown : w.ownsRow B 5 1 v n xs) (s : ByteArray) (hl : n + s.size ≤ 1000000000) (hB : B ≤ w.heap.size) :
    ∃ v' w', (Builtin.append_ #[40, 9] ty #[v, .string s]).run Tryz.prog w = .ok v' w' ∧ w'.ownsRow B 5 1 v' (n + s.size) (xs ++ Lib.strCells s) ∧ w.grownBy w' v.ownBlock ∧ (v'.ownBlock = v.ownBlock ∨ ∃ g, v'.ownBlock = some g ∧ w.heap.size ≤ g) := by
  have u40 := Tryz.underlying40
  have u9 := Tryz.underlying9
  have h63 : n + s.size ≤ maxLen := by unfold maxLen; omega
  obtain ⟨v', w', hr, h2, h3, h4⟩ := Lib.run_append_own_string (P := Tryz.prog) w B 40 9 ty 5 i u40 u9 hi hz hk hby v n xs hown s h63 (by omega) hB
  refine ⟨v', w', hr, h2, h3, ?_⟩
  rcases hown.2 with ⟨rfl, rfl⟩ | ⟨g, cap, cur, rfl, hbg, hg, hnc, hcm, hcs, htake⟩
  · by_cases hm : s.size = 0
    · exact .inl (by rw [h4.2 ⟨rfl, hm⟩])
    · have hx : xs = [] := List.eq_nil_of_length_eq_zero (by simpa using hown.1)
      obtain ⟨v2, w2, hr2, k2, k3, k4⟩ := Lib.run_append_own_string (P := Tryz.prog) w w.heap.size 40 9 ty 5 i u40 u9 hi hz hk hby (.slice none 0 0) 0 xs (by rw [hx]; exact World.ownsRow_nil _ _ _ _) s h63 (by omega) (Nat.le_refl _)
      have e : (Result.ok v' w' : Result Value) = .ok v2 w2 := hr.symm.trans hr2
      injection e with e1 e2
      subst e1 e2
      rcases k2.2 with ⟨k5, k6⟩ | ⟨g, cap, cur, k5, k6, _⟩
      · omega
      · exact .inr ⟨g, by rw [k5]; rfl, k6⟩
  · have hxl : xs.length = n := by simpa using hown.1
    by_cases hroom : n + s.size ≤ cap
    · have hcs' : cur.size = cap := by simpa using hcs
      have hr2 := Lib.run_append_room_string (P := Tryz.prog) w 40 9 ty 5 i u40 u9 hi hk g n cap cur hg s hroom (by omega)
      have e := hr.symm.trans hr2
      injection e with e1 e2
      exact .inl (by rw [e1]; rfl)
    · have holds : ∀ j u, xs[j]? = some u → w.cell? ((⟨g, 0, none⟩ : Addr).add j) = some u := hown.cells (g := g) rfl
      have hfit := grownCap_le_maxLen w (n + s.size) cap 5 h63
      have hr2 := Lib.run_append_grow_string (P := Tryz.prog) w 40 9 ty 5 i (.int .u8 0) u40 u9 hi hz ⟨g, 0, none⟩ n cap xs (by rw [hk]; simpa using hxl) holds s (by omega) (by omega) (by rw [hby]; exact growslice_fits (by omega) (by omega))
      have e := hr.symm.trans hr2
      injection e with e1 e2
      exact .inr ⟨w.heap.size, by rw [e1]; rfl, Nat.le_refl _⟩
theorem wpList_str {ops : Array Oper} {rest : List Oper} {o : Oper} {a : Act} {Q : Exit → Act → World → Prop} {w : World} {B : Nat} (hgd : o.guard = none) (sl x : Operand)
    (ho : o.op = .call { callee := .builtin .append, args := #[sl, x], argTypes := #[40, 9] }) {i : TypeInfo} (hi : Tryz.prog.info? 5 = some i) (hz : i.zero = some (.int .u8 0)) (hk : i.size = 1) (hby : i.bytes = 1) {v : Value} {n : Nat} {xs : List Value} (hs : a.eval sl = v) (hown : w.ownsRow B 5 1 v n xs) (s : ByteArray) (hx : a.eval x = .string s) (hl : n + s.size ≤ 1000000000) (hB : B ≤ w.heap.size)
    (h : ∀ v' w', w'.ownsRow B 5 1 v' (n + s.size) (xs ++ Lib.strCells s) → w.grownBy w' v.ownBlock → (v'.ownBlock = v.ownBlock ∨ ∃ g, v'.ownBlock = some g ∧ w.heap.size ≤ g) → wpList Tryz.prog ops Q rest (a.put o.dst v') w') : wpList Tryz.prog ops Q (o :: rest) a w := by
  obtain ⟨v', w', hr, h1, h2, h3⟩ := str_append (ty := o.type) hi hz hk hby hown s hl hB
  refine Lib.wpList_append_run w hgd sl x 40 9 ho _ _ hs hx _ _ hr ?_
  exact h v' w' h1 h2 h3
set_option maxHeartbeats 8000000 in
set_option maxRecDepth 10000 in
theorem wname_any {w : World} {P : Nat} {l s : Byt} (h : BW w P l) (hs : s.length ≤ 4096) (hl : l.length ≤ 40000000) : Calls Tryz.prog 93 #[.pointer (some ⟨P, 0, none⟩), .string ⟨s.toArray⟩] w fun r w' => BWo w P (l ++ nameW s) r w' := by
  have C1 := wnum_any h (n := s.length) (by omega) (by omega)
  obtain ⟨S, hS⟩ : ∃ S : ByteArray, S = ⟨s.toArray⟩ := ⟨_, rfl⟩
  have hsz : S.size = s.length := by rw [hS]; show s.toArray.size = _; rw [List.size_toArray]
  have HSC : Hid (Lib.strCells S = s.map byteV) := by rw [hS]; exact str_cells s
  have HNL : Hid ((numW s.length).length ≤ 9) := num_len s.length
  obtain ⟨ti, hi0, hz0, hk0, hby0⟩ := info_parts (show (Tryz.prog.info? 5).map (fun i => (i.zero, i.size, i.bytes)) = some (some (.int .u8 0), 1, 1) by kernel_rfl)
  rw [← hS]
  rw [← hsz] at C1 hs
  have HSZ : Hid (S.size = s.length) := hsz
  clear h hS hsz
  go_enter Tryz.func93, Tryz.ntmps93
  go_upto_region 1 with (first | (go_at_call 92; (with_reducible refine Calls.mono C1 ?_); rintro e2 w2 ⟨rfl, HH⟩))
  obtain ⟨L, hL⟩ : ∃ L, L = l ++ numW S.size := ⟨_, rfl⟩
  have HL : Hid (L ++ s = l ++ nameW s) := by
    show _ = _
    rw [hL, HSZ.out, List.append_assoc]
    rfl
  have hLl : L.length ≤ l.length + 9 := by
    rw [hL, List.length_append, HSZ.out]
    have := HNL.out
    omega
  rw [← hL] at HH
  obtain ⟨⟨v, hP, O⟩, hbl⟩ := HH.out
  have p0 : w2.cell? ⟨P, 0, none⟩ = some v := heap_cl hP rfl
  have HO : Hid (w2.ownsRow (P + 1) 5 1 v L.length (L.map byteV)) := own_bytes O
  have HP : Hid (w2.heap[P]? = some (.cells #[v] 97 (0, 0))) := hP
  have HBL : Hid (Below P w w2 ∧ BK w P w2) := hbl
  obtain ⟨ad, cap, rfl⟩ := O.len
  clear O hP hbl HH C1 hL
  have HEND : Hid (∀ v' w', w'.ownsRow (P + 1) 5 1 v' (L.length + S.size) (L.map byteV ++ Lib.strCells S) → w2.grownBy w' (Value.slice ad L.length cap).ownBlock → (v'.ownBlock = (Value.slice ad L.length cap).ownBlock ∨ ∃ g, v'.ownBlock = some g ∧ w2.heap.size ≤ g) → w'.heap[P]? = w2.heap[P]? ∧ BW (w'.setCell ⟨P, 0, none⟩ v') P (L ++ s) ∧ (Below P w (w'.setCell ⟨P, 0, none⟩ v') ∧ BK w P (w'.setCell ⟨P, 0, none⟩ v')) ∧ ∃ a2 c2, v' = .slice a2 (L.length + S.size) c2) := fun v' w' h1 h2 h3 => by
    have hb : Below (P + 1) w2 w' := (Below.refl _ _).grown h2 (lt_heap HP.out) fun k hk => (HO.out.lt k hk).1
    rw [HSC.out, ← List.map_append, HSZ.out, ← List.length_append] at h1
    have O2 := bytes_own h1
    have hPw : w'.heap[P]? = some (.cells #[.slice ad L.length cap] 97 (0, 0)) := (hb.block P (Nat.lt_succ_self P)).trans HP.out
    obtain ⟨a2, c2, e⟩ := O2.len
    exact ⟨hb.block P (Nat.lt_succ_self P), BW.put hPw O2, ⟨(HBL.out.1.trans (hb.mono (Nat.le_succ P))).setCell (show P ≤ P from Nat.le_refl P) _, HBL.out.2.trans (BK.put HP.out hPw h2.size (fun y hy hne => h2.block y hy fun e => hne e.symm) h3)⟩, a2, c2, by rw [e, List.length_append, HSZ.out]⟩
  go_wp2_with (at_builtin; refine wpList_str rfl _ _ rfl hi0 hz0 hk0 hby0 rfl HO.out S rfl (by omega) (lt_heap HP.out) ?_; intro v4 w4 O4 G4 E4; obtain ⟨hP4, HB5, HB6, a4, c4, rfl⟩ := HEND.out v4 w4 O4 G4 E4; replace hP4 : w4.heap[P]? = some (.cells #[.slice ad L.length cap] 97 (0, 0)) := hP4.trans HP.out; have p4 : w4.cell? ⟨P, 0, none⟩ = some (.slice ad L.length cap) := heap_cl hP4 rfl; have f4 : w4.frozen? ⟨P, 0, none⟩ = false := heap_frozen hP4; replace HB5 : Hid (BW (w4.setCell ⟨P, 0, none⟩ (.slice a4 (L.length + S.size) c4)) P (L ++ s)) := HB5; replace HB6 : Hid (Below P w (w4.setCell ⟨P, 0, none⟩ (.slice a4 (L.length + S.size) c4)) ∧ BK w P (w4.setCell ⟨P, 0, none⟩ (.slice a4 (L.length + S.size) c4))) := HB6; clear O4 G4 E4 hP4)
  refine bodyPost_end (v := .tuple #[]) (by simp [results, Tryz.results93, go_sem]) rfl ?_
  rw [← HL.out]
  exact ⟨rfl, HB5.out, HB6.out⟩
end Go.Proofs.YtlpnegnpejpdkaaGreatDoor

namespace Go.Proofs.YtlpnegnpejpdkaaGreatDoor
open Go.RowKit

/-- A text writer in block P: the table's two rows, what was written, and in which block it lies. -/
def TX (w : World) (P : Nat) (sv gv : Value) (l : Byt) (O : Option Nat) : Prop := ∃ v, w.heap[P]? = some (.cells #[sv, gv, v] 69 (0, 0)) ∧ OwnN EByt 5 (P + 1) (fun _ => False) w v l ∧ v.ownBlock = O
/-- What a writer leaves. -/
structure TO (w : World) (P : Nat) (O : Option Nat) (w' : World) (O' : Option Nat) : Prop where
  own : O' = O ∨ ∃ g, O' = some g ∧ w.heap.size ≤ g
  bel : Below P w w'
  size : w.heap.size ≤ w'.heap.size
  kept : ∀ y, y < w.heap.size → y ≠ P → O ≠ some y → w'.heap[y]? = w.heap[y]?
/-- What a writer's call answers. -/
def TP (w : World) (P : Nat) (sv gv : Value) (l : Byt) (O : Option Nat) (s : Byt) (r : Ending) (w' : World) : Prop := r = .returned (.tuple #[]) ∧ Hid (∃ O', TX w' P sv gv (l ++ s) O' ∧ TO w P O w' O')
theorem TO.refl (w : World) (P : Nat) (O : Option Nat) : TO w P O w O := ⟨.inl rfl, Below.refl _ _, Nat.le_refl _, fun _ _ _ _ => rfl⟩
theorem TO.trans {a b c : World} {P : Nat} {O O' O'' : Option Nat} (h : TO a P O b O') (k : TO b P O' c O'') : TO a P O c O'' := by
  refine ⟨?_, h.bel.trans k.bel, Nat.le_trans h.size k.size, fun y hy hP hO => (k.kept y (Nat.lt_of_lt_of_le hy h.size) hP fun e => ?_).trans (h.kept y hy hP hO)⟩
  · rcases k.own with e | ⟨g, e, hg⟩
    · rw [e]; exact h.own
    · exact .inr ⟨g, e, Nat.le_trans h.size hg⟩
  · rcases h.own with e2 | ⟨g, e2, hg⟩
    · rw [e2] at e; exact hO e
    · rw [e2] at e
      injection e with e
      omega
theorem TX.lt {w : World} {P : Nat} {sv gv : Value} {l : Byt} {O : Option Nat} (h : TX w P sv gv l O) : P < w.heap.size ∧ ∀ g, O = some g → P < g ∧ g < w.heap.size := by
  obtain ⟨v, h1, h2, rfl⟩ := h
  exact ⟨lt_heap h1, fun g e => ⟨(h2.lt g e).1, (h2.lt g e).2⟩⟩
theorem TX.on {w w' : World} {P : Nat} {sv gv : Value} {l : Byt} {O : Option Nat} (h : TX w P sv gv l O) (hb : Below w.heap.size w w') : TX w' P sv gv l O ∧ TO w P O w' O := by
  have hlt := h.lt
  obtain ⟨v, h1, h2, h3⟩ := h
  exact ⟨⟨v, (hb.block P hlt.1).trans h1, h2.on (fun _ h => h.elim) hlt.1 hb, h3⟩, .inl rfl, hb.mono (Nat.le_of_lt hlt.1), hb.size, fun y hy _ _ => hb.block y hy⟩
theorem TP.step {w w' : World} {P : Nat} {sv gv : Value} {l s t : Byt} {O O' : Option Nat} (h1 : TO w P O w' O') {r : Ending} {w2 : World} (h2 : TP w' P sv gv (l ++ s) O' t r w2) : TP w P sv gv l O (s ++ t) r w2 := by
  obtain ⟨e, O2, k1, k2⟩ := h2
  exact ⟨e, O2, by rw [← List.append_assoc]; exact k1, h1.trans k2⟩
theorem tx_put {w : World} {P : Nat} {sv gv v : Value} {L : Byt} (hP : w.heap[P]? = some (.cells #[sv, gv, v] 69 (0, 0))) (hO : w.ownsRow (P + 1) 5 1 v L.length (L.map byteV)) (s : Byt) (v' : Value) (w' : World) (h1 : w'.ownsRow (P + 1) 5 1 v' (L.length + s.length) (L.map byteV ++ s.map byteV)) (h2 : w.grownBy w' v.ownBlock) (h3 : v'.ownBlock = v.ownBlock ∨ ∃ g, v'.ownBlock = some g ∧ w.heap.size ≤ g) :
    w'.heap[P]? = some (.cells #[sv, gv, v] 69 (0, 0)) ∧ Hid (∃ O', TX (w'.setCell ⟨P, 2, none⟩ v') P sv gv (L ++ s) O' ∧ TO w P v.ownBlock (w'.setCell ⟨P, 2, none⟩ v') O') ∧ ∃ a2 c2, v' = .slice a2 (L.length + s.length) c2 := by
  have hb : Below (P + 1) w w' := (Below.refl _ _).grown h2 (lt_heap hP) fun k hk => (hO.lt k hk).1
  rw [← List.map_append, ← List.length_append] at h1
  have O2 := bytes_own h1
  have hPw := (hb.block P (Nat.lt_succ_self P)).trans hP
  obtain ⟨a2, c2, e⟩ := O2.len
  have hb2 := (Below.refl P w').setCell (p := ⟨P, 2, none⟩) (Nat.le_refl P) v'
  have hk : ∀ y, y ≠ P → (w'.setCell ⟨P, 2, none⟩ v').heap[y]? = w'.heap[y]? := fun y hy => Below.heap_setCell _ _ _ _ hy
  refine ⟨hPw, ⟨v'.ownBlock, ⟨v', (setCell_block hPw).trans rfl, ?_, rfl⟩, ⟨h3, (hb.mono (Nat.le_succ P)).trans hb2, by rw [World.size_setCell]; exact h2.size, fun y hy hyP hne => (hk y hyP).trans (h2.block y hy fun e => hne e.symm)⟩⟩, a2, c2, by rw [e, List.length_append]⟩
  have hq : Own EByt 5 (P + 1) (w'.setCell ⟨P, 2, none⟩ v') (Nwr (fun _ => False) (P + 1) w' v') v' (L ++ s) := Own.on O2 (fun y hy => by
    rcases hy with hy | hy
    · exact hy.elim
    · exact hk y (by omega)) fun g e => hk g (by have := (O2.lt g e).1; omega)
  exact hq.up (fun y hy => hy.imp id fun h => ⟨h.1, by rw [World.size_setCell]; exact h.2.1, h.2.2⟩) fun y hy e => by
    rcases hy with hy | hy
    · exact hy.elim
    · exact hy.2.2 e
set_option maxHeartbeats 8000000 in
set_option maxRecDepth 10000 in
theorem put_any {w : World} {P : Nat} {sv gv : Value} {l : Byt} {O : Option Nat} (h : TX w P sv gv l O) (s : Byt) (hl : l.length + s.length ≤ 900000000) : Calls Tryz.prog 106 #[.pointer (some ⟨P, 0, none⟩), .string ⟨s.toArray⟩] w fun r w' => TP w P sv gv l O s r w' := by
  obtain ⟨v, hP, O1, rfl⟩ := h
  obtain ⟨S, hS⟩ : ∃ S : ByteArray, S = ⟨s.toArray⟩ := ⟨_, rfl⟩
  have hsz : S.size = s.length := by rw [hS]; show s.toArray.size = _; rw [List.size_toArray]
  have HSC : Hid (Lib.strCells S = s.map byteV) := by rw [hS]; exact str_cells s
  obtain ⟨ti, hi0, hz0, hk0, hby0⟩ := info_parts (show (Tryz.prog.info? 5).map (fun i => (i.zero, i.size, i.bytes)) = some (some (.int .u8 0), 1, 1) by kernel_rfl)
  rw [← hS]
  have HSZ : Hid (S.size = s.length) := hsz
  have p0 : w.cell? ⟨P, 2, none⟩ = some v := heap_cl hP rfl
  have HO : Hid (w.ownsRow (P + 1) 5 1 v l.length (l.map byteV)) := own_bytes O1
  have HP : Hid (w.heap[P]? = some (.cells #[sv, gv, v] 69 (0, 0))) := hP
  obtain ⟨ad, cap, rfl⟩ := O1.len
  clear hS hsz hP O1
  go_enter Tryz.func106, Tryz.ntmps106
  go_wp2_with (at_builtin; refine wpList_str rfl _ _ rfl hi0 hz0 hk0 hby0 rfl HO.out S rfl (by have := HSZ.out; omega) (lt_heap HP.out) ?_; intro v4 w4 O4 G4 E4; rw [HSC.out, HSZ.out] at O4; obtain ⟨hP4, HB5, a4, c4, e4⟩ := tx_put (L := l) HP.out HO.out s v4 w4 O4 G4 E4; subst e4; have p4 : w4.cell? ⟨P, 2, none⟩ = some (.slice ad l.length cap) := heap_cl hP4 rfl; have f4 : w4.frozen? ⟨P, 2, none⟩ = false := heap_frozen hP4; clear O4 G4 E4)
  refine bodyPost_end (v := .tuple #[]) (by simp [results, Tryz.results106, go_sem]) rfl ?_
  exact ⟨rfl, HB5.out⟩
end Go.Proofs.YtlpnegnpejpdkaaGreatDoor
