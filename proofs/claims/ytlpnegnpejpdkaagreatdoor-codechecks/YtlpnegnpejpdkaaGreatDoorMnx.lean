/- textReader: globals' lists and codes. textReader: globals. -/
import Derived.Test.YtlpnegnpejpdkaaGreatDoorUm
namespace Go.Proofs.YtlpnegnpejpdkaaGreatDoor
open Go.RowKit

/-! A row of numbers. -/
theorem css_int {w : World} {S : Nat → Prop} {css : List (List Value)} {l : List Int} (h : Css EInt w S css l) : css = l.map fun x => [.int .i64 x] := by
  refine List.ext_getElem (by rw [List.length_map]; exact h.1) fun i a b => ?_
  rw [List.getElem_map]
  exact h.2 i a (by rw [List.length_map] at b; exact b)
theorem flat_int (l : List Int) : (l.map fun x => [Value.int .i64 x]).flatten = l.map fun x => Value.int .i64 x := by
  induction l with
  | nil => rfl
  | cons a r ih => show [_] ++ _ = _; rw [ih]; rfl
theorem int_row {w : World} {B : Nat} {v : Value} {l : List Int} (h : OwnN EInt 3 B (fun _ => False) w v l) : w.ownsRow B 3 1 v l.length (l.map fun x => .int .i64 x) := by
  obtain ⟨css, q1, q2⟩ := h.row
  rw [css_int q1, flat_int] at q2
  exact q2
theorem int_own {w : World} {B : Nat} {v : Value} {l : List Int} (h : w.ownsRow B 3 1 v l.length (l.map fun x => .int .i64 x)) : OwnN EInt 3 B (fun _ => False) w v l := by
  refine ⟨⟨l.map fun x => [.int .i64 x], ⟨by simp, fun i a b => by rw [List.getElem_map]; rfl⟩, by rw [flat_int]; exact h⟩, fun y hy e => ?_⟩
  rcases hy with hy | hy
  · exact hy.elim
  · exact hy.2.2 e
theorem int_at {w : World} {B : Nat} {v : Value} {l : List Int} (h : OwnN EInt 3 B (fun _ => False) w v l) {k : Nat} (hk : k < l.length) : ∃ g cap, v = .slice (some ⟨g, 0, none⟩) l.length cap ∧ l.length ≤ cap ∧ w.cell? ⟨g, k, none⟩ = some (.int .i64 l[k]) ∧ w.frozen? ⟨g, k, none⟩ = false ∧ B ≤ g ∧
    ∀ x, OwnN EInt 3 B (fun _ => False) (w.setCell ⟨g, k, none⟩ (.int .i64 x)) v (l.set k x) := by
  obtain ⟨h1, h2⟩ := int_row h
  rcases h2 with ⟨_, h2⟩ | ⟨g, cap, cur, rfl, hB, hg, hc, hm, hs, ht⟩
  · omega
  · rw [Nat.mul_one] at ht hs
    have hkc : k < cur.size := by omega
    have e1 : cur[k]? = some (.int .i64 l[k]) := by
      have : (cur.toList.take l.length)[k]? = (l.map fun x => Value.int .i64 x)[k]? := by rw [ht]
      rw [List.getElem?_take_of_lt hk, List.getElem?_map, List.getElem?_eq_getElem hk] at this
      rw [← Array.getElem?_toList]
      exact this
    refine ⟨g, cap, rfl, hc, heap_cl hg e1, heap_frozen hg, hB, fun x => int_own ?_⟩
    refine ⟨by simp, .inr ⟨g, cap, cur.setIfInBounds k (.int .i64 x), by rw [List.length_set], hB, setCell_block hg, by rw [List.length_set]; exact hc, hm, by rw [Array.size_setIfInBounds, Nat.mul_one]; exact hs, ?_⟩⟩
    rw [Nat.mul_one, List.length_set, Array.toList_setIfInBounds, List.take_set, ht, List.map_set]
theorem name_num_lt (N : List Byt) (F : List Int) (x : Byt) : (nameNum N F x).1 < (nameNum N F x).2.1.length := by
  unfold nameNum
  cases h : posP N x with
  | none => simp
  | some k =>
    show k < N.length
    clear F
    induction N generalizing k with
    | nil => cases h
    | cons a r ih =>
      have h : (if a = x then some 0 else (posP r x).map (· + 1)) = some k := h
      by_cases hx : a = x
      · rw [if_pos hx] at h; cases h; simp
      · rw [if_neg hx] at h
        cases hr : posP r x with
        | none => rw [hr] at h; cases h
        | some j =>
          rw [hr] at h
          cases h
          have := ih j hr
          simp only [List.length_cons]
          omega

/-! What is read. -/
def codeQ (SA : List Byt) : Nat → Byt → List Byt → List Int → Qst (List Ins × Byt)
  | 0, _, _, _ => none
  | k + 1, m, N, F => if opOfP (wordP m).1 = 0 then some (([], (wordP m).1), (wordP m).2, N, F) else bindQ (restQ SA (opOfP (wordP m).1 : Nat) (wordP m).2 N F) fun i m N F => bindQ (codeQ SA k m N F) fun c m N F => some ((i :: c.1, c.2), m, N, F)
/-- The first global of a name. -/
def firstQ (F : List Int) (k j : Nat) : List Int := if F.getD k 0 = -1 then F.set k (j : Int) else F
def glbQ (SA : List Byt) (j : Nat) (m : Byt) (N : List Byt) (F : List Int) : Qst (Glb × Byt) := match nameQ m with
  | some (x, m1) => (match numP' m1 with
    | some (n, m2) => bindQ (codeQ SA (m2.length + 1) m2 (nameNum N F x).2.1 (firstQ (nameNum N F x).2.2 (nameNum N F x).1 j)) fun c m N F => some (((x, n, c.1), c.2), m, N, F)
    | none => none)
  | none => none
theorem bind_q_some {α β : Type} {x : Qst α} {f : α → Byt → List Byt → List Int → Qst β} {y : β × Byt × List Byt × List Int} (h : bindQ x f = some y) : ∃ a m N F, x = some (a, m, N, F) ∧ f a m N F = some y := by
  cases x with
  | none => cases h
  | some p => obtain ⟨a, m, N, F⟩ := p; exact ⟨a, m, N, F, rfl, h⟩
theorem rest_q_len {SA : List Byt} {op : Int} {l : Byt} {N : List Byt} {F : List Int} {i : Ins} {m : Byt} {N' : List Byt} {F' : List Int} (h : restQ SA op l N F = some (i, m, N', F')) : m.length ≤ l.length ∧ N'.length + m.length ≤ N.length + l.length := by
  unfold restQ at h
  split at h
  · obtain ⟨a, m1, N1, F1, h1, h⟩ := bind_q_some h
    obtain ⟨b, m2, N2, F2, h2, h⟩ := bind_q_some h
    cases h
    have k1 := num_q_len h1
    have k2 := num_q_len h2
    omega
  · split at h
    · obtain ⟨a, m1, N1, F1, h1, h⟩ := bind_q_some h
      cases h
      exact num_q_len h1
    · cases h; exact ⟨Nat.le_refl _, Nat.le_refl _⟩
theorem word_both (l : Byt) : (wordP l).1.length + (wordP l).2.length ≤ l.length := by
  have h1 := skip_len l
  have h2 : (skipP l).takeWhile wordB ++ (skipP l).dropWhile wordB = skipP l := List.takeWhile_append_dropWhile
  have h3 := congrArg List.length h2
  rw [List.length_append] at h3
  show ((skipP l).takeWhile wordB).length + ((skipP l).dropWhile wordB).length ≤ _
  omega
theorem seek_ne {L : List Byt} : ∀ (n i : Nat), seekF L n i [] = 0
  | 0, _ => rfl
  | n + 1, i => by
    unfold seekF
    rw [if_neg (fun h => h.2 rfl)]
    exact seek_ne n (i + 1)
theorem op_ne {a : Byt} (h : opOfP a ≠ 0) : 1 ≤ a.length := by
  cases a with
  | nil => exact (h (seek_ne _ _)).elim
  | cons b r => simp
theorem first_len (F : List Int) (k j : Nat) : (firstQ F k j).length = F.length := by
  unfold firstQ
  split
  · exact List.length_set
  · rfl
theorem code_go {SA : List Byt} {β : Type} {K : List Ins × Byt → Byt → List Byt → List Int → Qst β} {T : Qst β} {k : Nat} {done : List Ins} {m0 m1 : Byt} {N N1 : List Byt} {F F1 : List Int} {i : Ins} (h : T = bindQ (codeQ SA (k + 1) m0 N F) fun c m N F => K (done ++ c.1, c.2) m N F) (ho : opOfP (wordP m0).1 ≠ 0) (hi : restQ SA (opOfP (wordP m0).1 : Nat) (wordP m0).2 N F = some (i, m1, N1, F1)) : T = bindQ (codeQ SA k m1 N1 F1) fun c m N F => K ((done ++ [i]) ++ c.1, c.2) m N F := by
  rw [h]
  have e : codeQ SA (k + 1) m0 N F = bindQ (restQ SA (opOfP (wordP m0).1 : Nat) (wordP m0).2 N F) fun i m N F => bindQ (codeQ SA k m N F) fun c m N F => some ((i :: c.1, c.2), m, N, F) := if_neg ho
  rw [e, hi]
  show bindQ (bindQ (codeQ SA k m1 N1 F1) fun c m N F => some ((i :: c.1, c.2), m, N, F)) _ = _
  cases codeQ SA k m1 N1 F1 with
  | none => rfl
  | some p =>
    obtain ⟨c, m, N, F⟩ := p
    show K (done ++ (i :: c.1), c.2) m N F = K ((done ++ [i]) ++ c.1, c.2) m N F
    rw [List.append_assoc]
    rfl
theorem code_no {SA : List Byt} {β : Type} {K : List Ins × Byt → Byt → List Byt → List Int → Qst β} {T : Qst β} {k : Nat} {m0 : Byt} {N : List Byt} {F : List Int} (h : T = bindQ (codeQ SA (k + 1) m0 N F) K) (ho : opOfP (wordP m0).1 ≠ 0) (hi : restQ SA (opOfP (wordP m0).1 : Nat) (wordP m0).2 N F = none) : T = none := by
  rw [h]
  have e : codeQ SA (k + 1) m0 N F = bindQ (restQ SA (opOfP (wordP m0).1 : Nat) (wordP m0).2 N F) fun i m N F => bindQ (codeQ SA k m N F) fun c m N F => some ((i :: c.1, c.2), m, N, F) := if_neg ho
  rw [e, hi]
  rfl
theorem code_end {SA : List Byt} {β : Type} {K : List Ins × Byt → Byt → List Byt → List Int → Qst β} {T : Qst β} {k : Nat} {m0 : Byt} {N : List Byt} {F : List Int} (h : T = bindQ (codeQ SA (k + 1) m0 N F) K) (ho : opOfP (wordP m0).1 = 0) : T = K ([], (wordP m0).1) (wordP m0).2 N F := by
  rw [h]
  have e : codeQ SA (k + 1) m0 N F = some (([], (wordP m0).1), (wordP m0).2, N, F) := if_pos ho
  rw [e]
  rfl
theorem Tryz.ty49 : Ty 49 53 EIns.k 24 := by
  obtain ⟨i, hi, h0, h1, h2⟩ := info_parts (show (Tryz.prog.info? 53).map (fun i => (i.zero, i.size, i.bytes)) = some (some (.agg #[.int .i64 0, .int .i64 0, .int .i64 0]), 3, 24) by kernel_rfl)
  exact ⟨by kernel_rfl, ⟨i, _, hi, h0, h1, h2, rfl⟩, by decide, by decide⟩

/-! The walk's state. -/
structure GS (w wr : World) (R mA mB Z : Nat) (m : Byt) (sv gv fv : Value) (SA N : List Byt) (F : List Int) (raws : List (Byt × Int × Value)) (t : Tab) (x : Byt) (n : Int) (cv : Value) (done : List Ins) : Prop where
  tab : RTab wr R mA mB m sv gv fv SA N F raws t
  z : wr.heap[Z]? = some (.cells #[.string ⟨x.toArray⟩, .int .i64 n, cv] 51 (0, 0))
  cod : OwnN EIns 53 (Z + 1) (fun _ => False) wr cv done
  bel : Below mA w wr
  lt : R < Z
  own : ∀ v ∈ (sv :: gv :: raws.map fun r => r.2.2), ∀ b, v.ownBlock = some b → b < Z
  ne : fv.ownBlock ≠ some Z
  apt : Apt fv cv
theorem GS.call {w wr w' : World} {R mA mB Z : Nat} {m : Byt} {sv gv fv : Value} {SA N : List Byt} {F : List Int} {raws : List (Byt × Int × Value)} {t : Tab} {x : Byt} {n : Int} {cv : Value} {done : List Ins} {m' : Byt} {N' : List Byt} {fv' : Value} {F' : List Int} (h : GS w wr R mA mB Z m sv gv fv SA N F raws t x n cv done) (h1 : RL w' R mA mB m' sv gv SA N' fv' F') (h2 : LO wr R mB fv w' fv') : GS w w' R mA mB Z m' sv gv fv' SA N' F' raws t x n cv done := by
  obtain ⟨l1, l2⟩ := h.tab.rl.lt
  have hZ := lt_heap h.z
  have hlt := h.lt
  refine ⟨h.tab.call h1 h2, (h2.kept Z hZ (by omega) (by omega) h.ne).trans h.z, h.cod.plain (fun _ _ _ _ _ _ h => h) fun b e => ?_, h.bel.trans (h2.bel.mono (by omega)), hlt, h.own, fun e => ?_, fun b e e2 => ?_⟩
  · have := h.cod.lt b e
    exact h2.kept b this.2 (by omega) (by omega) fun e2 => h.apt b e2 e
  · rcases h2.own with e3 | ⟨g, e3, hg⟩
    · exact h.ne (e3 ▸ e)
    · rw [e3] at e
      injection e with e
      omega
  · rcases h2.own with e3 | ⟨g, e3, hg⟩
    · exact h.apt b (e3 ▸ e) e2
    · rw [e3] at e
      injection e with e
      have := (h.cod.lt b e2).2
      omega
theorem GS.grown {w wr w' : World} {R mA mB Z : Nat} {m : Byt} {sv gv fv : Value} {SA N : List Byt} {F : List Int} {raws : List (Byt × Int × Value)} {t : Tab} {x : Byt} {n : Int} {cv : Value} {done : List Ins} (h : GS w wr R mA mB Z m sv gv fv SA N F raws t x n cv done) (hb : Below wr.heap.size wr w') : GS w w' R mA mB Z m sv gv fv SA N F raws t x n cv done :=
  h.call (h.tab.rl.grown hb).1 (h.tab.rl.grown hb).2
/-- One instruction more. -/
theorem GS.ins {w wr w6 : World} {R mA mB Z : Nat} {m : Byt} {sv gv fv : Value} {SA N : List Byt} {F : List Int} {raws : List (Byt × Int × Value)} {t : Tab} {x : Byt} {n : Int} {cv cv' : Value} {done : List Ins} {i : Ins} (h : GS w wr R mA mB Z m sv gv fv SA N F raws t x n cv done) (O6 : OwnN EIns 53 (Z + 1) (fun _ => False) w6 cv' (done ++ [i])) (hb : Below (Z + 1) wr w6) (hk : ∀ y, y < wr.heap.size → cv.ownBlock ≠ some y → w6.heap[y]? = wr.heap[y]?) (G : cv.ownBlock = cv'.ownBlock ∨ ∃ g, cv'.ownBlock = some g ∧ wr.heap.size ≤ g) :
    GS w (w6.setCell ⟨Z, 2, none⟩ cv') R mA mB Z m sv gv fv SA N F raws t x n cv' (done ++ [i]) := by
  obtain ⟨l1, l2⟩ := h.tab.rl.lt
  have hZ := lt_heap h.z
  have hlt := h.lt
  have hs : ∀ y, y ≠ Z → (w6.setCell ⟨Z, 2, none⟩ cv').heap[y]? = w6.heap[y]? := fun y hy => Below.heap_setCell _ _ _ _ hy
  have hz6 : w6.heap[Z]? = _ := (hb.block Z (Nat.lt_succ_self _)).trans h.z
  refine ⟨⟨h.tab.rl.kept fun y hy => ?_, h.tab.tab.kept fun v hv b e => ?_, h.tab.apt⟩, (setCell_block hz6).trans rfl, O6.plain (fun _ _ _ _ _ _ h => h) fun b e => hs b (by have := (O6.lt b e).1; omega), h.bel.trans ((hb.mono (by omega)).setCell (p := ⟨Z, 2, none⟩) (by show mA ≤ Z; omega) _), hlt, h.own, h.ne, apt_symm (apt_new (apt_symm h.apt) (fun b e => (h.tab.rl.f.lt b e).2) G)⟩
  · rcases hy with hy | hy
    · exact (hs y (by omega)).trans (hb.block y (by omega))
    · exact (hs y (fun e => h.ne (e ▸ hy))).trans (hk y (h.tab.rl.f.lt y hy).2 fun e2 => h.apt y hy e2)
  · have := h.own v hv b e
    exact (hs b (by omega)).trans (hb.block b (by omega))
/-- The global joins the others. -/
theorem GS.fin {w w0 wr w6 : World} {R mA mB Z : Nat} {m : Byt} {sv gv fv gv' : Value} {SA N : List Byt} {F : List Int} {raws : List (Byt × Int × Value)} {t : Tab} {x : Byt} {n : Int} {cv : Value} {done : List Ins} (h : GS w wr R mA mB Z m sv gv fv SA N F raws t x n cv done) (h0 : w0.heap.size = Z) (O6 : OwnN EGr 51 (R + 1) (fun _ => False) w6 gv' (raws ++ [(x, n, cv)])) (hb : Below (R + 1) wr w6) (hk : ∀ y, y < wr.heap.size → gv.ownBlock ≠ some y → w6.heap[y]? = wr.heap[y]?) (G : gv.ownBlock = gv'.ownBlock ∨ ∃ g, gv'.ownBlock = some g ∧ wr.heap.size ≤ g) :
    RTab (w6.setCell ⟨R, 2, none⟩ gv') R mA mB m sv gv' fv SA N F (raws ++ [(x, n, cv)]) (t.1, t.2 ++ [(x, n, done)]) ∧ Below mA w (w6.setCell ⟨R, 2, none⟩ gv') := by
  obtain ⟨l1, l2⟩ := h.tab.rl.lt
  have hlt := h.lt
  have hs : ∀ y, y ≠ R → (w6.setCell ⟨R, 2, none⟩ gv').heap[y]? = w6.heap[y]? := fun y hy => Below.heap_setCell _ _ _ _ hy
  have hr6 : w6.heap[R]? = _ := (hb.block R (Nat.lt_succ_self _)).trans h.tab.rl.tb
  have hc : Own EIns 53 w0.heap.size wr (fun _ => False) cv done := by
    obtain ⟨css, q1, q2⟩ := h.cod.row
    rw [h0]
    have h2 : Own EIns 53 (Z + 1) wr (fun _ => False) cv done := ⟨⟨css, ⟨q1.1, fun i a b => q1.2 i a b⟩, q2⟩, fun _ h => h.elim⟩
    exact h2.below (Nat.le_succ Z)
  have hT := h.tab.tab.put (w0 := w0) (w' := w6) (nm := x) (ar := n) (fun v hv b e => by rw [h0]; exact h.own v hv b e) (by omega) hc O6 hk (G.imp (fun e => e.symm) fun e => e)
  obtain ⟨na, hna, ha⟩ := h.tab.rl.a
  obtain ⟨nb, hnb, hm⟩ := h.tab.rl.b
  have hfg := h.tab.apt gv (by simp)
  have hb6 : ∀ y, y < R → (w6.setCell ⟨R, 2, none⟩ gv').heap[y]? = wr.heap[y]? := fun y hy => (hs y (by omega)).trans (hb.block y (by omega))
  refine ⟨⟨⟨(setCell_block hr6).trans rfl, ⟨na, hna, ha.on (hb6 _ (by omega))⟩, ⟨nb, hnb, hm.on (hb6 _ (by omega))⟩, h.tab.rl.f.int_keep fun b e => ?_, ⟨l1, l2⟩, h.tab.rl.len⟩, hT.kept fun v hv b e => hs b ?_, fun v hv => ?_⟩, h.bel.trans ((hb.mono (by omega)).setCell (p := ⟨R, 2, none⟩) (by show mA ≤ R; omega) _)⟩
  · have := h.tab.rl.f.lt b e
    exact (hs b (by omega)).trans (hk b this.2 fun e2 => hfg b e e2)
  · have := hT.ge v hv b e
    omega
  · rw [List.map_append] at hv
    simp only [List.mem_cons, List.mem_append, List.map_cons, List.map_nil, List.not_mem_nil, or_false] at hv
    rcases hv with rfl | rfl | hv | rfl
    · exact h.tab.apt v (by simp)
    · exact apt_symm (apt_new (apt_symm hfg) (fun b e => (h.tab.rl.f.lt b e).2) G)
    · exact h.tab.apt v (by simp only [List.mem_cons]; exact .inr (.inr hv))
    · exact h.apt
def restLen (w : World) (R : Nat) : Nat := match w.cell? ⟨R, 0, none⟩ with
  | some (.string s) => s.size
  | _ => 0
theorem rest_lenQ {w : World} {R mA mB : Nat} {m : Byt} {sv gv fv : Value} {SA N : List Byt} {F : List Int} (h : RL w R mA mB m sv gv SA N fv F) : restLen w R = m.length := by
  unfold restLen
  rw [show w.cell? ⟨R, 0, none⟩ = some (.string ⟨m.toArray⟩) from heap_cl h.tb rfl]
  show m.toArray.size = _
  simp
end Go.Proofs.YtlpnegnpejpdkaaGreatDoor

namespace Go.Proofs.YtlpnegnpejpdkaaGreatDoor
open Go.RowKit

/-- What reading a global leaves. -/
def QG (w : World) (R mA mB : Nat) (sv : Value) (SA : List Byt) (raws : List (Byt × Int × Value)) (t : Tab) (x : Qst (Glb × Byt)) (r : Ending) (w' : World) : Prop := match x with
  | some (p, m, N, F) => ∃ gv' fv' cv, r = .returned (.string ⟨p.2.toArray⟩) ∧ Hid (RTab w' R mA mB m sv gv' fv' SA N F (raws ++ [(p.1.1, p.1.2.1, cv)]) (t.1, t.2 ++ [p.1]) ∧ Below mA w w')
  | none => r = thrown 170 ∧ Hid (Below mA w w')
def endG (x : Byt) (n : Int) (c : List Ins × Byt) (m : Byt) (N : List Byt) (F : List Int) : Qst (Glb × Byt) := some (((x, n, c.1), c.2), m, N, F)
theorem GS.first {w wr : World} {R mA mB Z : Nat} {m : Byt} {sv gv fv : Value} {SA N : List Byt} {F : List Int} {raws : List (Byt × Int × Value)} {t : Tab} {x : Byt} {n : Int} {cv : Value} {done : List Ins} (h : GS w wr R mA mB Z m sv gv fv SA N F raws t x n cv done) {k g c : Nat} (hf : fv = .slice (some ⟨g, 0, none⟩) F.length c) (hg : R + 1 ≤ g) (y : Int) (hn : OwnN EInt 3 (R + 1) (fun _ => False) (wr.setCell ⟨g, k, none⟩ (.int .i64 y)) fv (F.set k y)) :
    GS w (wr.setCell ⟨g, k, none⟩ (.int .i64 y)) R mA mB Z m sv gv fv SA N (F.set k y) raws t x n cv done := by
  obtain ⟨l1, l2⟩ := h.tab.rl.lt
  have hs : ∀ y', y' ≠ g → (wr.setCell ⟨g, k, none⟩ (.int .i64 y)).heap[y']? = wr.heap[y']? := fun y' hy => Below.heap_setCell _ _ _ _ hy
  have hb : Below (R + 1) wr (wr.setCell ⟨g, k, none⟩ (.int .i64 y)) := (Below.refl (R + 1) wr).setCell (p := ⟨g, k, none⟩) hg _
  obtain ⟨na, hna, ha⟩ := h.tab.rl.a
  obtain ⟨nb, hnb, hm⟩ := h.tab.rl.b
  refine h.call ⟨(hs R (by omega)).trans h.tab.rl.tb, ⟨na, hna, ha.on (hs _ (by omega))⟩, ⟨nb, hnb, hm.on (hs _ (by omega))⟩, hn, ⟨l1, l2⟩, by rw [List.length_set]; exact h.tab.rl.len⟩ ⟨.inl rfl, hb.mono (by omega), hb.size, fun y' hy _ _ hO => hs y' fun e => hO (by rw [hf, e]; rfl)⟩
set_option maxHeartbeats 16000000 in
set_option maxRecDepth 10000 in
theorem global_any {w : World} {R mA mB : Nat} {m : Byt} {sv gv fv : Value} {SA N : List Byt} {F : List Int} {raws : List (Byt × Int × Value)} {t : Tab} (h : RTab w R mA mB m sv gv fv SA N F raws t) (hlN : N.length + m.length ≤ 8388608) (hj : t.2.length < 90000000) (hS : ∀ w', Below mA w w' → RdS w') :
    Calls Tryz.prog 89 #[.pointer (some ⟨R, 0, none⟩)] w fun r w' => QG w R mA mB sv SA raws t (glbQ SA t.2.length m N F) r w' := by
  obtain ⟨l1, l2⟩ := h.rl.lt
  obtain ⟨ga, gcap, rfl⟩ := h.tab.glb.len
  have H : Hid (RTab w R mA mB m sv (.slice ga raws.length gcap) fv SA N F raws t) := h
  obtain ⟨T, hT⟩ : ∃ T, T = glbQ SA t.2.length m N F := ⟨_, rfl⟩
  rw [← hT]
  obtain ⟨G, hG⟩ : ∃ G : Ending → World → Prop, G = fun r w' => QG w R mA mB sv SA raws t T r w' := ⟨_, rfl⟩
  rw [← hG]
  have HFN : Hid (∀ w', T = none → Below mA w w' → G (thrown 170) w') := fun w' h1 h2 => by rw [hG, h1]; exact ⟨rfl, h2⟩
  have HFS : Hid (∀ w' p m' N' F' gv' fv' cv, T = some (p, m', N', F') → RTab w' R mA mB m' sv gv' fv' SA N' F' (raws ++ [(p.1.1, p.1.2.1, cv)]) (t.1, t.2 ++ [p.1]) → Below mA w w' → G (.returned (.string ⟨p.2.toArray⟩)) w') := fun w' p m' N' F' gv' fv' cv h1 h2 h3 => by rw [hG, h1]; exact ⟨gv', fv', cv, rfl, h2, h3⟩
  have HS : Hid (∀ w', Below mA w w' → RdS w') := hS
  have HE : Hid (T = match nameQ m with
  | some (x, m1) => (match numP' m1 with
    | some (n, m2) => bindQ (codeQ SA (m2.length + 1) m2 (nameNum N F x).2.1 (firstQ (nameNum N F x).2.2 (nameNum N F x).1 t.2.length)) fun c m N F => some (((x, n, c.1), c.2), m, N, F)
    | none => none)
  | none => none) := hT
  have CN := qname_any h.rl.tb (by omega)
  clear hG hS hT
  cases hnm : nameQ m with
  | none =>
    rw [hnm] at CN
    replace CN : Calls Tryz.prog 112 #[.pointer (some ⟨R, 0, none⟩)] w fun r w' => r = .panicked [{ v := .iface 28 (.int .i64 170), recovered := false }] ∧ Hid (Rk w R w') := CN
    have HE2 : Hid (T = none) := by show _ = _; rw [HE.out, hnm]
    clear HE hnm h
    go_enter Tryz.func89, Tryz.ntmps89
    go_wp2_with (go_at_call 112; (with_reducible refine Calls.mono CN ?_); rintro e2 w2 ⟨rfl, H2⟩)
    exact ⟨rfl, HFN.out _ HE2.out (H2.out.1.mono (by omega))⟩
  | some p =>
    obtain ⟨x, m1⟩ := p
    rw [hnm] at CN
    replace CN : Calls Tryz.prog 112 #[.pointer (some ⟨R, 0, none⟩)] w fun r w' => r = .returned (.string ⟨x.toArray⟩) ∧ Hid (TB w' R m1 sv (.slice ga raws.length gcap) (.map (some mA)) (.map (some mB)) fv ∧ Rk w R w') := CN
    have hxl := name_q_len hnm
    have hm1 : m1.length + 2 ≤ m.length := name_q_left hnm
    have CQ : ∀ w2, TB w2 R m1 sv (.slice ga raws.length gcap) (.map (some mA)) (.map (some mB)) fv → Below mA w w2 → Calls Tryz.prog 113 #[.pointer (some ⟨R, 0, none⟩)] w2 fun r w' => QN w2 R sv (.slice ga raws.length gcap) (.map (some mA)) (.map (some mB)) fv (numP' m1) r w' := fun w2 h1 h2 => qnum_any h1 (by omega) fun w' hb => (HS.out w' (h2.trans (hb.mono (by omega)))).num
    cases hnu : numP' m1 with
    | none =>
      rw [hnu] at CQ
      replace CQ : ∀ w2, TB w2 R m1 sv (.slice ga raws.length gcap) (.map (some mA)) (.map (some mB)) fv → Below mA w w2 → Calls Tryz.prog 113 #[.pointer (some ⟨R, 0, none⟩)] w2 fun r w' => r = .panicked [{ v := .iface 28 (.int .i64 170), recovered := false }] ∧ Hid (Rk w2 R w') := CQ
      have HE2 : Hid (T = none) := by show _ = _; rw [HE.out, hnm]; simp only [hnu]
      clear HE hnm h hnu
      go_enter Tryz.func89, Tryz.ntmps89
      go_wp2_with (first | (go_at_call 112; (with_reducible refine Calls.mono CN ?_); rintro e2 w2 ⟨rfl, H2⟩; have C2 := CQ w2 H2.out.1 (H2.out.2.1.mono (by omega)); clear CN CQ) | (go_at_call 113; (with_reducible refine Calls.mono C2 ?_); rintro e3 w3 ⟨rfl, H3⟩))
      exact ⟨rfl, HFN.out _ HE2.out ((H2.out.2.1.mono (by omega)).trans (H3.out.1.mono (by omega)))⟩
    | some p =>
      obtain ⟨n, m2⟩ := p
      rw [hnu] at CQ
      replace CQ : ∀ w2, TB w2 R m1 sv (.slice ga raws.length gcap) (.map (some mA)) (.map (some mB)) fv → Below mA w w2 → Calls Tryz.prog 113 #[.pointer (some ⟨R, 0, none⟩)] w2 fun r w' => r = .returned (.int .i64 n) ∧ Hid (TB w' R m2 sv (.slice ga raws.length gcap) (.map (some mA)) (.map (some mB)) fv ∧ Rk w2 R w') := CQ
      have HT0 : Hid (T = bindQ (codeQ SA (m2.length + 1) m2 (nameNum N F x).2.1 (firstQ (nameNum N F x).2.2 (nameNum N F x).1 t.2.length)) fun c m N F => endG x n c m N F) := by show _ = _; rw [HE.out, hnm]; simp only [hnu]; rfl
      have hm2 : m2.length ≤ m1.length := num_p_len hnu
      have hN1 := name_num_len N F x
      have hK := name_num_lt N F x
      have CM : ∀ w', RL w' R mA mB m2 sv (.slice ga raws.length gcap) SA N fv F → Calls Tryz.prog 114 #[.pointer (some ⟨R, 0, none⟩), .string ⟨x.toArray⟩] w' _ := fun w' h1 => nname_any h1 x hxl (by omega)
      generalize nameNum N F x = q at *
      obtain ⟨k, N1, F1⟩ := q
      replace hN1 : N1.length ≤ N.length + 1 := hN1
      replace hK : k < N1.length := hK
      replace HT0 : Hid (T = bindQ (codeQ SA (m2.length + 1) m2 N1 (firstQ F1 k t.2.length)) fun c m N F => endG x n ([] ++ c.1, c.2) m N F) := HT0
      replace CM : ∀ w', RL w' R mA mB m2 sv (.slice ga raws.length gcap) SA N fv F → Calls Tryz.prog 114 #[.pointer (some ⟨R, 0, none⟩), .string ⟨x.toArray⟩] w' fun r w2 => ∃ fv', r = .returned (.int .i64 (k : Nat)) ∧ Hid (RL w2 R mA mB m2 sv (.slice ga raws.length gcap) SA N1 fv' F1 ∧ LO w' R mB fv w2 fv') := CM
      have HL : Hid (N1.length + m2.length ≤ 8388608) := by show _ ≤ _; omega
      clear HE hnm h hnu hm1 hm2 hN1
      go_enter Tryz.func89, Tryz.ntmps89
      go_upto_region 2 with (first | (go_at_call 112; (with_reducible refine Calls.mono CN ?_); rintro e2 w2 ⟨rfl, H2⟩; have C2 := CQ w2 H2.out.1 (H2.out.2.1.mono (by omega)); have HR2 : Hid (RTab w2 R mA mB m1 sv (.slice ga raws.length gcap) fv SA N F raws t ∧ Below mA w w2) := ⟨H.out.call (H.out.rl.on_rk H2.out.1 H2.out.2).1 (H.out.rl.on_rk H2.out.1 H2.out.2).2, H2.out.2.1.mono (by omega)⟩; clear CN CQ H2) | (go_at_call 113; (with_reducible refine Calls.mono C2 ?_); rintro e3 w3 ⟨rfl, H3⟩; have HR3 : Hid (RTab w3 R mA mB m2 sv (.slice ga raws.length gcap) fv SA N F raws t ∧ Below mA w w3) := ⟨HR2.out.1.call (HR2.out.1.rl.on_rk H3.out.1 H3.out.2).1 (HR2.out.1.rl.on_rk H3.out.1 H3.out.2).2, HR2.out.2.trans (H3.out.2.1.mono (by omega))⟩; clear C2 H3 HR2))
      obtain ⟨Z, hZ⟩ : ∃ Z, Z = w3.heap.size := ⟨_, rfl⟩
      rw [← hZ]
      have HZ : Hid (w3.heap.size = Z) := hZ.symm
      obtain ⟨W, hW⟩ : ∃ W, W = w3.alloc (.cells #[.string ⟨x.toArray⟩, .int .i64 n, .slice none 0 0] 51) := ⟨_, rfl⟩
      have HA : Hid (GS w W R mA mB Z m2 sv (.slice ga raws.length gcap) fv SA N F raws t x n (.slice none 0 0) []) := by
        rw [hW, hZ]
        have hR3 := lt_heap HR3.out.1.rl.tb
        exact ⟨HR3.out.1.grown ((Below.refl _ _).alloc (Nat.le_refl _) _), new_blk _ _, OwnN.nil _ _ _ _ _, HR3.out.2.alloc (by omega) _, hR3, fun v hv b e => HR3.out.1.tab.lt v hv b e, fun e => Nat.lt_irrefl _ (HR3.out.1.rl.f.lt _ e).2, fun b _ e2 => by cases e2⟩
      rw [← hW]
      clear HR3 hW hZ H
      have z0 : W.cell? ⟨Z, 0, none⟩ = some (.string ⟨x.toArray⟩) := heap_cl HA.out.z rfl
      have C3 := CM W HA.out.tab.rl
      clear CM
      go_upto_region 3 with (go_at_call 114; (with_reducible refine Calls.mono C3 ?_); rintro e4 w4 ⟨fv4, rfl, H4⟩; have HB : Hid (GS w w4 R mA mB Z m2 sv (.slice ga raws.length gcap) fv4 SA N1 F1 raws t x n (.slice none 0 0) []) := HA.out.call H4.out.1 H4.out.2; clear C3 H4)
      clear HA z0
      rename_i K5 a5 K3 a3
      have hK5 : ∀ (t1 t2 t4 t5 t6 t7 t8 t9 t10 t11 t12 t13 t14 t15 t16 t17 t18 t19 t20 t21 t22 t23 t24 t25 t26 t27 t28 t29 t30 t31 t32 t33 t34 t35 : Value) (W5 : World) (fv5 : Value), Hid (GS w W5 R mA mB Z m2 sv (.slice ga raws.length gcap) fv5 SA N1 (firstQ F1 k t.2.length) raws t x n (.slice none 0 0) []) → K5 { tmps := #[.pointer (some ⟨R, 0, none⟩), t1, t2, .pointer (some ⟨Z, 0, none⟩), t4, t5, t6, t7, t8, t9, t10, t11, t12, t13, t14, t15, t16, t17, t18, t19, t20, t21, t22, t23, t24, t25, t26, t27, t28, t29, t30, t31, t32, t33, t34, t35, undef, undef, undef, undef, undef, undef, undef, undef, undef, undef, undef, undef, undef, undef, undef, undef, undef, undef, undef, undef, undef, undef, undef, undef, undef, undef, undef, undef, undef, undef, undef, undef], defers := [] } W5 := by
        intro t1 t2 t4 t5 t6 t7 t8 t9 t10 t11 t12 t13 t14 t15 t16 t17 t18 t19 t20 t21 t22 t23 t24 t25 t26 t27 t28 t29 t30 t31 t32 t33 t34 t35 W5 fv5 HC
        refine a5 _ _ ?_
        clear a5 a3 HB K3 K5
        have HF1 : Hid (F1.length = N1.length) := by have := HC.out.tab.rl.len; rw [first_len] at this; exact this
        generalize firstQ F1 k t.2.length = F2 at *
        have CW := word_any HC.out.tab.rl.tb (by have := HL.out; omega)
        have HWL := word_both m2
        have HW0 : Hid (wordP m2 = ((wordP m2).1, (wordP m2).2)) := rfl
        generalize (wordP m2).1 = a0 at *
        generalize (wordP m2).2 = m3 at *
        go_upto_region 6 with (go_at_call 87; (with_reducible refine Calls.mono CW ?_); rintro e6 w6 ⟨rfl, H6⟩; have HD : Hid (GS w w6 R mA mB Z m3 sv (.slice ga raws.length gcap) fv5 SA N1 F2 raws t x n (.slice none 0 0) []) := HC.out.call (HC.out.tab.rl.on_rk H6.out.1 H6.out.2).1 (HC.out.tab.rl.on_rk H6.out.1 H6.out.2).2; clear H6 CW)
        clear HC
        obtain ⟨_, ⟨rd, rcap, hrw⟩, _⟩ := HS.out w6 HD.out.bel
        have CO := opOf_any hrw a0
        clear hrw
        go_upto_region 7 with (go_at_call 115; (with_reducible refine Calls.mono CO ?_); rintro e7 w7 ⟨rfl, H7⟩; have HE : Hid (GS w w7 R mA mB Z m3 sv (.slice ga raws.length gcap) fv5 SA N1 F2 raws t x n (.slice none 0 0) []) := HD.out.grown H7.out; clear H7 CO)
        clear HD
        go_loopw [5, 6] (fun av ov wr => ∃ (done : List Ins) (ca : Option Addr) (cc : Nat) (fvx : Value) (k' : Nat) (m0 a m' : Byt) (Nx : List Byt) (Fx : List Int), av = .string ⟨a.toArray⟩ ∧ ov = .int .i64 (opOfP a : Nat) ∧ Hid (GS w wr R mA mB Z m' sv (.slice ga raws.length gcap) fvx SA Nx Fx raws t x n (.slice ca done.length cc) done) ∧ Hid (wordP m0 = (a, m')) ∧ Hid (T = bindQ (codeQ SA (k' + 1) m0 Nx Fx) fun c m N F => endG x n (done ++ c.1, c.2) m N F) ∧ Hid (m0.length ≤ k' ∧ Nx.length + m0.length ≤ 8388608 ∧ done.length + m0.length ≤ 8388608 ∧ a.length + m'.length ≤ m0.length)) (fun av _ wr => Lib.strSize av + restLen wr R)
        case atStart => exact ⟨[], none, 0, fv5, m2.length, m2, a0, m3, N1, F2, rfl, rfl, HE.out, HW0.out, HT0.out, Nat.le_refl _, HL.out, by have := HL.out; simp only [List.length_nil]; omega, HWL⟩
        case round =>
          clear HE HW0 HT0 HWL HL HF1
          obtain ⟨done, ca, cc, fvx, k', m0, a, m', Nx, Fx, rfl, rfl, HG, HW0, HT0, HL⟩ := hrel
          have hml := rest_lenQ HG.out.tab.rl
          have hms : (⟨a.toArray⟩ : ByteArray).size = a.length := by show a.toArray.size = _; simp
          have HMS : Hid (Lib.strSize (.string ⟨a.toArray⟩) + restLen wr R = a.length + m'.length) := by show _ = _; rw [hml]; show (⟨a.toArray⟩ : ByteArray).size + _ = _; rw [hms]
          clear hml hms
          by_cases ho : opOfP a = 0
          · have HTE : Hid (T = some (((x, n, done), a), m', Nx, Fx)) := by
              have := code_end HT0.out (by rw [HW0.out]; exact ho)
              rw [HW0.out] at this
              show _ = _
              rw [this]
              show some (((x, n, done ++ []), a), m', Nx, Fx) = _
              rw [List.append_nil]
            rw [ho]
            clear ho HT0 HW0 HMS
            go_upto_region 11 with fail
            obtain ⟨D, hD⟩ : ∃ X : World, X = wr.drew := ⟨_, rfl⟩
            have HD : Hid (GS w D R mA mB Z m' sv (.slice ga raws.length gcap) fvx SA Nx Fx raws t x n (.slice ca done.length cc) done) := by rw [hD]; exact HG.out.call (HG.out.tab.rl.kept fun _ _ => rfl) ⟨.inl rfl, (Below.refl _ _).drew, Nat.le_refl _, fun _ _ _ _ _ => rfl⟩
            have hS0 : (fun w' : World => w'.cell? ⟨R, 2, none⟩ = some (.slice ga raws.length gcap) ∧ w'.cell? ⟨Z, 0, none⟩ = some (.string ⟨x.toArray⟩) ∧ w'.cell? ⟨Z, 1, none⟩ = some (.int .i64 n) ∧ w'.cell? ⟨Z, 2, none⟩ = some (.slice ca done.length cc)) D := ⟨heap_cl HD.out.tab.rl.tb rfl, heap_cl HD.out.z rfl, heap_cl HD.out.z rfl, heap_cl HD.out.z rfl⟩
            clear HG
            refine wp_region_M (S := (fun w' : World => w'.cell? ⟨R, 2, none⟩ = some (.slice ga raws.length gcap) ∧ w'.cell? ⟨Z, 0, none⟩ = some (.string ⟨x.toArray⟩) ∧ w'.cell? ⟨Z, 1, none⟩ = some (.int .i64 n) ∧ w'.cell? ⟨Z, 2, none⟩ = some (.slice ca done.length cc))) (L := 12) (n := 13) (by kernel_rfl) rfl (by kernel_rfl) ?_
            rw [← hD]
            clear hD
            refine wpAnyK_go (i := 0) (m' := 1) (some 55) (v := .pointer (some ⟨R, 0, none⟩)) rfl rfl (by kernel_rfl) (by kernel_rfl) (by kernel_rfl) (by kernel_rfl) (by kernel_rfl) (fun _ _ _ h => h) (Or.inl ⟨by rfl, ?_⟩) hS0 ?_
            · intro w' hSw
              go_simp
            try simp only [Act.put, List.setIfInBounds_toArray, List.set_cons_zero, List.set_cons_succ]
            refine wpAnyK_go (i := 1) (m' := 3) (some 56) (v := .pointer (some ⟨R, 0, none⟩)) rfl rfl (by kernel_rfl) (by kernel_rfl) (by kernel_rfl) (by kernel_rfl) (by kernel_rfl) (fun _ _ _ h => h) (Or.inl ⟨by rfl, ?_⟩) hS0 ?_
            · intro w' hSw
              go_simp
            try simp only [Act.put, List.setIfInBounds_toArray, List.set_cons_zero, List.set_cons_succ]
            refine wpAnyK_go (i := 2) (m' := 7) (some 57) (v := .pointer (some ⟨R, 0, none⟩)) rfl rfl (by kernel_rfl) (by kernel_rfl) (by kernel_rfl) (by kernel_rfl) (by kernel_rfl) (fun _ _ _ h => h) (Or.inl ⟨by rfl, ?_⟩) hS0 ?_
            · intro w' hSw
              go_simp
            try simp only [Act.put, List.setIfInBounds_toArray, List.set_cons_zero, List.set_cons_succ]
            refine wpAnyK_go (i := 3) (m' := 15) (some 58) (v := .pointer (some ⟨R, 1, none⟩)) rfl rfl (by kernel_rfl) (by kernel_rfl) (by kernel_rfl) (by kernel_rfl) (by kernel_rfl) (fun _ _ _ h => h) (Or.inl ⟨by rfl, ?_⟩) hS0 ?_
            · intro w' hSw
              go_simp
            try simp only [Act.put, List.setIfInBounds_toArray, List.set_cons_zero, List.set_cons_succ]
            refine wpAnyK_go (i := 4) (m' := 31) (some 59) (v := .pointer (some ⟨R, 2, none⟩)) rfl rfl (by kernel_rfl) (by kernel_rfl) (by kernel_rfl) (by kernel_rfl) (by kernel_rfl) (fun _ _ _ h => h) (Or.inl ⟨by rfl, ?_⟩) hS0 ?_
            · intro w' hSw
              go_simp
            try simp only [Act.put, List.setIfInBounds_toArray, List.set_cons_zero, List.set_cons_succ]
            refine wpAnyK_go (i := 5) (m' := 63) (some 60) (v := .slice ga raws.length gcap) rfl rfl (by kernel_rfl) (by kernel_rfl) (by kernel_rfl) (by kernel_rfl) (by kernel_rfl) (fun _ _ _ h => h) (Or.inl ⟨by rfl, ?_⟩) hS0 ?_
            · intro w' hSw
              obtain ⟨p0, p1, p2, p3⟩ := hSw
              go_simp
            try simp only [Act.put, List.setIfInBounds_toArray, List.set_cons_zero, List.set_cons_succ]
            refine wpAnyK_go (i := 6) (m' := 127) (some 61) (v := .agg #[.string ⟨x.toArray⟩, .int .i64 n, .slice ca done.length cc]) rfl rfl (by kernel_rfl) (by kernel_rfl) (by kernel_rfl) (by kernel_rfl) (by kernel_rfl) (fun _ _ _ h => h) (Or.inl ⟨by rfl, ?_⟩) hS0 ?_
            · intro w' hSw
              obtain ⟨p0, p1, p2, p3⟩ := hSw
              go_simp
            try simp only [Act.put, List.setIfInBounds_toArray, List.set_cons_zero, List.set_cons_succ]
            refine wpAnyK_only (i := 7) (m' := 255) (by kernel_rfl) rfl (by kernel_rfl) fun K hK => ?_
            go_simp
            have hb5 : Below D.heap.size D (D.alloc (.cells #[.string ⟨x.toArray⟩, .int .i64 n, .slice ca done.length cc] 51)) := (Below.refl _ _).alloc (Nat.le_refl _) _
            have hz5 := (hb5.block Z (lt_heap HD.out.z)).trans HD.out.z
            refine hK.out _ _ (fun _ => ⟨heap_cl ((hb5.block R (lt_heap HD.out.tab.rl.tb)).trans HD.out.tab.rl.tb) rfl, heap_cl hz5 rfl, heap_cl hz5 rfl, heap_cl hz5 rfl⟩) ?_
            clear hK K hb5 hz5
            try simp only [Act.put, List.setIfInBounds_toArray, List.set_cons_zero, List.set_cons_succ]
            refine wpAnyK_only (i := 8) (m' := 511) (by kernel_rfl) rfl (by kernel_rfl) fun K hK => ?_
            refine step_append_N2 (E := EGr) (B := R + 1) (S := fun _ => False) (w1 := D) (w2 := D) (cs := [.string ⟨x.toArray⟩, .int .i64 n, .slice ca done.length cc]) (p := (x, n, .slice ca done.length cc)) (l := raws) (v := .slice ga raws.length gcap) Tryz.ty23 rfl _ _ rfl rfl HD.out.tab.tab.glb (fun _ h => h.elim) (lt_heap HD.out.tab.rl.tb) (Below.refl _ _) D.heap.size rfl rfl ⟨rfl, by show x.length < _; omega, rfl⟩ (by have := HD.out.tab.tab.len; omega) ?_
            intro g c6 w6 O6 H6
            have hR6 : w6.heap[R]? = _ := (H6.out.1.block R (Nat.lt_succ_self _)).trans HD.out.tab.rl.tb
            have hZ6 : w6.heap[Z]? = _ := (H6.out.2.1 Z (lt_heap HD.out.z) (fun e => Nat.lt_irrefl Z (HD.out.own (.slice ga raws.length gcap) (by simp) Z e))).trans HD.out.z
            have HR6 : Hid (_ ∧ _) := HD.out.fin (w0 := w3) (gv' := .slice (some ⟨g, 0, none⟩) (raws.length + 1) c6) HZ.out O6 H6.out.1 H6.out.2.1 (H6.out.2.2.1.imp (fun e => e) fun e => ⟨g, rfl, e⟩)
            have hS6 : (fun w' : World => w'.cell? ⟨R, 2, none⟩ = some (.slice ga raws.length gcap) ∧ w'.cell? ⟨Z, 0, none⟩ = some (.string ⟨x.toArray⟩) ∧ w'.cell? ⟨Z, 1, none⟩ = some (.int .i64 n) ∧ w'.cell? ⟨Z, 2, none⟩ = some (.slice ca done.length cc)) w6 := ⟨heap_cl hR6 rfl, heap_cl hZ6 rfl, heap_cl hZ6 rfl, heap_cl hZ6 rfl⟩
            refine hK.out _ _ (fun _ => hS6) ?_
            clear hK K H6 O6 hS0 hZ6
            try simp only [Act.put, List.setIfInBounds_toArray]
            refine wpAnyK_only (i := 9) (m' := 1023) (by kernel_rfl) rfl (by kernel_rfl) fun K hK => ?_
            go_simp
            refine hK.out _ _ (fun _ => hS6) ?_
            clear hK K
            try simp only [Act.put, List.setIfInBounds_toArray, List.set_cons_zero, List.set_cons_succ]
            refine wpAnyK_only (i := 10) (m' := 2047) (by kernel_rfl) rfl (by kernel_rfl) fun K hK => ?_
            go_simp
            refine hK.out _ _ (fun _ => hS6) ?_
            clear hK K
            try simp only [Act.put, List.setIfInBounds_toArray, List.set_cons_zero, List.set_cons_succ]
            refine wpAnyK_only (i := 11) (m' := 4095) (by kernel_rfl) rfl (by kernel_rfl) fun K hK => ?_
            go_simp
            refine hK.out _ _ (fun _ => hS6) ?_
            clear hK K
            try simp only [Act.put, List.setIfInBounds_toArray, List.set_cons_zero, List.set_cons_succ]
            have f6 : w6.frozen? ⟨R, 2, none⟩ = false := heap_frozen hR6
            have p6 : w6.cell? ⟨R, 2, none⟩ = some (.slice ga raws.length gcap) := heap_cl hR6 rfl
            refine wpAnyK_only (i := 12) (m' := 8191) (by kernel_rfl) rfl (by kernel_rfl) fun K hK => ?_
            go_simp
            refine hK.out _ _ (fun h => absurd rfl h) ?_
            clear hK K hR6 f6 p6 hS6
            refine wpAnyK_done (by kernel_rfl) ?_ _
            go_wp2
            exact HFS.out _ ((x, n, done), a) m' Nx Fx _ _ _ HTE.out HR6.out.1 HR6.out.2
          · have hop := op_of_ok ho
            have hoi : ¬ ((opOfP a : Int) = 0) := by omega
            have HO : Hid (opOfP a ≠ 0 ∧ 1 ≤ a.length) := ⟨ho, op_ne ho⟩
            have HWE : Hid ((wordP m0).1 = a ∧ (wordP m0).2 = m') := by show _ ∧ _; rw [HW0.out]; exact ⟨rfl, rfl⟩
            clear ho HW0
            go_upto_region 9 with fail
            obtain ⟨D, hD⟩ : ∃ X : World, X = wr.drew := ⟨_, rfl⟩
            have HD : Hid (GS w D R mA mB Z m' sv (.slice ga raws.length gcap) fvx SA Nx Fx raws t x n (.slice ca done.length cc) done) := by rw [hD]; exact HG.out.call (HG.out.tab.rl.kept fun _ _ => rfl) ⟨.inl rfl, (Below.refl _ _).drew, Nat.le_refl _, fun _ _ _ _ _ => rfl⟩
            have hS0 : (fun w' : World => w'.cell? ⟨Z, 2, none⟩ = some (.slice ca done.length cc)) D := heap_cl HD.out.z rfl
            clear HG
            refine wp_region_M (S := (fun w' : World => w'.cell? ⟨Z, 2, none⟩ = some (.slice ca done.length cc))) (L := 9) (n := 10) (by kernel_rfl) rfl (by kernel_rfl) ?_
            rw [← hD]
            clear hD
            have CI := qins HD.out.tab.rl (by have := HL.out; omega) (fun w' hb => HS.out w' (HD.out.bel.trans (hb.mono (by omega)))) (opOfP a) hop
            clear hop
            refine wpAnyK_go (i := 0) (m' := 1) (some 44) (v := .pointer (some ⟨Z, 2, none⟩)) rfl rfl (by kernel_rfl) (by kernel_rfl) (by kernel_rfl) (by kernel_rfl) (by kernel_rfl) (fun _ _ _ h => h) (Or.inl ⟨by rfl, ?_⟩) hS0 ?_
            · intro w' hSw
              go_simp
            try simp only [Act.put, List.setIfInBounds_toArray, List.set_cons_zero, List.set_cons_succ]
            refine wpAnyK_go (i := 1) (m' := 3) (some 45) (v := .slice ca done.length cc) rfl rfl (by kernel_rfl) (by kernel_rfl) (by kernel_rfl) (by kernel_rfl) (by kernel_rfl) (fun _ _ _ h => h) (Or.inl ⟨by rfl, ?_⟩) hS0 ?_
            · intro w' hSw
              have p0 := hSw
              go_simp
            try simp only [Act.put, List.setIfInBounds_toArray, List.set_cons_zero, List.set_cons_succ]
            refine wpAnyK_go (i := 2) (m' := 7) (some 46) (v := .int .i64 (opOfP a : Nat)) rfl rfl (by kernel_rfl) (by kernel_rfl) (by kernel_rfl) (by kernel_rfl) (by kernel_rfl) (fun _ _ _ h => h) (Or.inl ⟨by rfl, ?_⟩) hS0 ?_
            · intro w' hSw
              go_simp
            try simp only [Act.put, List.setIfInBounds_toArray, List.set_cons_zero, List.set_cons_succ]
            refine wpAnyK_go (i := 3) (m' := 15) (some 47) (v := .pointer (some ⟨R, 0, none⟩)) rfl rfl (by kernel_rfl) (by kernel_rfl) (by kernel_rfl) (by kernel_rfl) (by kernel_rfl) (fun _ _ _ h => h) (Or.inl ⟨by rfl, ?_⟩) hS0 ?_
            · intro w' hSw
              go_simp
            try simp only [Act.put, List.setIfInBounds_toArray, List.set_cons_zero, List.set_cons_succ]
            refine wpAnyK_go (i := 4) (m' := 31) (some 48) (v := .func (.func 117) #[.pointer (some ⟨R, 0, none⟩)] #[]) rfl rfl (by kernel_rfl) (by kernel_rfl) (by kernel_rfl) (by kernel_rfl) (by kernel_rfl) (fun _ _ _ h => h) (Or.inl ⟨by rfl, ?_⟩) hS0 ?_
            · intro w' hSw
              go_simp
            try simp only [Act.put, List.setIfInBounds_toArray, List.set_cons_zero, List.set_cons_succ]
            refine wpAnyK_only (i := 5) (m' := 63) (by kernel_rfl) rfl (by kernel_rfl) fun K hK => ?_
            go_simp
            cases hi : restQ SA (opOfP a : Nat) m' Nx Fx with
            | none =>
              rw [hi] at CI
              replace CI : Calls Tryz.prog 116 #[.int .i64 (opOfP a : Nat), .func (.func 117) #[.pointer (some ⟨R, 0, none⟩)] #[]] D fun r w' => r = .panicked [{ v := .iface 28 (.int .i64 170), recovered := false }] ∧ Hid (Below mB D w') := CI
              (with_reducible refine Calls.mono CI ?_)
              rintro e9 w9 ⟨rfl, H9⟩
              go_simp
              show bodyPost Tryz.prog Tryz.f89 G (.panic [{ v := .iface 28 (.int .i64 170), recovered := false }]) _ w9
              exact ⟨rfl, HFN.out _ (code_no HT0.out (by rw [HWE.out.1]; exact HO.out.1) (by rw [HWE.out.1, HWE.out.2]; exact hi)) (HD.out.bel.trans (H9.out.mono (by omega)))⟩
            | some p =>
              obtain ⟨⟨i0, i1, i2⟩, m6, N6, F6⟩ := p
              obtain ⟨n1, n2⟩ := rest_q_len hi
              have hfuel : ∃ k2, k' = k2 + 1 := ⟨k' - 1, by have := HL.out; have := HO.out.2; omega⟩
              obtain ⟨k2, rfl⟩ := hfuel
              have HT6 : Hid (T = bindQ (codeQ SA (k2 + 1) m6 N6 F6) fun c m N F => endG x n ((done ++ [(i0, i1, i2)]) ++ c.1, c.2) m N F) := code_go HT0.out (by rw [HWE.out.1]; exact HO.out.1) (by rw [HWE.out.1, HWE.out.2]; exact hi)
              have HL6 : Hid (m6.length ≤ k2 ∧ N6.length + m6.length ≤ 8388608 ∧ (done ++ [(i0, i1, i2)]).length + m6.length ≤ 8388608 ∧ m6.length < a.length + m'.length) := by
                have h1 := HL.out
                have h2 := HO.out.2
                show _ ∧ _ ∧ _ ∧ _
                rw [List.length_append]
                simp only [List.length_cons, List.length_nil]
                omega
              rw [hi] at CI
              replace CI : Calls Tryz.prog 116 #[.int .i64 (opOfP a : Nat), .func (.func 117) #[.pointer (some ⟨R, 0, none⟩)] #[]] D fun r w' => ∃ fv', r = .returned (.agg #[.int .i64 i0, .int .i64 i1, .int .i64 i2]) ∧ Hid (RL w' R mA mB m6 sv (.slice ga raws.length gcap) SA N6 fv' F6 ∧ LO D R mB fvx w' fv') := CI
              have hdl : done.length + 1 ≤ 100000000 := by have := HL.out; omega
              clear HT0 HL hi n1 n2 HO HWE
              (with_reducible refine Calls.mono CI ?_)
              rintro e9 w9 ⟨fv9, rfl, H9⟩
              go_simp
              have HG9 : Hid (GS w w9 R mA mB Z m6 sv (.slice ga raws.length gcap) fv9 SA N6 F6 raws t x n (.slice ca done.length cc) done) := HD.out.call H9.out.1 H9.out.2
              have hS9 : (fun w' : World => w'.cell? ⟨Z, 2, none⟩ = some (.slice ca done.length cc)) w9 := heap_cl HG9.out.z rfl
              refine hK.out _ _ (fun _ => hS9) ?_
              clear hK K CI hS0 H9 HD
              try simp only [Act.put, List.setIfInBounds_toArray, List.set_cons_zero, List.set_cons_succ]
              refine wpAnyK_only (i := 6) (m' := 127) (by kernel_rfl) rfl (by kernel_rfl) fun K hK => ?_
              go_simp
              have hb5 : Below w9.heap.size w9 (w9.alloc (.cells #[.int .i64 i0, .int .i64 i1, .int .i64 i2] 53)) := (Below.refl _ _).alloc (Nat.le_refl _) _
              refine hK.out _ _ (fun _ => heap_cl ((hb5.block Z (lt_heap HG9.out.z)).trans HG9.out.z) rfl) ?_
              clear hK K hb5
              try simp only [Act.put, List.setIfInBounds_toArray, List.set_cons_zero, List.set_cons_succ]
              refine wpAnyK_only (i := 7) (m' := 255) (by kernel_rfl) rfl (by kernel_rfl) fun K hK => ?_
              refine step_append_N2 (E := EIns) (B := Z + 1) (S := fun _ => False) (w1 := w9) (w2 := w9) (cs := [.int .i64 i0, .int .i64 i1, .int .i64 i2]) (p := (i0, i1, i2)) (l := done) (v := .slice ca done.length cc) Tryz.ty49 rfl _ _ rfl rfl HG9.out.cod (fun _ h => h.elim) (lt_heap HG9.out.z) (Below.refl _ _) w9.heap.size rfl rfl rfl hdl ?_
              intro g c6 w6 O6 H6
              have hZ6 : w6.heap[Z]? = _ := (H6.out.1.block Z (Nat.lt_succ_self _)).trans HG9.out.z
              have HG6 : Hid (GS w _ _ _ _ _ _ _ _ _ _ _ _ _ _ _ _ _ _) := HG9.out.ins (i := (i0, i1, i2)) (cv' := .slice (some ⟨g, 0, none⟩) (done.length + 1) c6) O6 H6.out.1 H6.out.2.1 (H6.out.2.2.1.imp (fun e => e) fun e => ⟨g, rfl, e⟩)
              have hS6 : (fun w' : World => w'.cell? ⟨Z, 2, none⟩ = some (.slice ca done.length cc)) w6 := heap_cl hZ6 rfl
              refine hK.out _ _ (fun _ => hS6) ?_
              clear hK K H6 O6 hS9 HG9
              try simp only [Act.put, List.setIfInBounds_toArray]
              refine wpAnyK_only (i := 8) (m' := 511) (by kernel_rfl) rfl (by kernel_rfl) fun K hK => ?_
              go_simp
              refine hK.out _ _ (fun _ => hS6) ?_
              clear hK K
              try simp only [Act.put, List.setIfInBounds_toArray, List.set_cons_zero, List.set_cons_succ]
              have f6 : w6.frozen? ⟨Z, 2, none⟩ = false := heap_frozen hZ6
              have p6 : w6.cell? ⟨Z, 2, none⟩ = some (.slice ca done.length cc) := heap_cl hZ6 rfl
              refine wpAnyK_only (i := 9) (m' := 1023) (by kernel_rfl) rfl (by kernel_rfl) fun K hK => ?_
              go_simp
              refine hK.out _ _ (fun h => absurd rfl h) ?_
              clear hK K hZ6 f6 p6 hS6
              refine wpAnyK_done (by kernel_rfl) ?_ _
              rw [show done.length + 1 = (done ++ [(i0, i1, i2)]).length by rw [List.length_append]; rfl] at HG6 ⊢
              generalize w6.setCell ⟨Z, 2, none⟩ (.slice (some ⟨g, 0, none⟩) (done ++ [(i0, i1, i2)]).length c6) = w8 at *
              have CW := word_any HG6.out.tab.rl.tb (by have := HL6.out; omega)
              have HWL := word_both m6
              have HW6 : Hid (wordP m6 = ((wordP m6).1, (wordP m6).2)) := rfl
              generalize (wordP m6).1 = a6 at *
              generalize (wordP m6).2 = m7 at *
              go_upto_region 8 with (go_at_call 87; (with_reducible refine Calls.mono CW ?_); rintro e10 w10 ⟨rfl, H10⟩; have HG10 : Hid (GS w w10 _ _ _ _ _ _ _ _ _ _ _ _ _ _ _ _ _) := HG6.out.call (HG6.out.tab.rl.on_rk H10.out.1 H10.out.2).1 (HG6.out.tab.rl.on_rk H10.out.1 H10.out.2).2; clear H10 CW)
              clear HG6
              obtain ⟨_, ⟨rd, rcap, hrw⟩, _⟩ := HS.out w10 HG10.out.bel
              have CO := opOf_any hrw a6
              clear hrw
              go_wp2_with (go_at_call 115; (with_reducible refine Calls.mono CO ?_); rintro e11 w11 ⟨rfl, H11⟩; have HG11 : Hid (GS w w11 _ _ _ _ _ _ _ _ _ _ _ _ _ _ _ _ _) := HG10.out.grown H11.out; clear H11 CO)
              go_roundw
              case rel => exact ⟨done ++ [(i0, i1, i2)], _, _, _, k2, m6, a6, m7, N6, F6, rfl, rfl, HG11.out, HW6.out, HT6.out, HL6.out.1, HL6.out.2.1, HL6.out.2.2.1, HWL⟩
              case measure =>
                have h1 := rest_lenQ HG11.out.tab.rl
                have h2 : Lib.strSize (.string ⟨a6.toArray⟩) = a6.length := by show a6.toArray.size = _; simp
                rw [HMS.out, h1, h2]
                have := HL6.out.2.2.2
                omega
      clear a5 HT0
      have hkF : k < F1.length := by have := HB.out.tab.rl.len; omega
      obtain ⟨g, c4, rfl, hc4, q1, q2, hg, -⟩ := int_at HB.out.tab.rl.f hkF
      have q5 : w4.cell? ⟨R, 5, none⟩ = some (.slice (some ⟨g, 0, none⟩) F1.length c4) := heap_cl HB.out.tab.rl.tb rfl
      have i1 : (0 : Int) ≤ (k : Int) := by omega
      have i2 : (k : Int) < (F1.length : Int) := by omega
      obtain ⟨z, hz⟩ : ∃ z, z = F1[k] := ⟨_, rfl⟩
      have HZK : Hid (firstQ F1 k t.2.length = if z = -1 then F1.set k (t.2.length : Int) else F1) := by
        show _ = _
        unfold firstQ
        rw [hz, List.getD_eq_getElem?_getD, List.getElem?_eq_getElem hkF]
        rfl
      rw [← hz] at q1
      clear hz
      by_cases hz : z = -1
      · subst hz
        go_upto_region 4 with fail
        obtain ⟨D, hD⟩ : ∃ X : World, X = w4.drew := ⟨_, rfl⟩
        have HD : Hid (GS w D R mA mB Z m2 sv (.slice ga raws.length gcap) (.slice (some ⟨g, 0, none⟩) F1.length c4) SA N1 F1 raws t x n (.slice none 0 0) []) := by rw [hD]; exact HB.out.call (HB.out.tab.rl.kept fun _ _ => rfl) ⟨.inl rfl, (Below.refl _ _).drew, Nat.le_refl _, fun _ _ _ _ _ => rfl⟩
        have hS0 : (fun w' : World => w'.cell? ⟨R, 5, none⟩ = some (.slice (some ⟨g, 0, none⟩) F1.length c4) ∧ w'.cell? ⟨R, 2, none⟩ = some (.slice ga raws.length gcap)) D := ⟨heap_cl HD.out.tab.rl.tb rfl, heap_cl HD.out.tab.rl.tb rfl⟩
        clear HB q1 q2 q5
        refine wp_region_M (S := (fun w' : World => w'.cell? ⟨R, 5, none⟩ = some (.slice (some ⟨g, 0, none⟩) F1.length c4) ∧ w'.cell? ⟨R, 2, none⟩ = some (.slice ga raws.length gcap))) (L := 12) (n := 13) (by kernel_rfl) rfl (by kernel_rfl) ?_
        rw [← hD]
        clear hD
        refine wpAnyK_go (i := 0) (m' := 1) (some 24) (v := .pointer (some ⟨R, 0, none⟩)) rfl rfl (by kernel_rfl) (by kernel_rfl) (by kernel_rfl) (by kernel_rfl) (by kernel_rfl) (fun _ _ _ h => h) (Or.inl ⟨by rfl, ?_⟩) hS0 ?_
        · intro w' hSw
          go_simp
        try simp only [Act.put, List.setIfInBounds_toArray, List.set_cons_zero, List.set_cons_succ]
        refine wpAnyK_go (i := 1) (m' := 3) (some 25) (v := .pointer (some ⟨R, 0, none⟩)) rfl rfl (by kernel_rfl) (by kernel_rfl) (by kernel_rfl) (by kernel_rfl) (by kernel_rfl) (fun _ _ _ h => h) (Or.inl ⟨by rfl, ?_⟩) hS0 ?_
        · intro w' hSw
          go_simp
        try simp only [Act.put, List.setIfInBounds_toArray, List.set_cons_zero, List.set_cons_succ]
        refine wpAnyK_go (i := 2) (m' := 7) (some 26) (v := .pointer (some ⟨R, 5, none⟩)) rfl rfl (by kernel_rfl) (by kernel_rfl) (by kernel_rfl) (by kernel_rfl) (by kernel_rfl) (fun _ _ _ h => h) (Or.inl ⟨by rfl, ?_⟩) hS0 ?_
        · intro w' hSw
          go_simp
        try simp only [Act.put, List.setIfInBounds_toArray, List.set_cons_zero, List.set_cons_succ]
        refine wpAnyK_go (i := 3) (m' := 15) (some 27) (v := .slice (some ⟨g, 0, none⟩) F1.length c4) rfl rfl (by kernel_rfl) (by kernel_rfl) (by kernel_rfl) (by kernel_rfl) (by kernel_rfl) (fun _ _ _ h => h) (Or.inl ⟨by rfl, ?_⟩) hS0 ?_
        · intro w' hSw
          obtain ⟨p0, p1⟩ := hSw
          go_simp
        try simp only [Act.put, List.setIfInBounds_toArray, List.set_cons_zero, List.set_cons_succ]
        refine wpAnyK_go (i := 4) (m' := 31) (some 28) (v := .int .i64 (k : Nat)) rfl rfl (by kernel_rfl) (by kernel_rfl) (by kernel_rfl) (by kernel_rfl) (by kernel_rfl) (fun _ _ _ h => h) (Or.inl ⟨by rfl, ?_⟩) hS0 ?_
        · intro w' hSw
          go_simp
        try simp only [Act.put, List.setIfInBounds_toArray, List.set_cons_zero, List.set_cons_succ]
        refine wpAnyK_go (i := 5) (m' := 63) (some 29) (v := .pointer (some ⟨R, 0, none⟩)) rfl rfl (by kernel_rfl) (by kernel_rfl) (by kernel_rfl) (by kernel_rfl) (by kernel_rfl) (fun _ _ _ h => h) (Or.inl ⟨by rfl, ?_⟩) hS0 ?_
        · intro w' hSw
          go_simp
        try simp only [Act.put, List.setIfInBounds_toArray, List.set_cons_zero, List.set_cons_succ]
        refine wpAnyK_go (i := 6) (m' := 127) (some 30) (v := .pointer (some ⟨R, 0, none⟩)) rfl rfl (by kernel_rfl) (by kernel_rfl) (by kernel_rfl) (by kernel_rfl) (by kernel_rfl) (fun _ _ _ h => h) (Or.inl ⟨by rfl, ?_⟩) hS0 ?_
        · intro w' hSw
          go_simp
        try simp only [Act.put, List.setIfInBounds_toArray, List.set_cons_zero, List.set_cons_succ]
        refine wpAnyK_go (i := 7) (m' := 255) (some 31) (v := .pointer (some ⟨R, 1, none⟩)) rfl rfl (by kernel_rfl) (by kernel_rfl) (by kernel_rfl) (by kernel_rfl) (by kernel_rfl) (fun _ _ _ h => h) (Or.inl ⟨by rfl, ?_⟩) hS0 ?_
        · intro w' hSw
          go_simp
        try simp only [Act.put, List.setIfInBounds_toArray, List.set_cons_zero, List.set_cons_succ]
        refine wpAnyK_go (i := 8) (m' := 511) (some 32) (v := .pointer (some ⟨R, 2, none⟩)) rfl rfl (by kernel_rfl) (by kernel_rfl) (by kernel_rfl) (by kernel_rfl) (by kernel_rfl) (fun _ _ _ h => h) (Or.inl ⟨by rfl, ?_⟩) hS0 ?_
        · intro w' hSw
          go_simp
        try simp only [Act.put, List.setIfInBounds_toArray, List.set_cons_zero, List.set_cons_succ]
        refine wpAnyK_go (i := 9) (m' := 1023) (some 33) (v := .slice ga raws.length gcap) rfl rfl (by kernel_rfl) (by kernel_rfl) (by kernel_rfl) (by kernel_rfl) (by kernel_rfl) (fun _ _ _ h => h) (Or.inl ⟨by rfl, ?_⟩) hS0 ?_
        · intro w' hSw
          obtain ⟨p0, p1⟩ := hSw
          go_simp
        try simp only [Act.put, List.setIfInBounds_toArray, List.set_cons_zero, List.set_cons_succ]
        refine wpAnyK_go (i := 10) (m' := 2047) (some 34) (v := .int .i64 (raws.length : Nat)) rfl rfl (by kernel_rfl) (by kernel_rfl) (by kernel_rfl) (by kernel_rfl) (by kernel_rfl) (fun _ _ _ h => h) (Or.inl ⟨by rfl, ?_⟩) hS0 ?_
        · intro w' hSw
          go_simp
        try simp only [Act.put, List.setIfInBounds_toArray, List.set_cons_zero, List.set_cons_succ]
        refine wpAnyK_only (i := 11) (m' := 4095) (by kernel_rfl) rfl (by kernel_rfl) fun K hK => ?_
        go_simp
        refine hK.out _ _ (fun _ => hS0) ?_
        clear hK K
        try simp only [Act.put, List.setIfInBounds_toArray, List.set_cons_zero, List.set_cons_succ]
        obtain ⟨g2, c2, he, -, q1, q2, -, hset⟩ := int_at HD.out.tab.rl.f hkF
        obtain ⟨rfl, rfl⟩ : g = g2 ∧ c4 = c2 := by cases he; exact ⟨rfl, rfl⟩
        have hset2 := hset (raws.length : Nat)
        clear he hset
        refine wpAnyK_only (i := 12) (m' := 8191) (by kernel_rfl) rfl (by kernel_rfl) fun K hK => ?_
        go_simp
        refine hK.out _ _ (fun h => absurd rfl h) ?_
        clear hK K q1 q2
        refine wpAnyK_done (by kernel_rfl) ?_ _
        have HF := HD.out.first (k := k) rfl hg (raws.length : Nat) hset2
        rw [show F1.set k ((raws.length : Nat) : Int) = firstQ F1 k t.2.length by rw [HZK.out, if_pos rfl, HD.out.tab.tab.len]] at HF
        exact hK5 _ _ _ _ _ _ _ _ _ _ _ _ _ _ _ _ _ _ _ _ _ _ _ _ _ _ _ _ _ _ _ _ _ _ _ _ HF
      · have HF : Hid (GS w w4 R mA mB Z m2 sv (.slice ga raws.length gcap) (.slice (some ⟨g, 0, none⟩) F1.length c4) SA N1 (firstQ F1 k t.2.length) raws t x n (.slice none 0 0) []) := by rw [HZK.out, if_neg hz]; exact HB.out
        clear HZK
        go_wp2
        exact hK5 _ _ _ _ _ _ _ _ _ _ _ _ _ _ _ _ _ _ _ _ _ _ _ _ _ _ _ _ _ _ _ _ _ _ _ _ HF
end Go.Proofs.YtlpnegnpejpdkaaGreatDoor
