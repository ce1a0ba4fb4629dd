/- textReader.settle: the laws. textReader.settle: the walk. textReader.table. -/
import Derived.Test.YtlpnegnpejpdkaaGreatDoorMnx
namespace Go.Proofs.YtlpnegnpejpdkaaGreatDoor
open Go.RowKit

/-! What is settled. -/
def insS (F : List Int) (i : Ins) : Option Ins := if i.1 = 2 then (if F.getD i.2.1.toNat 0 = -1 then none else some (i.1, F.getD i.2.1.toNat 0, i.2.2)) else some i
def codeS (F : List Int) : List Ins → Option (List Ins)
  | [] => some []
  | i :: r => match insS F i with
    | some j => (codeS F r).map (j :: ·)
    | none => none
def glbsS (F : List Int) : List Glb → Option (List Glb)
  | [] => some []
  | g :: r => match codeS F g.2.2 with
    | some c => (glbsS F r).map ((g.1, g.2.1, c) :: ·)
    | none => none
theorem code_s_go {α : Type} {F : List Int} {K : List Ins → Option α} {T : Option α} {i j : Ins} {r done : List Ins} (h : T = (codeS F (i :: r)).bind fun c => K (done ++ c)) (hi : insS F i = some j) : T = (codeS F r).bind fun c => K ((done ++ [j]) ++ c) := by
  rw [h]
  have e : codeS F (i :: r) = (codeS F r).map (j :: ·) := by show (match insS F i with | some j => (codeS F r).map (j :: ·) | none => none) = _; rw [hi]
  rw [e]
  cases codeS F r with
  | none => rfl
  | some c => show K (done ++ (j :: c)) = K ((done ++ [j]) ++ c); rw [List.append_assoc]; rfl
theorem code_s_no {α : Type} {F : List Int} {K : List Ins → Option α} {T : Option α} {i : Ins} {r : List Ins} (h : T = (codeS F (i :: r)).bind K) (hi : insS F i = none) : T = none := by
  rw [h]
  have e : codeS F (i :: r) = none := by show (match insS F i with | some j => (codeS F r).map (j :: ·) | none => none) = _; rw [hi]
  rw [e]
  rfl
theorem glbs_s_step {F : List Int} (g : Glb) (r done : List Glb) : ((glbsS F (g :: r)).bind fun gs => some (done ++ gs)) = (codeS F g.2.2).bind fun c => (glbsS F r).bind fun gs => some ((done ++ [(g.1, g.2.1, c)]) ++ gs) := by
  have e : glbsS F (g :: r) = match codeS F g.2.2 with | some c => (glbsS F r).map ((g.1, g.2.1, c) :: ·) | none => none := rfl
  rw [e]
  cases codeS F g.2.2 with
  | none => rfl
  | some c =>
    cases hr : glbsS F r with
    | none => simp
    | some gs => simp [List.append_assoc]

/-! A row of instructions. -/
theorem css_ins {w : World} {S : Nat → Prop} {css : List (List Value)} {l : List Ins} (h : Css EIns w S css l) : css = l.map fun x => [.int .i64 x.1, .int .i64 x.2.1, .int .i64 x.2.2] := by
  refine List.ext_getElem (by rw [List.length_map]; exact h.1) fun i a b => ?_
  rw [List.getElem_map]
  exact h.2 i a (by rw [List.length_map] at b; exact b)
def flatI (l : List Ins) : List Value := (l.map fun x => [Value.int .i64 x.1, .int .i64 x.2.1, .int .i64 x.2.2]).flatten
theorem flatI_set : ∀ (l : List Ins) (j : Nat) (hj : j < l.length) (y : Int), (flatI l).set (j * 3 + 1) (.int .i64 y) = flatI (l.set j (l[j].1, y, l[j].2.2))
  | x :: r, 0, _, y => rfl
  | x :: r, j + 1, h, y => by
    have e : (j + 1) * 3 + 1 = (((j * 3 + 1) + 1) + 1) + 1 := by omega
    rw [e]
    have ih := flatI_set r j (by simpa using h) y
    show Value.int .i64 x.1 :: Value.int .i64 x.2.1 :: Value.int .i64 x.2.2 :: (flatI r).set (j * 3 + 1) (.int .i64 y) = _
    rw [ih]
    rfl
theorem ins_row {w : World} {B : Nat} {v : Value} {l : List Ins} (h : Own EIns 53 B w (fun _ => False) v l) : w.ownsRow B 53 3 v l.length (flatI l) := by
  obtain ⟨css, q1, q2⟩ := h.row
  rw [css_ins q1] at q2
  exact q2
theorem ins_own {w : World} {B : Nat} {v : Value} {l : List Ins} (h : w.ownsRow B 53 3 v l.length (flatI l)) : Own EIns 53 B w (fun _ => False) v l :=
  ⟨⟨l.map fun x : Ins => ([.int .i64 x.1, .int .i64 x.2.1, .int .i64 x.2.2] : List Value), ⟨by simp, fun i a b => by rw [List.getElem_map]; rfl⟩, h⟩, fun _ h => h.elim⟩
theorem ins_own_at {w : World} {B : Nat} {v : Value} {l : List Ins} (h : Own EIns 53 B w (fun _ => False) v l) {j : Nat} (hj : j < l.length) : ∃ g cap, v = .slice (some ⟨g, 0, none⟩) l.length cap ∧ l.length ≤ cap ∧ B ≤ g ∧ w.cell? ⟨g, j * 3, none⟩ = some (.int .i64 l[j].1) ∧ w.cell? ⟨g, j * 3 + 1, none⟩ = some (.int .i64 l[j].2.1) ∧ w.frozen? ⟨g, j * 3 + 1, none⟩ = false ∧
    ∀ y, Own EIns 53 B (w.setCell ⟨g, j * 3 + 1, none⟩ (.int .i64 y)) (fun _ => False) v (l.set j (l[j].1, y, l[j].2.2)) := by
  obtain ⟨ad, cap0, hv, hin⟩ := ins_at h.rowE
  obtain ⟨g0, o0, hg0, hZ, hcap, c0, c1, c2⟩ := hin j hj
  obtain ⟨h1, h2⟩ := ins_row h
  rcases h2 with ⟨_, h2⟩ | ⟨g, cap, cur, rfl, hB, hg, hc, hm, hs, ht⟩
  · omega
  · cases hv
    obtain ⟨rfl, rfl⟩ : g0 = g ∧ o0 = 0 := by cases hg0; exact ⟨rfl, rfl⟩
    rw [Nat.zero_add] at c0 c1
    refine ⟨_, _, rfl, hc, hB, c0, c1, heap_frozen hg, fun y => ins_own ?_⟩
    refine ⟨?_, .inr ⟨_, _, cur.setIfInBounds (j * 3 + 1) (.int .i64 y), by rw [List.length_set], hB, setCell_block hg, by rw [List.length_set]; exact hc, hm, by rw [Array.size_setIfInBounds]; exact hs, ?_⟩⟩
    · rw [← flatI_set l j hj y, List.length_set, List.length_set]; exact h1
    · rw [List.length_set, Array.toList_setIfInBounds, List.take_set, ht, flatI_set l j hj y]
/-- What stands at one of a made table's globals. -/
theorem gr_at {w : World} {B : Nat} {v : Value} {l : List (Byt × Int × Value)} (h : OwnN EGr 51 B (fun _ => False) w v l) {i : Nat} (hi : i < l.length) : ∃ g cap, v = .slice (some ⟨g, 0, none⟩) l.length cap ∧ l.length ≤ cap ∧ w.cell? ⟨g, i * 3, none⟩ = some (.string ⟨l[i].1.toArray⟩) ∧ w.cell? ⟨g, i * 3 + 1, none⟩ = some (.int .i64 l[i].2.1) ∧ w.cell? ⟨g, i * 3 + 2, none⟩ = some l[i].2.2 := by
  have h2 := Own.rowE h
  obtain ⟨ad, cap, hv, h3⟩ := RowK.open h2
  obtain ⟨g, o, hg, hc, h4⟩ := h3 (fun e => by rw [e] at hi; simp at hi)
  obtain ⟨hZ, cs, ⟨rfl, q1, q2⟩, h5⟩ := h4 i hi
  have ho : o = 0 := by
    obtain ⟨css, r1, r2, ⟨_, r3⟩ | ⟨g', cap', cur, r3, _⟩⟩ := h.row
    · omega
    · rw [r3] at hv
      cases hv
      cases hg
      rfl
  subst ho
  subst hg
  rw [Nat.zero_add] at h5
  exact ⟨g, cap, hv, hc, h5 0 (by decide), h5 1 (by decide), h5 2 (by decide)⟩
/-- One code of a made table is written over. -/
theorem TabR.turn {w w' : World} {B : Nat} {sv gv : Value} {raws : List (Byt × Int × Value)} {t : Tab} (h : TabR w B sv gv raws t) {i : Nat} (hi : i < raws.length) (hi2 : i < t.2.length) (c : List Ins) (hc : Own EIns 53 B w' (fun _ => False) raws[i].2.2 c) (hk : ∀ y, raws[i].2.2.ownBlock ≠ some y → w'.heap[y]? = w.heap[y]?) : TabR w' B sv gv raws (t.1, t.2.set i (t.2[i].1, t.2[i].2.1, c)) := by
  have hap := h.apt
  rw [List.pairwise_cons, List.pairwise_cons] at hap
  obtain ⟨a1, a2, a3⟩ := hap
  have hm : raws[i].2.2 ∈ raws.map fun r => r.2.2 := List.mem_map.2 ⟨raws[i], List.getElem_mem hi, rfl⟩
  have keep : ∀ {v : Value}, Apt v raws[i].2.2 → ∀ b, v.ownBlock = some b → w'.heap[b]? = w.heap[b]? := fun hv b e => hk b fun e2 => hv b e e2
  refine ⟨h.shp.plain (fun _ _ _ _ _ _ h => h) (keep (a1 _ (List.mem_cons_of_mem _ hm))), h.glb.plain (fun _ _ _ _ _ _ h => h) (keep (a2 _ hm)), by rw [List.length_set]; exact h.len, fun k a b => ?_, h.apt⟩
  have b2 : k < t.2.length := by rw [← h.len]; exact a
  by_cases hki : k = i
  · subst hki
    have e : (t.2.set k (t.2[k].1, t.2[k].2.1, c))[k]'b = (t.2[k].1, t.2[k].2.1, c) := List.getElem_set_self _
    show raws[k].1 = ((t.2.set k (t.2[k].1, t.2[k].2.1, c))[k]'b).1 ∧ _
    rw [e]
    exact ⟨(h.cod k hi hi2).1, (h.cod k hi hi2).2.1, hc⟩
  · have e : (t.2.set i (t.2[i].1, t.2[i].2.1, c))[k]'b = t.2[k] := List.getElem_set_ne (fun e => hki e.symm) _
    show raws[k].1 = ((t.2.set i (t.2[i].1, t.2[i].2.1, c))[k]'b).1 ∧ raws[k].2.1 = ((t.2.set i (t.2[i].1, t.2[i].2.1, c))[k]'b).2.1 ∧ Own EIns 53 B w' (fun _ => False) raws[k].2.2 ((t.2.set i (t.2[i].1, t.2[i].2.1, c))[k]'b).2.2
    rw [e]
    refine ⟨(h.cod k a b2).1, (h.cod k a b2).2.1, (h.cod k a b2).2.2.on (fun _ h => h.elim) (keep ?_)⟩
    rw [List.pairwise_iff_getElem] at a3
    have ea : (raws.map fun r => r.2.2)[k]'(by rw [List.length_map]; exact a) = raws[k].2.2 := List.getElem_map _
    have ei : (raws.map fun r => r.2.2)[i]'(by rw [List.length_map]; exact hi) = raws[i].2.2 := List.getElem_map _
    rcases Nat.lt_or_gt_of_ne hki with hlt | hlt
    · have := a3 k i (by rw [List.length_map]; exact a) (by rw [List.length_map]; exact hi) hlt
      rw [ea, ei] at this
      exact this
    · have := a3 i k (by rw [List.length_map]; exact hi) (by rw [List.length_map]; exact a) hlt
      rw [ea, ei] at this
      exact apt_symm this
/-! Every number of a name that is read has a place. -/
def GlbOk (n : Nat) (l : List Glb) : Prop := ∀ g ∈ l, ∀ i ∈ g.2.2, i.1 = 2 → 0 ≤ i.2.1 ∧ i.2.1 < (n : Int)
theorem num_q_name {SA : List Byt} {k : Nat} {l : Byt} {N : List Byt} {F : List Int} {n : Int} {m : Byt} {N' : List Byt} {F' : List Int} (h : numQ SA k l N F = some (n, m, N', F')) : N.length ≤ N'.length ∧ (k = 5 → 0 ≤ n ∧ n < (N'.length : Int)) := by
  unfold numQ at h
  split at h
  · rename_i hk
    split at h
    · split at h
      · cases h; exact ⟨Nat.le_refl _, fun e => by omega⟩
      · cases h
    · cases h
  · split at h
    · split at h
      · rename_i s m hn
        have h1 := name_num_lt N F s
        have h2 : N.length ≤ (nameNum N F s).2.1.length := by
          unfold nameNum
          split
          · exact Nat.le_refl _
          · simp
        cases h
        exact ⟨h2, fun _ => ⟨by omega, by omega⟩⟩
      · cases h
    · rename_i hk5
      split at h
      · split at h
        · cases h
        · cases h; exact ⟨Nat.le_refl _, fun e => absurd e hk5⟩
      · split at h
        · cases h; exact ⟨Nat.le_refl _, fun e => absurd e hk5⟩
        · cases h
theorem rest_q_name {SA : List Byt} {op : Int} {l : Byt} {N : List Byt} {F : List Int} {i : Ins} {m : Byt} {N' : List Byt} {F' : List Int} (h : restQ SA op l N F = some (i, m, N', F')) : N.length ≤ N'.length ∧ (i.1 = 2 → 0 ≤ i.2.1 ∧ i.2.1 < (N'.length : Int)) := by
  have k1 : kindB 2 = 0 := by decide
  have k2 : kindA 2 = 5 := by decide
  unfold restQ at h
  split at h
  · rename_i hb
    obtain ⟨a, m1, N1, F1, h1, h⟩ := bind_q_some h
    obtain ⟨b, m2, N2, F2, h2, h⟩ := bind_q_some h
    cases h
    have q1 := num_q_name h1
    have q2 := num_q_name h2
    exact ⟨by omega, fun e => absurd (show kindB op = 0 by rw [show op = 2 from e]; exact k1) hb⟩
  · split at h
    · obtain ⟨a, m1, N1, F1, h1, h⟩ := bind_q_some h
      cases h
      have q1 := num_q_name h1
      exact ⟨q1.1, fun e => q1.2 (by rw [show op = 2 from e]; exact k2)⟩
    · rename_i ha
      cases h
      exact ⟨Nat.le_refl _, fun e => absurd (by rw [show op = 2 from e, k2]; decide : kindA op ≠ 0) ha⟩
theorem code_q_name {SA : List Byt} : ∀ (k : Nat) (l : Byt) (N : List Byt) (F : List Int) (c : List Ins × Byt) (m : Byt) (N' : List Byt) (F' : List Int), codeQ SA k l N F = some (c, m, N', F') → N.length ≤ N'.length ∧ ∀ i ∈ c.1, i.1 = 2 → 0 ≤ i.2.1 ∧ i.2.1 < (N'.length : Int)
  | 0, _, _, _, _, _, _, _, h => by cases h
  | k + 1, l, N, F, c, m, N', F', h => by
    have h : (if opOfP (wordP l).1 = 0 then some (([], (wordP l).1), (wordP l).2, N, F) else bindQ (restQ SA (opOfP (wordP l).1 : Nat) (wordP l).2 N F) fun i m N F => bindQ (codeQ SA k m N F) fun c m N F => some ((i :: c.1, c.2), m, N, F)) = some (c, m, N', F') := h
    split at h
    · cases h
      exact ⟨Nat.le_refl _, fun i hi => by cases hi⟩
    · obtain ⟨i, m1, N1, F1, h1, h⟩ := bind_q_some h
      obtain ⟨c2, m2, N2, F2, h2, h⟩ := bind_q_some h
      cases h
      obtain ⟨q1, q2⟩ := rest_q_name h1
      obtain ⟨q3, q4⟩ := code_q_name k _ _ _ _ _ _ _ h2
      refine ⟨by omega, fun j hj hj2 => ?_⟩
      rcases List.mem_cons.1 hj with rfl | hj
      · have := q2 hj2
        omega
      · exact q4 j hj hj2
theorem glb_q_name {SA : List Byt} {j : Nat} {l : Byt} {N : List Byt} {F : List Int} {p : Glb × Byt} {m : Byt} {N' : List Byt} {F' : List Int} (h : glbQ SA j l N F = some (p, m, N', F')) : N.length ≤ N'.length ∧ GlbOk N'.length [p.1] := by
  unfold glbQ at h
  split at h
  · rename_i x m1 hn
    split at h
    · rename_i n m2 hu
      obtain ⟨c, m3, N3, F3, h1, h⟩ := bind_q_some h
      cases h
      obtain ⟨q1, q2⟩ := code_q_name _ _ _ _ _ _ _ _ h1
      have h2 : N.length ≤ (nameNum N F x).2.1.length := by
        unfold nameNum
        split
        · exact Nat.le_refl _
        · simp
      exact ⟨by omega, fun g hg => by rw [List.mem_singleton.1 hg]; exact q2⟩
    · cases h
  · cases h
theorem GlbOk.more {n n' : Nat} {l : List Glb} (h : GlbOk n l) (hn : n ≤ n') : GlbOk n' l := fun g hg i hi e => by
  have := h g hg i hi e
  omega
theorem GlbOk.snoc {n : Nat} {l : List Glb} {g : Glb} (h : GlbOk n l) (hg : GlbOk n [g]) : GlbOk n (l ++ [g]) := fun x hx => by
  rcases List.mem_append.1 hx with hx | hx
  · exact h x hx
  · exact hg x hx
end Go.Proofs.YtlpnegnpejpdkaaGreatDoor

namespace Go.Proofs.YtlpnegnpejpdkaaGreatDoor
open Go.RowKit

theorem set_mid {α : Type} : ∀ (a : List α) (x y : α) (r : List α), (a ++ x :: r).set a.length y = a ++ y :: r
  | [], _, _, _ => rfl
  | b :: a, x, y, r => by show b :: (a ++ x :: r).set a.length y = _; rw [set_mid a x y r]; rfl
/-- Between settle's rounds. -/
structure SW (w wi : World) (R mA mB Y : Nat) (m : Byt) (sv gv fv : Value) (SA N : List Byt) (F : List Int) (raws : List (Byt × Int × Value)) (ts : List Shp) (dn : List Glb) (nm : Byt) (ar : Int) (dc crest : List Ins) (rest : List Glb) (cv : Value) : Prop where
  tab : RTab wi R mA mB m sv gv fv SA N F raws (ts, dn ++ (nm, ar, dc ++ crest) :: rest)
  bel : Below mA w wi
  y : wi.heap[Y]? = some (.cells #[.string ⟨nm.toArray⟩, .int .i64 ar, cv] 51 (0, 0))
  ri : ∃ h : dn.length < raws.length, raws[dn.length] = (nm, ar, cv)
  own : cv.ownBlock ≠ some Y
theorem SW.drew {w wi : World} {R mA mB Y : Nat} {m : Byt} {sv gv fv : Value} {SA N : List Byt} {F : List Int} {raws : List (Byt × Int × Value)} {ts : List Shp} {dn : List Glb} {nm : Byt} {ar : Int} {dc crest : List Ins} {rest : List Glb} {cv : Value} (h : SW w wi R mA mB Y m sv gv fv SA N F raws ts dn nm ar dc crest rest cv) : SW w wi.drew R mA mB Y m sv gv fv SA N F raws ts dn nm ar dc crest rest cv :=
  ⟨h.tab.kept fun _ _ => rfl, h.bel.drew, h.y, h.ri, h.own⟩
theorem SW.skip {w wi : World} {R mA mB Y : Nat} {m : Byt} {sv gv fv : Value} {SA N : List Byt} {F : List Int} {raws : List (Byt × Int × Value)} {ts : List Shp} {dn : List Glb} {nm : Byt} {ar : Int} {dc r : List Ins} {x : Ins} {rest : List Glb} {cv : Value} (h : SW w wi R mA mB Y m sv gv fv SA N F raws ts dn nm ar dc (x :: r) rest cv) : SW w wi R mA mB Y m sv gv fv SA N F raws ts dn nm ar (dc ++ [x]) r rest cv :=
  ⟨by have := h.tab; rw [show dc ++ x :: r = (dc ++ [x]) ++ r by rw [List.append_assoc]; rfl] at this; exact this, h.bel, h.y, h.ri, h.own⟩
theorem SW.cod {w wi : World} {R mA mB Y : Nat} {m : Byt} {sv gv fv : Value} {SA N : List Byt} {F : List Int} {raws : List (Byt × Int × Value)} {ts : List Shp} {dn : List Glb} {nm : Byt} {ar : Int} {dc crest : List Ins} {rest : List Glb} {cv : Value} (h : SW w wi R mA mB Y m sv gv fv SA N F raws ts dn nm ar dc crest rest cv) : Own EIns 53 (R + 1) wi (fun _ => False) cv (dc ++ crest) := by
  obtain ⟨hi, hr⟩ := h.ri
  have h2 : dn.length < (dn ++ (nm, ar, dc ++ crest) :: rest).length := by simp
  have h1 := (h.tab.tab.cod dn.length hi h2).2.2
  have e : ((ts, dn ++ (nm, ar, dc ++ crest) :: rest) : Tab).2[dn.length]'h2 = (nm, ar, dc ++ crest) := by simp
  rw [e, hr] at h1
  exact h1
theorem SW.at {w wi : World} {R mA mB Y : Nat} {m : Byt} {sv gv fv : Value} {SA N : List Byt} {F : List Int} {raws : List (Byt × Int × Value)} {ts : List Shp} {dn : List Glb} {nm : Byt} {ar : Int} {dc r : List Ins} {x : Ins} {rest : List Glb} {cv : Value} (h : SW w wi R mA mB Y m sv gv fv SA N F raws ts dn nm ar dc (x :: r) rest cv) : ∃ g cap, cv = .slice (some ⟨g, 0, none⟩) (dc ++ x :: r).length cap ∧ wi.cell? ⟨g, dc.length * 3, none⟩ = some (.int .i64 x.1) ∧ wi.cell? ⟨g, dc.length * 3 + 1, none⟩ = some (.int .i64 x.2.1) ∧ wi.frozen? ⟨g, dc.length * 3 + 1, none⟩ = false ∧
    ∀ y, SW w (wi.setCell ⟨g, dc.length * 3 + 1, none⟩ (.int .i64 y)) R mA mB Y m sv gv fv SA N F raws ts dn nm ar (dc ++ [(x.1, y, x.2.2)]) r rest cv := by
  obtain ⟨g, cap, hv, hcap, hg, c0, c1, f1, hset⟩ := ins_own_at h.cod (j := dc.length) (by simp)
  have ex : (dc ++ x :: r)[dc.length]'(by simp) = x := by simp
  rw [ex] at c0 c1
  refine ⟨g, cap, hv, c0, c1, f1, fun y => ?_⟩
  have h1 := hset y
  rw [ex, set_mid] at h1
  have hs : ∀ b, b ≠ g → (wi.setCell ⟨g, dc.length * 3 + 1, none⟩ (.int .i64 y)).heap[b]? = wi.heap[b]? := fun b hb => Below.heap_setCell _ _ _ _ hb
  obtain ⟨hi, hr⟩ := h.ri
  obtain ⟨l1, l2⟩ := h.tab.rl.lt
  have h2 : dn.length < (dn ++ (nm, ar, dc ++ x :: r) :: rest).length := by simp
  have hvo : cv.ownBlock = some g := by rw [hv]; rfl
  have hT := h.tab.tab.turn (w' := wi.setCell ⟨g, dc.length * 3 + 1, none⟩ (.int .i64 y)) hi h2 (dc ++ (x.1, y, x.2.2) :: r) (by rw [hr]; exact h1) (fun b hb => hs b fun e => hb (by rw [hr, e]; exact hvo))
  have e : ((ts, dn ++ (nm, ar, dc ++ x :: r) :: rest) : Tab).2[dn.length]'h2 = (nm, ar, dc ++ x :: r) := by simp
  rw [e] at hT
  replace hT : TabR (wi.setCell ⟨g, dc.length * 3 + 1, none⟩ (.int .i64 y)) (R + 1) sv gv raws (ts, (dn ++ (nm, ar, dc ++ x :: r) :: rest).set dn.length (nm, ar, dc ++ (x.1, y, x.2.2) :: r)) := hT
  rw [set_mid, show dc ++ (x.1, y, x.2.2) :: r = (dc ++ [(x.1, y, x.2.2)]) ++ r by rw [List.append_assoc]; rfl] at hT
  have hcv : cv ∈ (sv :: gv :: raws.map fun r => r.2.2) := by
    simp only [List.mem_cons]
    exact .inr (.inr (List.mem_map.2 ⟨raws[dn.length], List.getElem_mem hi, by rw [hr]⟩))
  refine ⟨⟨h.tab.rl.kept fun b hb => hs b ?_, hT, h.tab.apt⟩, h.bel.trans ((Below.refl mA wi).setCell (p := ⟨g, _, none⟩) (by show mA ≤ g; omega) _), (hs Y (fun e => h.own (by rw [hvo, e]))).trans h.y, h.ri, h.own⟩
  rcases hb with hb | hb
  · omega
  · exact fun e => h.tab.apt cv hcv b hb (by rw [hvo, e])
theorem SW.blk {w wi : World} {R mA mB Y : Nat} {m : Byt} {sv gv fv : Value} {SA N : List Byt} {F : List Int} {raws : List (Byt × Int × Value)} {ts : List Shp} {dn : List Glb} {nm : Byt} {ar : Int} {dc r : List Ins} {x : Ins} {rest : List Glb} {n g cap : Nat} (h : SW w wi R mA mB Y m sv gv fv SA N F raws ts dn nm ar dc (x :: r) rest (.slice (some ⟨g, 0, none⟩) n cap)) : ∃ (cs : Array Value) (ty : TypeId), wi.heap[g]? = some (.cells cs ty (0, 0)) ∧ ∀ y : Value, (cs.setIfInBounds (dc.length * 3 + 1) y)[dc.length * 3 + 1]? = some y := by
  obtain ⟨h1, h2⟩ := ins_row h.cod
  rcases h2 with ⟨h2, h3⟩ | ⟨g2, cap2, cur, e, hB, hg, hc, hm, hs, ht⟩
  · simp at h3
  · cases e
    refine ⟨cur, 53, hg, fun y => ?_⟩
    have : dc.length * 3 + 1 < cur.size := by
      simp only [List.length_append, List.length_cons] at hc
      omega
    rw [Array.getElem?_setIfInBounds_self_of_lt this]
/-- What settling leaves. -/
def QL (w : World) (R mA mB : Nat) (m : Byt) (sv gv fv : Value) (SA N : List Byt) (F : List Int) (raws : List (Byt × Int × Value)) (ts : List Shp) (x : Option (List Glb)) (r : Ending) (w' : World) : Prop := match x with
  | some l => r = .returned (.tuple #[]) ∧ Hid (RTab w' R mA mB m sv gv fv SA N F raws (ts, l) ∧ Below mA w w')
  | none => r = thrown 170 ∧ Hid (Below mA w w')
theorem Own.le_max {α : Type} {E : Elt α} {e B : Nat} {w : World} {S : Nat → Prop} {v : Value} {l : List α} (h : Own E e B w S v l) : l.length ≤ 9223372036854775807 := by
  obtain ⟨css, _, _, ⟨_, h2⟩ | ⟨g, cap, cur, rfl, _, _, h3, h4, _⟩⟩ := h.row
  · omega
  · unfold maxLen at h4
    omega
set_option maxHeartbeats 16000000 in
set_option maxRecDepth 10000 in
theorem settle_any {w : World} {R mA mB : Nat} {m : Byt} {sv gv fv : Value} {SA N : List Byt} {F : List Int} {raws : List (Byt × Int × Value)} {t : Tab} (h : RTab w R mA mB m sv gv fv SA N F raws t) (hG : GlbOk F.length t.2) :
    Calls Tryz.prog 91 #[.pointer (some ⟨R, 0, none⟩)] w fun r w' => QL w R mA mB m sv gv fv SA N F raws t.1 (glbsS F t.2) r w' := by
  obtain ⟨l1, l2⟩ := h.rl.lt
  obtain ⟨ga, gcap, rfl⟩ := h.tab.glb.len
  have CG := fun W => giveUp_any 170 W
  unfold thrown at CG
  obtain ⟨T, hT⟩ : ∃ T, T = glbsS F t.2 := ⟨_, rfl⟩
  rw [← hT]
  obtain ⟨G, hG2⟩ : ∃ G : Ending → World → Prop, G = fun r w' => QL w R mA mB m sv (.slice ga raws.length gcap) fv SA N F raws t.1 T r w' := ⟨_, rfl⟩
  rw [← hG2]
  have HFN : Hid (∀ w', T = none → Below mA w w' → G (thrown 170) w') := fun w' h1 h2 => by rw [hG2, h1]; exact ⟨rfl, h2⟩
  have HFS : Hid (∀ w' l, T = some l → RTab w' R mA mB m sv (.slice ga raws.length gcap) fv SA N F raws (t.1, l) → Below mA w w' → G (.returned (.tuple #[])) w') := fun w' l h1 h2 h3 => by rw [hG2, h1]; exact ⟨rfl, h2, h3⟩
  have HGO : Hid (GlbOk F.length t.2) := hG
  have HLN : Hid (raws.length = t.2.length) := h.tab.len
  have HT0 : Hid (T = (glbsS F (t.2.drop 0)).bind fun gs => some ([] ++ gs)) := by
    show _ = _
    rw [hT, List.drop_zero]
    cases glbsS F t.2 with
    | none => rfl
    | some l => rfl
  have hrl : raws.length ≤ 9223372036854775807 := Own.le_max h.tab.glb
  have q2 : w.cell? ⟨R, 2, none⟩ = some (.slice ga raws.length gcap) := heap_cl h.rl.tb rfl
  have H0 : Hid (RTab w R mA mB m sv (.slice ga raws.length gcap) fv SA N F raws (t.1, [] ++ t.2.drop 0)) := by rw [List.drop_zero]; exact h
  clear hG2 hG hT h
  go_enter Tryz.func91, Tryz.ntmps91
  go_upto_region 1 with fail
  go_loopw [12] (fun iv wr => ∃ (i : Nat) (dn : List Glb), i ≤ raws.length ∧ iv = .int .i64 i ∧ Hid (dn.length = i ∧ RTab wr R mA mB m sv (.slice ga raws.length gcap) fv SA N F raws (t.1, dn ++ t.2.drop i) ∧ Below mA w wr) ∧ Hid (T = (glbsS F (t.2.drop i)).bind fun gs => some (dn ++ gs))) (fun iv _ => raws.length - (intOf iv).toNat)
  case atStart => exact ⟨0, [], Nat.zero_le _, by go_num, ⟨rfl, H0.out, Below.refl _ _⟩, HT0.out⟩
  case round =>
    clear H0 HT0 q2
    obtain ⟨i, dn, hi, rfl, HA, HT⟩ := hrel
    by_cases hil : i < raws.length
    · have hi2 : i < t.2.length := by have := HLN.out; omega
      obtain ⟨gb, cb, he, hcb, r0, r1, r2⟩ := gr_at HA.out.2.1.tab.glb hil
      obtain ⟨rfl, rfl⟩ : ga = some ⟨gb, 0, none⟩ ∧ gcap = cb := by cases he; exact ⟨rfl, rfl⟩
      have i1 : (0 : Int) ≤ (i : Int) := by omega
      have i2 : (i : Int) < (raws.length : Int) := by omega
      have hdr := List.drop_eq_getElem_cons hi2
      have HGI : Hid (∀ x ∈ t.2[i].2.2, x.1 = 2 → 0 ≤ x.2.1 ∧ x.2.1 < (F.length : Int)) := HGO.out _ (List.getElem_mem hi2)
      have hcod := HA.out.2.1.tab.cod i hil (by rw [List.length_append, HA.out.1, List.length_drop]; omega)
      have eT : ((t.1, dn ++ t.2.drop i) : Tab).2[i]'(by show i < (dn ++ t.2.drop i).length; rw [List.length_append, HA.out.1, List.length_drop]; omega) = t.2[i] := by
        show (dn ++ t.2.drop i)[i]'_ = _
        rw [List.getElem_append_right (by rw [HA.out.1]; exact Nat.le_refl _)]
        simp [HA.out.1]
      rw [eT] at hcod
      obtain ⟨k1, k2, k3⟩ := hcod
      obtain ⟨rest, hrest⟩ : ∃ rest, rest = t.2.drop (i + 1) := ⟨_, rfl⟩
      have HREST : Hid (rest = t.2.drop (i + 1)) := hrest
      rw [← hrest] at hdr
      obtain ⟨⟨nm, ar, code⟩, hgl⟩ : ∃ p, p = t.2[i] := ⟨_, rfl⟩
      rw [← hgl] at k1 k2 k3 hdr HGI
      replace k1 : raws[i].1 = nm := k1
      replace k2 : raws[i].2.1 = ar := k2
      replace k3 : Own EIns 53 (R + 1) wr (fun _ => False) raws[i].2.2 code := k3
      replace HGI : Hid (∀ x ∈ code, x.1 = 2 → 0 ≤ x.2.1 ∧ x.2.1 < (F.length : Int)) := HGI
      have HLI : Hid (dn.length = i) := HA.out.1
      obtain ⟨cv, hcv⟩ : ∃ cv, cv = raws[i].2.2 := ⟨_, rfl⟩
      rw [← hcv] at k3 r2
      rw [k1] at r0
      rw [k2] at r1
      have HRI : Hid (∃ h : dn.length < raws.length, raws[dn.length] = (nm, ar, cv)) := by
        refine ⟨by rw [HLI.out]; exact hil, ?_⟩
        have : raws[dn.length]'(by rw [HLI.out]; exact hil) = raws[i] := by simp only [HLI.out]
        rw [this, ← k1, ← k2, hcv]
      obtain ⟨ca, cc, rfl⟩ := k3.len
      rw [hdr] at HA HT
      have HT2 : Hid (T = (codeS F code).bind fun c => (glbsS F rest).bind fun gs => some ((dn ++ [(nm, ar, c)]) ++ gs)) := by show _ = _; rw [HT.out]; exact glbs_s_step _ _ _
      have HB0 : Hid (RTab wr R mA mB m sv (.slice (some ⟨gb, 0, none⟩) raws.length gcap) fv SA N F raws (t.1, dn ++ (nm, ar, [] ++ code) :: rest) ∧ Below mA w wr) := ⟨HA.out.2.1, HA.out.2.2⟩
      have hcvl := k3.lt
      have hcl : code.length ≤ 9223372036854775807 := k3.le_max
      clear HA HT hdr hgl k1 k2 k3 hcv eT he hrest hi
      obtain ⟨Y, hY⟩ : ∃ Y, Y = wr.heap.size := ⟨_, rfl⟩
      obtain ⟨W2, hW2⟩ : ∃ W2, W2 = wr.alloc (.cells #[.string ⟨nm.toArray⟩, .int .i64 ar, .slice ca code.length cc] 51) := ⟨_, rfl⟩
      have HSW : Hid (SW w W2 R mA mB Y m sv (.slice (some ⟨gb, 0, none⟩) raws.length gcap) fv SA N F raws t.1 dn nm ar [] code rest (.slice ca code.length cc)) := by
        rw [hW2, hY]
        exact ⟨HB0.out.1.grown ((Below.refl _ _).alloc (Nat.le_refl _) _), HB0.out.2.alloc (by have := lt_heap HB0.out.1.rl.tb; omega) _, new_blk _ _, HRI.out, fun e => Nat.lt_irrefl _ (hcvl _ e).2⟩
      have y2 : W2.cell? ⟨Y, 2, none⟩ = some (.slice ca code.length cc) := heap_cl HSW.out.y rfl
      have HYE : Hid (Y = wr.heap.size) := hY
      clear hY HB0 HRI hcvl
      go_upto_region 3 with fail
      rw [← hW2, ← HYE.out]
      clear hW2 r0 r1 r2
      go_upto_region 4 with fail
      go_loopw [19] (fun jv wi => ∃ (j : Nat) (dc : List Ins), j ≤ code.length ∧ jv = .int .i64 j ∧ Hid (dc.length = j ∧ SW w wi R mA mB Y m sv (.slice (some ⟨gb, 0, none⟩) raws.length gcap) fv SA N F raws t.1 dn nm ar dc (code.drop j) rest (.slice ca code.length cc)) ∧ Hid (T = (codeS F (code.drop j)).bind fun c => (glbsS F rest).bind fun gs => some ((dn ++ [(nm, ar, dc ++ c)]) ++ gs))) (fun jv _ => code.length - (intOf jv).toNat)
      case atStart => exact ⟨0, [], Nat.zero_le _, by go_num, ⟨rfl, HSW.out⟩, HT2.out⟩
      case round =>
        clear HSW HT2 y2
        obtain ⟨j, dc, hj, rfl, HWJ, HT⟩ := hrel
        by_cases hjl : j < code.length
        · have j1 : (0 : Int) ≤ (j : Int) := by omega
          have j2 : (j : Int) < (code.length : Int) := by omega
          have hdr := List.drop_eq_getElem_cons hjl
          have HXI : Hid (code[j].1 = 2 → 0 ≤ code[j].2.1 ∧ code[j].2.1 < (F.length : Int)) := HGI.out _ (List.getElem_mem hjl)
          obtain ⟨r, hr⟩ : ∃ r, r = code.drop (j + 1) := ⟨_, rfl⟩
          have HR : Hid (r = code.drop (j + 1)) := hr
          obtain ⟨x, hx⟩ : ∃ x, x = code[j] := ⟨_, rfl⟩
          rw [← hr, ← hx] at hdr
          rw [← hx] at HXI
          rw [hdr] at HWJ HT
          have HJ : Hid (dc.length = j) := HWJ.out.1
          have HW : Hid (SW w wr R mA mB Y m sv (.slice (some ⟨gb, 0, none⟩) raws.length gcap) fv SA N F raws t.1 dn nm ar dc (x :: r) rest (.slice ca code.length cc)) := HWJ.out.2
          clear HWJ hdr hr hx hj
          obtain ⟨g, cap, e1, c0, c1, f1, -⟩ := HW.out.at
          rw [HJ.out] at c0 c1 f1
          obtain ⟨rfl, rfl⟩ : ca = some ⟨g, 0, none⟩ ∧ cc = cap := by injection e1 with a1 _ a3; exact ⟨a1, a3⟩
          have y2 : wr.cell? ⟨Y, 2, none⟩ = some (.slice (some ⟨g, 0, none⟩) code.length cc) := heap_cl HW.out.y rfl
          clear e1
          obtain ⟨op, hop⟩ : ∃ op, op = x.1 := ⟨_, rfl⟩
          rw [← hop] at c0
          by_cases h2 : op = 2
          · subst h2
            obtain ⟨k, hxk⟩ : ∃ k : Nat, x.2.1 = (k : Int) := ⟨x.2.1.toNat, by have := (HXI.out hop.symm).1; omega⟩
            have hkF : k < F.length := by have := (HXI.out hop.symm).2; omega
            obtain ⟨gf, cf, rfl, -⟩ := int_at HW.out.tab.rl.f hkF
            obtain ⟨y, hy⟩ : ∃ y, y = F[k] := ⟨_, rfl⟩
            have HSX : Hid (insS F x = if y = -1 then none else some (x.1, y, x.2.2)) := by
              show _ = _
              unfold insS
              rw [if_pos hop.symm, hxk, Int.toNat_natCast, List.getD_eq_getElem?_getD, List.getElem?_eq_getElem hkF, hy]
              rfl
            have k1 : (0 : Int) ≤ (k : Int) := by omega
            have k2 : (k : Int) < (F.length : Int) := by omega
            rw [hxk] at c1
            have f2 := f1
            go_upto_region 8 with fail
            obtain ⟨D, hD⟩ : ∃ X : World, X = wr.drew := ⟨_, rfl⟩
            have HD : Hid (SW w D R mA mB Y m sv (.slice (some ⟨gb, 0, none⟩) raws.length gcap) (.slice (some ⟨gf, 0, none⟩) F.length cf) SA N F raws t.1 dn nm ar dc (x :: r) rest (.slice (some ⟨g, 0, none⟩) code.length cc)) := by rw [hD]; exact HW.out.drew
            obtain ⟨g1, cp1, e1, -, c1, f1, hset⟩ := HD.out.at
            obtain rfl : g = g1 := by injection e1 with a1 _ _; cases a1; rfl
            obtain ⟨gf1, cf1, e2, -, d1, -, -, -⟩ := int_at HD.out.tab.rl.f hkF
            obtain rfl : gf = gf1 := by cases e2; rfl
            rw [HJ.out] at c1 f1 hset
            rw [hxk] at c1
            rw [← hy] at d1
            have HSET : Hid (∀ y, SW w (D.setCell ⟨g, j * 3 + 1, none⟩ (.int .i64 y)) R mA mB Y m sv (.slice (some ⟨gb, 0, none⟩) raws.length gcap) (.slice (some ⟨gf, 0, none⟩) F.length cf) SA N F raws t.1 dn nm ar (dc ++ [(x.1, y, x.2.2)]) r rest (.slice (some ⟨g, 0, none⟩) code.length cc)) := hset
            have hS0 : (fun w' : World => w'.cell? ⟨R, 5, none⟩ = some (.slice (some ⟨gf, 0, none⟩) F.length cf) ∧ w'.cell? ⟨g, j * 3 + 1, none⟩ = some (.int .i64 (k : Nat)) ∧ w'.cell? ⟨gf, k, none⟩ = some (.int .i64 y)) D := ⟨heap_cl HD.out.tab.rl.tb rfl, c1, d1⟩
            clear HW e1 e2 hset d1 hxk hy
            refine wp_region_M (S := (fun w' : World => w'.cell? ⟨R, 5, none⟩ = some (.slice (some ⟨gf, 0, none⟩) F.length cf) ∧ w'.cell? ⟨g, j * 3 + 1, none⟩ = some (.int .i64 (k : Nat)) ∧ w'.cell? ⟨gf, k, none⟩ = some (.int .i64 y))) (L := 13) (n := 14) (by kernel_rfl) rfl (by kernel_rfl) ?_
            rw [← hD]
            clear hD
            refine wpAnyK_go (i := 0) (m' := 1) (some 31) (v := .pointer (some ⟨g, j * 3, none⟩)) rfl rfl (by kernel_rfl) (by kernel_rfl) (by kernel_rfl) (by kernel_rfl) (by kernel_rfl) (fun _ _ _ h => h) (Or.inl ⟨by rfl, ?_⟩) hS0 ?_
            · intro w' hSw
              go_simp
            try simp only [Act.put, List.setIfInBounds_toArray, List.set_cons_zero, List.set_cons_succ]
            refine wpAnyK_go (i := 1) (m' := 3) (some 32) (v := .pointer (some ⟨R, 0, none⟩)) rfl rfl (by kernel_rfl) (by kernel_rfl) (by kernel_rfl) (by kernel_rfl) (by kernel_rfl) (fun _ _ _ h => h) (Or.inl ⟨by rfl, ?_⟩) hS0 ?_
            · intro w' hSw
              go_simp
            try simp only [Act.put, List.setIfInBounds_toArray, List.set_cons_zero, List.set_cons_succ]
            refine wpAnyK_go (i := 2) (m' := 7) (some 33) (v := .pointer (some ⟨R, 0, none⟩)) rfl rfl (by kernel_rfl) (by kernel_rfl) (by kernel_rfl) (by kernel_rfl) (by kernel_rfl) (fun _ _ _ h => h) (Or.inl ⟨by rfl, ?_⟩) hS0 ?_
            · intro w' hSw
              go_simp
            try simp only [Act.put, List.setIfInBounds_toArray, List.set_cons_zero, List.set_cons_succ]
            refine wpAnyK_go (i := 3) (m' := 15) (some 34) (v := .pointer (some ⟨R, 5, none⟩)) rfl rfl (by kernel_rfl) (by kernel_rfl) (by kernel_rfl) (by kernel_rfl) (by kernel_rfl) (fun _ _ _ h => h) (Or.inl ⟨by rfl, ?_⟩) hS0 ?_
            · intro w' hSw
              go_simp
            try simp only [Act.put, List.setIfInBounds_toArray, List.set_cons_zero, List.set_cons_succ]
            refine wpAnyK_go (i := 4) (m' := 31) (some 35) (v := .slice (some ⟨gf, 0, none⟩) F.length cf) rfl rfl (by kernel_rfl) (by kernel_rfl) (by kernel_rfl) (by kernel_rfl) (by kernel_rfl) (fun _ _ _ h => h) (Or.inl ⟨by rfl, ?_⟩) hS0 ?_
            · intro w' hSw
              obtain ⟨p0, p1, p2⟩ := hSw
              go_simp
            try simp only [Act.put, List.setIfInBounds_toArray, List.set_cons_zero, List.set_cons_succ]
            refine wpAnyK_go (i := 5) (m' := 63) (some 36) (v := .pointer (some ⟨g, j * 3, none⟩)) rfl rfl (by kernel_rfl) (by kernel_rfl) (by kernel_rfl) (by kernel_rfl) (by kernel_rfl) (fun _ _ _ h => h) (Or.inl ⟨by rfl, ?_⟩) hS0 ?_
            · intro w' hSw
              go_simp
            try simp only [Act.put, List.setIfInBounds_toArray, List.set_cons_zero, List.set_cons_succ]
            refine wpAnyK_go (i := 6) (m' := 127) (some 37) (v := .pointer (some ⟨g, j * 3, none⟩)) rfl rfl (by kernel_rfl) (by kernel_rfl) (by kernel_rfl) (by kernel_rfl) (by kernel_rfl) (fun _ _ _ h => h) (Or.inl ⟨by rfl, ?_⟩) hS0 ?_
            · intro w' hSw
              go_simp
            try simp only [Act.put, List.setIfInBounds_toArray, List.set_cons_zero, List.set_cons_succ]
            refine wpAnyK_go (i := 7) (m' := 255) (some 38) (v := .pointer (some ⟨g, j * 3 + 1, none⟩)) rfl rfl (by kernel_rfl) (by kernel_rfl) (by kernel_rfl) (by kernel_rfl) (by kernel_rfl) (fun _ _ _ h => h) (Or.inl ⟨by rfl, ?_⟩) hS0 ?_
            · intro w' hSw
              go_simp
            try simp only [Act.put, List.setIfInBounds_toArray, List.set_cons_zero, List.set_cons_succ]
            refine wpAnyK_go (i := 8) (m' := 511) (some 39) (v := .int .i64 (k : Nat)) rfl rfl (by kernel_rfl) (by kernel_rfl) (by kernel_rfl) (by kernel_rfl) (by kernel_rfl) (fun _ _ _ h => h) (Or.inl ⟨by rfl, ?_⟩) hS0 ?_
            · intro w' hSw
              obtain ⟨p0, p1, p2⟩ := hSw
              go_simp
            try simp only [Act.put, List.setIfInBounds_toArray, List.set_cons_zero, List.set_cons_succ]
            refine wpAnyK_go (i := 9) (m' := 1023) (some 40) (v := .pointer (some ⟨gf, k, none⟩)) rfl rfl (by kernel_rfl) (by kernel_rfl) (by kernel_rfl) (by kernel_rfl) (by kernel_rfl) (fun _ _ _ h => h) (Or.inl ⟨by rfl, ?_⟩) hS0 ?_
            · intro w' hSw
              go_simp
            try simp only [Act.put, List.setIfInBounds_toArray, List.set_cons_zero, List.set_cons_succ]
            refine wpAnyK_go (i := 10) (m' := 2047) (some 41) (v := .int .i64 y) rfl rfl (by kernel_rfl) (by kernel_rfl) (by kernel_rfl) (by kernel_rfl) (by kernel_rfl) (fun _ _ _ h => h) (Or.inl ⟨by rfl, ?_⟩) hS0 ?_
            · intro w' hSw
              obtain ⟨p0, p1, p2⟩ := hSw
              go_simp
            try simp only [Act.put, List.setIfInBounds_toArray, List.set_cons_zero, List.set_cons_succ]
            refine wpAnyK_only (i := 11) (m' := 4095) (by kernel_rfl) rfl (by kernel_rfl) fun K hK => ?_
            go_simp
            refine hK.out _ _ (fun _ => hS0) ?_
            clear hK K
            try simp only [Act.put, List.setIfInBounds_toArray, List.set_cons_zero, List.set_cons_succ]
            refine wpAnyK_only (i := 12) (m' := 8191) (by kernel_rfl) rfl (by kernel_rfl) fun K hK => ?_
            go_simp
            refine hK.out _ _ (fun _ => hS0) ?_
            clear hK K
            try simp only [Act.put, List.setIfInBounds_toArray, List.set_cons_zero, List.set_cons_succ]
            refine wpAnyK_only (i := 13) (m' := 16383) (by kernel_rfl) rfl (by kernel_rfl) fun K hK => ?_
            go_simp
            refine hK.out _ _ (fun h => absurd rfl h) ?_
            clear hK K c1 f1
            refine wpAnyK_done (by kernel_rfl) ?_ _
            have HW2 : Hid (SW w _ R mA mB Y m sv (.slice (some ⟨gb, 0, none⟩) raws.length gcap) (.slice (some ⟨gf, 0, none⟩) F.length cf) SA N F raws t.1 dn nm ar _ _ _ _) := HSET.out y
            obtain ⟨W2, hW2⟩ : ∃ W2, W2 = D.setCell ⟨g, j * 3 + 1, none⟩ (.int .i64 y) := ⟨_, rfl⟩
            have c2 : W2.cell? ⟨g, j * 3 + 1, none⟩ = some (.int .i64 y) := by
              obtain ⟨cs, ty, q1, q2⟩ := HD.out.blk
              rw [hW2, HJ.out.symm]
              exact heap_cl (setCell_block q1) (q2 _)
            rw [← hW2] at HW2 ⊢
            clear hW2 HSET HD hS0
            by_cases hy1 : y = -1
            · subst hy1
              go_wp2_with (go_at_call 90; (with_reducible refine Calls.mono (CG _) ?_); rintro e7 w7 ⟨rfl, hw⟩; obtain rfl := hw.symm; clear hw)
              exact ⟨rfl, HFN.out _ (code_s_no HT.out (by rw [HSX.out]; simp)) HW2.out.bel⟩
            · have HT3 : Hid (T = (codeS F r).bind fun c => (glbsS F rest).bind fun gs => some ((dn ++ [(nm, ar, (dc ++ [(x.1, y, x.2.2)]) ++ c)]) ++ gs)) := code_s_go (K := fun c => (glbsS F rest).bind fun gs => some ((dn ++ [(nm, ar, c)]) ++ gs)) HT.out (by rw [HSX.out, if_neg hy1])
              clear HT HXI hop HSX
              go_wp2
              go_roundw
              case rel => exact ⟨j + 1, dc ++ [(x.1, y, x.2.2)], by omega, by go_num, ⟨by rw [List.length_append, HJ.out]; rfl, by rw [← HR.out]; exact HW2.out⟩, by rw [← HR.out]; exact HT3.out⟩
              case measure => simp [intOf]; omega
          · have HSX : Hid (insS F x = some x) := by
              show _ = _
              unfold insS
              rw [if_neg (fun e => h2 (hop.trans e))]
            have HT3 : Hid (T = (codeS F r).bind fun c => (glbsS F rest).bind fun gs => some ((dn ++ [(nm, ar, (dc ++ [x]) ++ c)]) ++ gs)) := code_s_go (K := fun c => (glbsS F rest).bind fun gs => some ((dn ++ [(nm, ar, c)]) ++ gs)) HT.out HSX.out
            clear HT HXI hop
            go_wp2
            go_roundw
            case rel => exact ⟨j + 1, dc ++ [x], by omega, by go_num, ⟨by rw [List.length_append, HJ.out]; rfl, by rw [← HR.out]; exact HW.out.skip⟩, by rw [← HR.out]; exact HT3.out⟩
            case measure => simp [intOf]; omega
        · have j3 : ¬ ((j : Int) < (code.length : Int)) := by omega
          have hd0 : code.drop j = [] := List.drop_eq_nil_of_le (by omega)
          rw [hd0] at HWJ HT
          have HT3 : Hid (T = (glbsS F (t.2.drop (i + 1))).bind fun gs => some ((dn ++ [(nm, ar, dc)]) ++ gs)) := by
            show _ = _
            rw [HT.out, ← HREST.out]
            show (glbsS F rest).bind (fun gs => some ((dn ++ [(nm, ar, dc ++ [])]) ++ gs)) = _
            rw [List.append_nil]
          have HB : Hid (RTab wr R mA mB m sv (.slice (some ⟨gb, 0, none⟩) raws.length gcap) fv SA N F raws (t.1, (dn ++ [(nm, ar, dc)]) ++ t.2.drop (i + 1)) ∧ Below mA w wr) := by
            refine ⟨?_, HWJ.out.2.bel⟩
            have h1 := HWJ.out.2.tab
            rw [List.append_nil] at h1
            rw [← HREST.out, List.append_assoc]
            exact h1
          clear HT HWJ hd0
          go_wp2
          go_roundw
          case rel => exact ⟨i + 1, dn ++ [(nm, ar, dc)], by omega, by go_num, ⟨by rw [List.length_append, HLI.out]; rfl, HB.out.1, HB.out.2⟩, HT3.out⟩
          case measure => simp [intOf]; omega
    · have i3 : ¬ ((i : Int) < (raws.length : Int)) := by omega
      have hd0 : t.2.drop i = [] := List.drop_eq_nil_of_le (by have := HLN.out; omega)
      rw [hd0] at HA HT
      have HTE : Hid (T = some dn) := by
        show _ = _
        rw [HT.out]
        show some (dn ++ []) = _
        rw [List.append_nil]
      have HB : Hid (RTab wr R mA mB m sv (.slice ga raws.length gcap) fv SA N F raws (t.1, dn) ∧ Below mA w wr) := by
        have h1 := HA.out.2
        rw [List.append_nil] at h1
        exact h1
      clear HT HA hd0
      go_wp2
      refine bodyPost_end (v := .tuple #[]) (by simp [results, Tryz.results91, go_sem]) rfl ?_
      exact HFS.out _ dn HTE.out HB.out.1 HB.out.2
end Go.Proofs.YtlpnegnpejpdkaaGreatDoor

namespace Go.Proofs.YtlpnegnpejpdkaaGreatDoor
open Go.RowKit

def shapeQW : Byt := [115, 104, 97, 112, 101]
def globalQW : Byt := [103, 108, 111, 98, 97, 108]
def shpsQ : Nat → Byt → Option (List Shp × Byt × Byt)
  | 0, _ => none
  | k + 1, m => if (wordP m).1 = shapeQW then (match shpQ (wordP m).2 with
    | some (p, m1) => (shpsQ k m1).map fun x => (p :: x.1, x.2)
    | none => none) else some ([], wordP m)
def glbsQ (SA : List Byt) : Nat → Nat → Byt → Byt → List Byt → List Int → Qst (List Glb × Byt)
  | 0, _, _, _, _, _ => none
  | k + 1, j, a, m, N, F => if a = globalQW then bindQ (glbQ SA j m N F) fun p m N F => bindQ (glbsQ SA k (j + 1) p.2 m N F) fun q m N F => some ((p.1 :: q.1, q.2), m, N, F) else some (([], a), m, N, F)
def finQ (ss : List Shp) (x : Qst (List Glb × Byt)) : Option Tab := match x with
  | some (q, m, _, F) => if q.2 = [] ∧ m = [] then (glbsS F q.1).map fun l => (ss, l) else none
  | none => none
def tailQ (ss : List Shp) (a m : Byt) : Option Tab := finQ ss (glbsQ (ss.map fun s => s.1) (m.length + 1) 0 a m [] [])
def tableQ (m : Byt) : Option Tab := (shpsQ (m.length + 1) m).bind fun x => tailQ x.1 x.2.1 x.2.2
theorem shps_go {T : Option Tab} {k : Nat} {m0 m1 : Byt} {done : List Shp} {p : Shp} (h : T = (shpsQ (k + 1) m0).bind fun x => tailQ (done ++ x.1) x.2.1 x.2.2) (ha : (wordP m0).1 = shapeQW) (hp : shpQ (wordP m0).2 = some (p, m1)) : T = (shpsQ k m1).bind fun x => tailQ ((done ++ [p]) ++ x.1) x.2.1 x.2.2 := by
  rw [h]
  have e : shpsQ (k + 1) m0 = (shpsQ k m1).map fun x => (p :: x.1, x.2) := by
    show (if (wordP m0).1 = shapeQW then (match shpQ (wordP m0).2 with | some (p, m1) => (shpsQ k m1).map fun x => (p :: x.1, x.2) | none => none) else some ([], wordP m0)) = _
    rw [if_pos ha, hp]
  rw [e]
  cases shpsQ k m1 with
  | none => rfl
  | some x => show tailQ (done ++ (p :: x.1)) x.2.1 x.2.2 = tailQ ((done ++ [p]) ++ x.1) x.2.1 x.2.2; rw [List.append_assoc]; rfl
theorem shps_no {T : Option Tab} {k : Nat} {m0 : Byt} {K : List Shp × Byt × Byt → Option Tab} (h : T = (shpsQ (k + 1) m0).bind K) (ha : (wordP m0).1 = shapeQW) (hp : shpQ (wordP m0).2 = none) : T = none := by
  rw [h]
  have e : shpsQ (k + 1) m0 = none := by
    show (if (wordP m0).1 = shapeQW then (match shpQ (wordP m0).2 with | some (p, m1) => (shpsQ k m1).map fun x => (p :: x.1, x.2) | none => none) else some ([], wordP m0)) = _
    rw [if_pos ha, hp]
  rw [e]
  rfl
theorem shps_end {T : Option Tab} {k : Nat} {m0 : Byt} {K : List Shp × Byt × Byt → Option Tab} (h : T = (shpsQ (k + 1) m0).bind K) (ha : (wordP m0).1 ≠ shapeQW) : T = K ([], wordP m0) := by
  rw [h]
  have e : shpsQ (k + 1) m0 = some ([], wordP m0) := if_neg ha
  rw [e]
  rfl
theorem glbs_q_go {SA : List Byt} {ss : List Shp} {T : Option Tab} {k j : Nat} {a m m1 : Byt} {N N1 : List Byt} {F F1 : List Int} {gs : List Glb} {p : Glb × Byt} (h : T = finQ ss (bindQ (glbsQ SA (k + 1) j a m N F) fun q m N F => some ((gs ++ q.1, q.2), m, N, F))) (ha : a = globalQW) (hp : glbQ SA j m N F = some (p, m1, N1, F1)) : T = finQ ss (bindQ (glbsQ SA k (j + 1) p.2 m1 N1 F1) fun q m N F => some (((gs ++ [p.1]) ++ q.1, q.2), m, N, F)) := by
  rw [h]
  have e : glbsQ SA (k + 1) j a m N F = bindQ (glbQ SA j m N F) fun p m N F => bindQ (glbsQ SA k (j + 1) p.2 m N F) fun q m N F => some ((p.1 :: q.1, q.2), m, N, F) := if_pos ha
  rw [e, hp]
  show finQ ss (bindQ (bindQ (glbsQ SA k (j + 1) p.2 m1 N1 F1) fun q m N F => some ((p.1 :: q.1, q.2), m, N, F)) _) = _
  cases glbsQ SA k (j + 1) p.2 m1 N1 F1 with
  | none => rfl
  | some x =>
    obtain ⟨q, m, N, F⟩ := x
    show finQ ss (some ((gs ++ (p.1 :: q.1), q.2), m, N, F)) = finQ ss (some (((gs ++ [p.1]) ++ q.1, q.2), m, N, F))
    rw [List.append_assoc]
    rfl
theorem glbs_q_no {SA : List Byt} {ss : List Shp} {T : Option Tab} {k j : Nat} {a m : Byt} {N : List Byt} {F : List Int} {K : List Glb × Byt → Byt → List Byt → List Int → Qst (List Glb × Byt)} (h : T = finQ ss (bindQ (glbsQ SA (k + 1) j a m N F) K)) (ha : a = globalQW) (hp : glbQ SA j m N F = none) : T = none := by
  rw [h]
  have e : glbsQ SA (k + 1) j a m N F = bindQ (glbQ SA j m N F) fun p m N F => bindQ (glbsQ SA k (j + 1) p.2 m N F) fun q m N F => some ((p.1 :: q.1, q.2), m, N, F) := if_pos ha
  rw [e, hp]
  rfl
theorem glbs_q_end {SA : List Byt} {ss : List Shp} {T : Option Tab} {k j : Nat} {a m : Byt} {N : List Byt} {F : List Int} {gs : List Glb} (h : T = finQ ss (bindQ (glbsQ SA (k + 1) j a m N F) fun q m N F => some ((gs ++ q.1, q.2), m, N, F))) (ha : a ≠ globalQW) : T = if a = [] ∧ m = [] then (glbsS F gs).map fun l => (ss, l) else none := by
  rw [h]
  have e : glbsQ SA (k + 1) j a m N F = some (([], a), m, N, F) := if_neg ha
  rw [e]
  show (if a = [] ∧ m = [] then (glbsS F (gs ++ [])).map fun l => (ss, l) else none) = _
  rw [List.append_nil]
theorem shp_q_len {l m : Byt} {p : Shp} (h : shpQ l = some (p, m)) : m.length ≤ l.length ∧ p.1.length ≤ 4096 := by
  unfold shpQ at h
  split at h
  · rename_i hn
    have h1 := name_q_left hn
    have h3 := name_q_len hn
    split at h
    · rename_i hu
      have h2 := num_p_len hu
      cases h
      exact ⟨by omega, h3⟩
    · cases h
  · cases h
theorem code_q_len {SA : List Byt} : ∀ (k : Nat) (l : Byt) (N : List Byt) (F : List Int) (c : List Ins × Byt) (m : Byt) (N' : List Byt) (F' : List Int), codeQ SA k l N F = some (c, m, N', F') → c.2.length + m.length ≤ l.length ∧ N'.length + m.length ≤ N.length + l.length
  | 0, _, _, _, _, _, _, _, h => by cases h
  | k + 1, l, N, F, c, m, N', F', h => by
    have h : (if opOfP (wordP l).1 = 0 then some (([], (wordP l).1), (wordP l).2, N, F) else bindQ (restQ SA (opOfP (wordP l).1 : Nat) (wordP l).2 N F) fun i m N F => bindQ (codeQ SA k m N F) fun c m N F => some ((i :: c.1, c.2), m, N, F)) = some (c, m, N', F') := h
    have hw := word_both l
    split at h
    · cases h
      exact ⟨hw, by show _ + ((wordP l).2).length ≤ _; omega⟩
    · obtain ⟨i, m1, N1, F1, h1, h⟩ := bind_q_some h
      obtain ⟨c2, m2, N2, F2, h2, h⟩ := bind_q_some h
      cases h
      have q1 := rest_q_len h1
      have q2 := code_q_len k _ _ _ _ _ _ _ h2
      exact ⟨by show c2.2.length + _ ≤ _; omega, by omega⟩
theorem glb_q_len {SA : List Byt} {j : Nat} {l : Byt} {N : List Byt} {F : List Int} {p : Glb × Byt} {m : Byt} {N' : List Byt} {F' : List Int} (h : glbQ SA j l N F = some (p, m, N', F')) : p.2.length + m.length + 2 ≤ l.length ∧ N'.length + m.length ≤ N.length + l.length := by
  unfold glbQ at h
  split at h
  · rename_i x m1 hn
    have h1 := name_q_left hn
    split at h
    · rename_i n m2 hu
      have h2 := num_p_len hu
      obtain ⟨c, m3, N3, F3, h3, h⟩ := bind_q_some h
      cases h
      have h4 := code_q_len _ _ _ _ _ _ _ _ h3
      have h5 := name_num_len N F x
      exact ⟨by show c.2.length + _ + 2 ≤ _; omega, by omega⟩
    · cases h
  · cases h
/-- What reading a table leaves. -/
def QT (w : World) (R mA mB : Nat) (x : Option Tab) (r : Ending) (w' : World) : Prop := match x with
  | some t => ∃ m sv gv fv SA N F raws, r = .returned (.tuple #[]) ∧ Hid (RTab w' R mA mB m sv gv fv SA N F raws t ∧ Below mA w w')
  | none => r = thrown 170 ∧ Hid (Below mA w w')
set_option maxHeartbeats 16000000 in
set_option maxRecDepth 10000 in
theorem qtab_any {w : World} {R mA mB : Nat} {m : Byt} (h : RTab w R mA mB m (.slice none 0 0) (.slice none 0 0) (.slice none 0 0) [] [] [] [] ([], [])) (hl : m.length ≤ 8388608) (hS : ∀ w', Below mA w w' → RdS w') :
    Calls Tryz.prog 51 #[.pointer (some ⟨R, 0, none⟩)] w fun r w' => QT w R mA mB (tableQ m) r w' := by
  obtain ⟨l1, l2⟩ := h.rl.lt
  have CG := fun W => giveUp_any 170 W
  unfold thrown at CG
  obtain ⟨T, hT⟩ : ∃ T, T = tableQ m := ⟨_, rfl⟩
  rw [← hT]
  obtain ⟨G, hG⟩ : ∃ G : Ending → World → Prop, G = fun r w' => QT w R mA mB T r w' := ⟨_, rfl⟩
  rw [← hG]
  have HFN : Hid (∀ w', T = none → Below mA w w' → G (thrown 170) w') := fun w' h1 h2 => by rw [hG, h1]; exact ⟨rfl, h2⟩
  have HFS : Hid (∀ w' t m sv gv fv SA N F raws, T = some t → RTab w' R mA mB m sv gv fv SA N F raws t → Below mA w w' → G (.returned (.tuple #[])) w') := fun w' t m sv gv fv SA N F raws h1 h2 h3 => by rw [hG, h1]; exact ⟨m, sv, gv, fv, SA, N, F, raws, rfl, h2, h3⟩
  have HS : Hid (∀ w', Below mA w w' → RdS w') := hS
  have HT0 : Hid (T = (shpsQ (m.length + 1) m).bind fun x => tailQ ([] ++ x.1) x.2.1 x.2.2) := hT
  have H0 : Hid (RTab w R mA mB m (.slice none 0 0) (.slice none 0 0) (.slice none 0 0) [] [] [] [] ([], [])) := h
  have CW := word_any h.rl.tb hl
  have HWL := word_both m
  have HW0 : Hid (wordP m = ((wordP m).1, (wordP m).2)) := rfl
  generalize (wordP m).1 = a0 at *
  generalize (wordP m).2 = m1 at *
  clear hG hS hT h
  go_enter Tryz.func51, Tryz.ntmps51
  go_upto_region 1 with (go_at_call 87; (with_reducible refine Calls.mono CW ?_); rintro e2 w2 ⟨rfl, H2⟩; have HA : Hid (RTab w2 R mA mB m1 (.slice none 0 0) (.slice none 0 0) (.slice none 0 0) [] [] [] [] ([], []) ∧ Below mA w w2) := ⟨H0.out.call (H0.out.rl.on_rk H2.out.1 H2.out.2).1 (H0.out.rl.on_rk H2.out.1 H2.out.2).2, H2.out.2.1.mono (by omega)⟩; clear H2 CW)
  clear H0
  go_loopw [2] (fun av wr => ∃ (k : Nat) (m0 a m' : Byt) (sv : Value) (done : List Shp), av = .string ⟨a.toArray⟩ ∧ Hid (RTab wr R mA mB m' sv (.slice none 0 0) (.slice none 0 0) (done.map fun s => s.1) [] [] [] (done, []) ∧ Below mA w wr) ∧ Hid (wordP m0 = (a, m')) ∧ Hid (T = (shpsQ (k + 1) m0).bind fun x => tailQ (done ++ x.1) x.2.1 x.2.2) ∧ Hid (m0.length ≤ k ∧ done.length + m0.length ≤ 8388608 ∧ a.length + m'.length ≤ m0.length)) (fun av wr => Lib.strSize av + restLen wr R)
  case atStart => exact ⟨m.length, m, a0, m1, .slice none 0 0, [], rfl, HA.out, HW0.out, HT0.out, Nat.le_refl _, by simp only [List.length_nil]; omega, HWL⟩
  case round =>
    clear HA HW0 HT0 HWL
    obtain ⟨k, m0, a, m', sv, done, rfl, HA, HW0, HT0, HL⟩ := hrel
    have hml := rest_lenQ HA.out.1.rl
    have hms : (⟨a.toArray⟩ : ByteArray).size = a.length := by show a.toArray.size = _; simp
    have HMS : Hid (Lib.strSize (.string ⟨a.toArray⟩) + restLen wr R = a.length + m'.length) := by show _ = _; rw [hml]; show (⟨a.toArray⟩ : ByteArray).size + _ = _; rw [hms]
    clear hml hms
    by_cases ha : a = shapeQW
    · have HAL : Hid (a.length = 5 ∧ (wordP m0).1 = shapeQW ∧ (wordP m0).2 = m') := by rw [ha, HW0.out]; exact ⟨rfl, ha, rfl⟩
      have hqa : (a == [115, 104, 97, 112, 101]) = true := by rw [ha]; rfl
      have CH := shape_any HA.out.1 (by have := HL.out; omega) (by simp) (by have := HL.out; simp only [List.length_map]; omega) (fun w' hb => HS.out w' (HA.out.2.trans hb))
      clear HW0 ha
      cases hp : shpQ m' with
      | none =>
        rw [hp] at CH
        replace CH : Calls Tryz.prog 88 #[.pointer (some ⟨R, 0, none⟩)] wr fun r w' => r = .panicked [{ v := .iface 28 (.int .i64 170), recovered := false }] ∧ Hid (Below mA wr w') := CH
        go_wp2_with (go_at_call 88; (with_reducible refine Calls.mono CH ?_); rintro e5 w5 ⟨rfl, H5⟩)
        exact ⟨rfl, HFN.out _ (shps_no HT0.out HAL.out.2.1 (by rw [HAL.out.2.2]; exact hp)) (HA.out.2.trans H5.out)⟩
      | some q =>
        obtain ⟨p, m3⟩ := q
        have hfuel : ∃ k2, k = k2 + 1 := ⟨k - 1, by have := HL.out; have := HAL.out.1; omega⟩
        obtain ⟨k2, rfl⟩ := hfuel
        have HT3 : Hid (T = (shpsQ (k2 + 1) m3).bind fun x => tailQ ((done ++ [p]) ++ x.1) x.2.1 x.2.2) := shps_go HT0.out HAL.out.2.1 (by rw [HAL.out.2.2]; exact hp)
        have HL3 : Hid (m3.length ≤ k2 ∧ (done ++ [p]).length + m3.length ≤ 8388608 ∧ m3.length < a.length + m'.length) := by
          have h1 := HL.out
          have h2 := HAL.out.1
          have h3 := (shp_q_len hp).1
          show _ ∧ _ ∧ _
          rw [List.length_append]
          simp only [List.length_cons, List.length_nil]
          omega
        rw [hp] at CH
        replace CH : Calls Tryz.prog 88 #[.pointer (some ⟨R, 0, none⟩)] wr fun r w' => r = .returned (.tuple #[]) ∧ Hid (∃ sv', RTab w' R mA mB m3 sv' (.slice none 0 0) (.slice none 0 0) ((done.map fun s => s.1) ++ [p.1]) [] [] [] (done ++ [p], []) ∧ Below mA wr w') := CH
        have HWL := word_both m3
        have HW3 : Hid (wordP m3 = ((wordP m3).1, (wordP m3).2)) := rfl
        obtain ⟨a3, ha3⟩ : ∃ a3, a3 = (wordP m3).1 := ⟨_, rfl⟩
        obtain ⟨m4, hm4⟩ : ∃ m4, m4 = (wordP m3).2 := ⟨_, rfl⟩
        rw [← ha3, ← hm4] at HWL HW3
        have HA3 : Hid (a3 = (wordP m3).1) := ha3
        have HM4 : Hid (m4 = (wordP m3).2) := hm4
        clear ha3 hm4
        clear HT0 HL hp HAL
        go_wp2_with (first | (go_at_call 88; (with_reducible refine Calls.mono CH ?_); rintro e5 w5 ⟨rfl, H5⟩; obtain ⟨sv', h5, h5b⟩ := H5.out; have CW := word_any h5.rl.tb (by have := HL3.out; omega); rw [← HA3.out, ← HM4.out] at CW; have H6 : Hid (RTab w5 R mA mB m3 sv' (.slice none 0 0) (.slice none 0 0) ((done.map fun s => s.1) ++ [p.1]) [] [] [] (done ++ [p], []) ∧ Below mA w w5) := ⟨h5, HA.out.2.trans h5b⟩; clear h5 h5b H5 CH) | (go_at_call 87; (with_reducible refine Calls.mono CW ?_); rintro e7 w7 ⟨rfl, H7⟩; have H8 : Hid (RTab w7 R mA mB m4 sv' (.slice none 0 0) (.slice none 0 0) ((done.map fun s => s.1) ++ [p.1]) [] [] [] (done ++ [p], []) ∧ Below mA w w7) := ⟨H6.out.1.call (H6.out.1.rl.on_rk H7.out.1 H7.out.2).1 (H6.out.1.rl.on_rk H7.out.1 H7.out.2).2, H6.out.2.trans (H7.out.2.1.mono (by omega))⟩; clear H7 CW))
        go_roundw
        case rel => exact ⟨k2, m3, a3, m4, sv', done ++ [p], rfl, ⟨by rw [List.map_append]; exact H8.out.1, H8.out.2⟩, HW3.out, HT3.out, HL3.out.1, HL3.out.2.1, HWL⟩
        case measure =>
          have h1 := rest_lenQ H8.out.1.rl
          have h2 : Lib.strSize (.string ⟨a3.toArray⟩) = a3.length := by show a3.toArray.size = _; simp
          rw [HMS.out, h1, h2]
          have := HL3.out.2.2
          omega
    · have hqa : (a == [115, 104, 97, 112, 101]) = false := beq_eq_false_iff_ne.2 ha
      have HT3 : Hid (T = tailQ done a m') := by
        have := shps_end HT0.out (by rw [HW0.out]; exact ha)
        rw [HW0.out, List.append_nil] at this
        exact this
      have HL3 : Hid (a.length + m'.length ≤ 8388608) := by have := HL.out; show _ ≤ _; omega
      clear HT0 HL ha HW0 HMS
      go_upto_region 4 with fail
      obtain ⟨SA, hSA⟩ : ∃ SA, SA = done.map fun s => s.1 := ⟨_, rfl⟩
      have HSA : Hid (SA = done.map fun s => s.1) := hSA
      rw [← hSA] at HA
      have HT4 : Hid (T = finQ done (bindQ (glbsQ SA (m'.length + 1) ([] : List Glb).length a m' [] []) fun q m N F => some (([] ++ q.1, q.2), m, N, F))) := by
        show _ = _
        rw [HT3.out]
        show finQ done (glbsQ (done.map fun s => s.1) (m'.length + 1) 0 a m' [] []) = _
        rw [← HSA.out]
        congr 1
        show _ = bindQ (glbsQ SA (m'.length + 1) 0 a m' [] []) _
        cases glbsQ SA (m'.length + 1) 0 a m' [] [] with
        | none => rfl
        | some p => rfl
      clear hSA HT3 HSA hqa
      go_loopw [2] (fun av wr => ∃ (k : Nat) (a m' : Byt) (gv fv : Value) (N : List Byt) (F : List Int) (raws : List (Byt × Int × Value)) (gs : List Glb), av = .string ⟨a.toArray⟩ ∧ Hid (RTab wr R mA mB m' sv gv fv SA N F raws (done, gs) ∧ Below mA w wr ∧ GlbOk N.length gs) ∧ Hid (T = finQ done (bindQ (glbsQ SA (k + 1) gs.length a m' N F) fun q m N F => some ((gs ++ q.1, q.2), m, N, F))) ∧ Hid (m'.length ≤ k ∧ gs.length + a.length + m'.length ≤ 8388608 ∧ N.length + m'.length ≤ 8388608)) (fun av wr => Lib.strSize av + restLen wr R)
      case atStart => exact ⟨m'.length, a, m', .slice none 0 0, .slice none 0 0, [], [], [], [], rfl, ⟨HA.out.1, HA.out.2, fun _ h => by cases h⟩, HT4.out, Nat.le_refl _, by have := HL3.out; simp only [List.length_nil]; omega, by have := HL3.out; simp only [List.length_nil]; omega⟩
      case round =>
        clear HA HT4 HL3
        obtain ⟨k, a, m', gv, fv, N, F, raws, gs, rfl, HA, HT, HL⟩ := hrel
        have hml := rest_lenQ HA.out.1.rl
        have hms : (⟨a.toArray⟩ : ByteArray).size = a.length := by show a.toArray.size = _; simp
        have HMS : Hid (Lib.strSize (.string ⟨a.toArray⟩) + restLen wr R = a.length + m'.length) := by show _ = _; rw [hml]; show (⟨a.toArray⟩ : ByteArray).size + _ = _; rw [hms]
        clear hml hms
        by_cases ha : a = globalQW
        · have HAL : Hid (a.length = 6 ∧ a = globalQW) := by rw [ha]; exact ⟨rfl, rfl⟩
          have hqa : (a == [103, 108, 111, 98, 97, 108]) = true := by rw [ha]; rfl
          have CH := global_any HA.out.1 (by have := HL.out; omega) (by have := HL.out; show gs.length < _; omega) (fun w' hb => HS.out w' (HA.out.2.1.trans hb))
          replace CH : Calls Tryz.prog 89 #[.pointer (some ⟨R, 0, none⟩)] wr fun r w' => QG wr R mA mB sv SA raws (done, gs) (glbQ SA gs.length m' N F) r w' := CH
          clear ha
          cases hp : glbQ SA gs.length m' N F with
          | none =>
            rw [hp] at CH
            replace CH : Calls Tryz.prog 89 #[.pointer (some ⟨R, 0, none⟩)] wr fun r w' => r = .panicked [{ v := .iface 28 (.int .i64 170), recovered := false }] ∧ Hid (Below mA wr w') := CH
            go_wp2_with (go_at_call 89; (with_reducible refine Calls.mono CH ?_); rintro e5 w5 ⟨rfl, H5⟩)
            exact ⟨rfl, HFN.out _ (glbs_q_no HT.out HAL.out.2 hp) (HA.out.2.1.trans H5.out)⟩
          | some q =>
            obtain ⟨⟨p, b⟩, m3, N3, F3⟩ := q
            have hq := glb_q_len hp
            have hnq := glb_q_name hp
            have hfuel : ∃ k2, k = k2 + 1 := ⟨k - 1, by have := HL.out; omega⟩
            obtain ⟨k2, rfl⟩ := hfuel
            have HT3 : Hid (T = finQ done (bindQ (glbsQ SA (k2 + 1) (gs ++ [p]).length b m3 N3 F3) fun q m N F => some (((gs ++ [p]) ++ q.1, q.2), m, N, F))) := by
              show _ = _
              rw [List.length_append]
              exact glbs_q_go HT.out HAL.out.2 hp
            have HL3 : Hid (m3.length ≤ k2 ∧ (gs ++ [p]).length + b.length + m3.length ≤ 8388608 ∧ N3.length + m3.length ≤ 8388608 ∧ b.length + m3.length < a.length + m'.length) := by
              have h1 := HL.out
              have h2 := HAL.out.1
              have h3 : b.length + m3.length + 2 ≤ m'.length := hq.1
              have h4 := hq.2
              show _ ∧ _ ∧ _ ∧ _
              rw [List.length_append]
              simp only [List.length_cons, List.length_nil]
              omega
            have HGK : Hid (GlbOk N3.length (gs ++ [p])) := (HA.out.2.2.more hnq.1).snoc hnq.2
            rw [hp] at CH
            replace CH : Calls Tryz.prog 89 #[.pointer (some ⟨R, 0, none⟩)] wr fun r w' => ∃ gv' fv' cv, r = .returned (.string ⟨b.toArray⟩) ∧ Hid (RTab w' R mA mB m3 sv gv' fv' SA N3 F3 (raws ++ [(p.1, p.2.1, cv)]) (done, gs ++ [p]) ∧ Below mA wr w') := CH
            clear HT HL hp HAL hq hnq
            go_wp2_with (go_at_call 89; (with_reducible refine Calls.mono CH ?_); rintro e5 w5 ⟨gv', fv', cv, rfl, H5⟩)
            go_roundw
            case rel => exact ⟨k2, b, m3, gv', fv', N3, F3, _, gs ++ [p], rfl, ⟨H5.out.1, HA.out.2.1.trans H5.out.2, HGK.out⟩, HT3.out, HL3.out.1, HL3.out.2.1, HL3.out.2.2.1⟩
            case measure =>
              have h1 := rest_lenQ H5.out.1.rl
              have h2 : Lib.strSize (.string ⟨b.toArray⟩) = b.length := by show b.toArray.size = _; simp
              rw [HMS.out, h1, h2]
              have := HL3.out.2.2.2
              omega
        · have hqa : (a == [103, 108, 111, 98, 97, 108]) = false := beq_eq_false_iff_ne.2 ha
          have HT3 : Hid (T = if a = [] ∧ m' = [] then (glbsS F gs).map fun l => (done, l) else none) := glbs_q_end HT.out ha
          have q0 : wr.cell? ⟨R, 0, none⟩ = some (.string ⟨m'.toArray⟩) := heap_cl HA.out.1.rl.tb rfl
          clear HT HL ha HMS
          by_cases ha0 : a = []
          · by_cases hm0 : m' = []
            · subst ha0
              subst hm0
              have HT5 : Hid (T = (glbsS F gs).map fun l => (done, l)) := by show _ = _; rw [HT3.out, if_pos ⟨rfl, rfl⟩]
              have CT := settle_any HA.out.1 (by have := HA.out.1.rl.len; rw [this]; exact HA.out.2.2)
              clear HT3
              cases hg : glbsS F gs with
              | none =>
                replace CT : Calls Tryz.prog 91 #[.pointer (some ⟨R, 0, none⟩)] wr fun r w' => QL wr R mA mB [] sv gv fv SA N F raws done (glbsS F gs) r w' := CT
                rw [hg] at CT
                replace CT : Calls Tryz.prog 91 #[.pointer (some ⟨R, 0, none⟩)] wr fun r w' => r = .panicked [{ v := .iface 28 (.int .i64 170), recovered := false }] ∧ Hid (Below mA wr w') := CT
                go_wp2_with (go_at_call 91; (with_reducible refine Calls.mono CT ?_); rintro e5 w5 ⟨rfl, H5⟩)
                exact ⟨rfl, HFN.out _ (by rw [HT5.out, hg]; rfl) (HA.out.2.1.trans H5.out)⟩
              | some l =>
                replace CT : Calls Tryz.prog 91 #[.pointer (some ⟨R, 0, none⟩)] wr fun r w' => QL wr R mA mB [] sv gv fv SA N F raws done (glbsS F gs) r w' := CT
                rw [hg] at CT
                replace CT : Calls Tryz.prog 91 #[.pointer (some ⟨R, 0, none⟩)] wr fun r w' => r = .returned (.tuple #[]) ∧ Hid (RTab w' R mA mB [] sv gv fv SA N F raws (done, l) ∧ Below mA wr w') := CT
                have HTE : Hid (T = some (done, l)) := by show _ = _; rw [HT5.out, hg]; rfl
                clear HT5 hg
                go_wp2_with (go_at_call 91; (with_reducible refine Calls.mono CT ?_); rintro e5 w5 ⟨rfl, H5⟩)
                refine bodyPost_end (v := .tuple #[]) (by simp [results, Tryz.results51, go_sem]) rfl ?_
                exact HFS.out _ _ _ _ _ _ _ _ _ _ HTE.out H5.out.1 (HA.out.2.1.trans H5.out.2)
            · subst ha0
              have qm : m'.isEmpty = false := by
                cases m' with
                | nil => exact absurd rfl hm0
                | cons _ _ => rfl
              have HTN : Hid (T = none) := by show _ = _; rw [HT3.out, if_neg (fun h => hm0 h.2)]
              clear HT3 hm0
              go_wp2_with (go_at_call 90; (with_reducible refine Calls.mono (CG _) ?_); rintro e7 w7 ⟨rfl, hw⟩; obtain rfl := hw.symm; clear hw)
              exact ⟨rfl, HFN.out _ HTN.out HA.out.2.1⟩
          · have qn : a.isEmpty = false := by
              cases a with
              | nil => exact absurd rfl ha0
              | cons _ _ => rfl
            have HTN : Hid (T = none) := by show _ = _; rw [HT3.out, if_neg (fun h => ha0 h.1)]
            clear HT3 ha0
            go_wp2_with (go_at_call 90; (with_reducible refine Calls.mono (CG _) ?_); rintro e7 w7 ⟨rfl, hw⟩; obtain rfl := hw.symm; clear hw)
            exact ⟨rfl, HFN.out _ HTN.out HA.out.2.1⟩
end Go.Proofs.YtlpnegnpejpdkaaGreatDoor
