/- The law's own small functions: renamed (patterns with other names of variables). -/
import Derived.Test.YtpdmkhnonbbhnaaVh
import Derived.Test.YtpdmkhnonbbhnaaMmx
import Derived.Test.YtpdmkhnonbbhnaaMbx
import Derived.Deep.RegionHeld3
import Derived.Deep.AppendLies
namespace Go.Proofs.Ytpdmkhnonbbhnaa
open Go.RowKit Go.Maps

def renL {α : Type} (nm : Str) (a : Lb) (k : List α) : Lb × List α := if a.1 = 2 then (if nm = [] then ((1, [], 0), []) else ((2, nm, a.2.2), k)) else (a, k)
theorem renL_wild {α : Type} (nm : Str) (a : Lb) (k : List α) (h : a.1 = 2) (hn : nm = []) : renL nm a k = ((1, [], 0), []) := by rw [renL, if_pos h, if_pos hn]
theorem renL_var {α : Type} (nm : Str) (a : Lb) (k : List α) (h : a.1 = 2) (hn : nm ≠ []) : renL nm a k = ((2, nm, a.2.2), k) := by rw [renL, if_pos h, if_neg hn]
theorem renL_else {α : Type} (nm : Str) (a : Lb) (k : List α) (h : a.1 ≠ 2) : renL nm a k = (a, k) := by rw [renL, if_neg h]
/-- A pattern with another name at its variables; wild at them if the name is empty. -/
def renN (nm : Str) : (d : Nat) → Pn d → Pn d
  | 0, t => t
  | d + 1, t => renL nm t.1 (t.2.map (renN nm d))
def renT (nm : Str) (p : Pt) : Pt := ⟨p.1, renN nm p.1 p.2⟩
theorem renT_wild (nm : Str) (hn : nm = []) : ∀ p : Pt, p.kind = 2 → (renT nm p).lab = (1, [], 0) ∧ (renT nm p).kids = []
  | ⟨0, t⟩, _ => t.elim
  | ⟨d + 1, t⟩, h => by
    have h' : t.1.1 = 2 := h
    have e : renN nm (d + 1) t = ((1, [], 0), []) := renL_wild nm _ _ h' hn
    unfold renT
    refine ⟨?_, ?_⟩
    · show (renN nm (d + 1) t).1 = _
      rw [e]
    · show (renN nm (d + 1) t).2.map (fun u => (⟨d, u⟩ : Pt)) = _
      rw [e]; rfl
theorem renT_var (nm : Str) (hn : nm ≠ []) : ∀ p : Pt, p.kind = 2 → (renT nm p).lab = (2, nm, p.num) ∧ (renT nm p).kids = p.kids.map (renT nm)
  | ⟨0, t⟩, _ => t.elim
  | ⟨d + 1, t⟩, h => by
    have h' : t.1.1 = 2 := h
    have e : renN nm (d + 1) t = ((2, nm, t.1.2.2), t.2.map (renN nm d)) := renL_var nm _ _ h' hn
    unfold renT
    refine ⟨?_, ?_⟩
    · show (renN nm (d + 1) t).1 = _
      rw [e]; rfl
    · show (renN nm (d + 1) t).2.map (fun u => (⟨d, u⟩ : Pt)) = (t.2.map fun u => (⟨d, u⟩ : Pt)).map _
      rw [e, List.map_map, List.map_map]; rfl
theorem renT_else (nm : Str) : ∀ p : Pt, p.kind ≠ 2 → (renT nm p).lab = p.lab ∧ (renT nm p).kids = p.kids.map (renT nm)
  | ⟨0, t⟩, _ => t.elim
  | ⟨d + 1, t⟩, h => by
    have h' : ¬ t.1.1 = 2 := h
    have e : renN nm (d + 1) t = (t.1, t.2.map (renN nm d)) := renL_else nm _ _ h'
    unfold renT
    refine ⟨?_, ?_⟩
    · show (renN nm (d + 1) t).1 = _
      rw [e]; rfl
    · show (renN nm (d + 1) t).2.map (fun u => (⟨d, u⟩ : Pt)) = (t.2.map fun u => (⟨d, u⟩ : Pt)).map _
      rw [e, List.map_map, List.map_map]; rfl
theorem RowP.unmap {α β : Type} {k : Nat} {Q : Nat → Nat → α → Prop} {Q' : Nat → Nat → β → Prop} {v : Value} {ps : List α} (f : α → β) (hQ : ∀ g o p, Q' g o (f p) → Q g o p) (h : RowP k Q' v (ps.map f)) : RowP k Q v ps := by
  rcases h with ⟨h, h'⟩ | ⟨g, o, cap, h1, h2, h3, h4⟩
  · exact .inl ⟨List.map_eq_nil_iff.1 h, h'⟩
  · refine .inr ⟨g, o, cap, by rw [h1, List.length_map], fun e => h2 (by rw [e]; rfl), by rwa [List.length_map] at h3, fun j hj => hQ _ _ _ ?_⟩
    have := h4 j (by rwa [List.length_map])
    rwa [List.getElem_map] at this
theorem PtP.mk {w : World} {S : Nat → Prop} {g o : Nat} : ∀ {p : Pt} {ad : Option Addr} {cap : Nat}, S g → w.cell? ⟨g, o, none⟩ = some (.int .i64 p.kind) → w.cell? ⟨g, o + 1, none⟩ = some (.string ⟨p.name.toArray⟩) → w.cell? ⟨g, o + 2, none⟩ = some (.int .i64 p.num) → p.name.length < 140737488355328 → p.kids.length < 140737488355328 → w.cell? ⟨g, o + 3, none⟩ = some (.slice ad p.kids.length cap) → Pats w S (.slice ad p.kids.length cap) p.kids → PtP w S g o p
  | ⟨0, t⟩, _, _, _, _, _, _, _, _, _, _ => t.elim
  | ⟨d + 1, t⟩, _, _, h0, h1, h2, h3, h4, h5, h6, h7 => ⟨h0, h1, h2, h3, h4, by
      have e : (Pt.kids ⟨d + 1, t⟩).length = t.2.length := List.length_map _
      rw [e] at h5
      exact h5, _, h6, RowP.unmap (fun u => (⟨d, u⟩ : Pt)) (fun _ _ _ h => h) h7⟩
/-- What lies in memory of a pattern that was appended: it, where its arguments lie. -/
abbrev Rq := Pt × Option Addr × Nat
def rnC (q : Rq) : List Value := [.int .i64 q.1.kind, .string ⟨q.1.name.toArray⟩, .int .i64 q.1.num, .slice q.2.1 q.1.kids.length q.2.2]
theorem rnC_len (l : List Rq) : (l.flatMap rnC).length = l.length * 4 := by
  induction l with
  | nil => rfl
  | cons a l ih => rw [List.flatMap_cons, List.length_append, ih, List.length_cons]; simp [rnC]; omega
theorem rnC_get : ∀ (l : List Rq) (j c : Nat) (h : j < l.length), c < 4 → (l.flatMap rnC)[j * 4 + c]? = (rnC l[j])[c]?
  | a :: l, 0, c, _, hc => by
    rw [List.flatMap_cons, List.getElem?_append_left (by simp [rnC]; omega)]
    simp
  | a :: l, j + 1, c, h, hc => by
    rw [List.flatMap_cons, List.getElem?_append_right (by simp [rnC]; omega)]
    have : (j + 1) * 4 + c - (rnC a).length = j * 4 + c := by simp [rnC]; omega
    rw [this, rnC_get l j c (by simpa using h) hc]
    simp
structure Rn (w : World) (l : List Rq) (v : Value) (wr : World) : Prop where
  below : Below w.heap.size w wr
  own : wr.ownsRow w.heap.size 39 4 v l.length (l.flatMap rnC)
  kids : ∀ q ∈ l, q.1.name.length < 140737488355328 ∧ q.1.kids.length < 140737488355328 ∧ Pats wr (fun y => w.heap.size ≤ y ∧ y < wr.heap.size ∧ v.ownBlock ≠ some y) (.slice q.2.1 q.1.kids.length q.2.2) q.1.kids
theorem Rn.start (w : World) : Rn w [] (.slice none 0 0) w := ⟨Below.refl _ _, World.ownsRow_nil _ _ _ _, fun _ h => by simp at h⟩
theorem Rn.snoc {w wr w5 w7 : World} {l : List Rq} {v v' : Value} {q : Rq} (h : Rn w l v wr) (hb : Below wr.heap.size wr w5) (h1 : q.1.name.length < 140737488355328) (h2 : q.1.kids.length < 140737488355328) (hp : Pats w5 (fun y => wr.heap.size ≤ y ∧ y < w5.heap.size) (.slice q.2.1 q.1.kids.length q.2.2) q.1.kids)
    (ho : w7.ownsRow w.heap.size 39 4 v' (l.length + 1) (l.flatMap rnC ++ rnC q)) (hg : w5.grownBy w7 v.ownBlock) (hv : v'.ownBlock = v.ownBlock ∨ v'.ownBlock = some w5.heap.size) : Rn w (l ++ [q]) v' w7 := by
  have hs := hb.size
  have hvl : ∀ g, v.ownBlock = some g → w.heap.size ≤ g ∧ g < wr.heap.size := fun g e => h.own.lt g e
  have hnb : ∀ B, B < w5.heap.size → v.ownBlock ≠ some B → v'.ownBlock ≠ some B := fun B hB hne => by
    rcases hv with e | e
    · rw [e]; exact hne
    · rw [e]; intro e2; injection e2 with e2; omega
  have hw := h.below.size
  have hgs := hg.size
  refine ⟨(h.below.trans (hb.mono hw)).grown hg (by omega) (fun y e => (hvl y e).1), ?_, fun y hy => ?_⟩
  · rw [List.length_append, List.flatMap_append]
    simpa using ho
  · rcases List.mem_append.1 hy with hy | hy
    · obtain ⟨k1, k2, k3⟩ := h.kids y hy
      refine ⟨k1, k2, ?_⟩
      have k4 := (k3.on (Keeps.of hb fun y hy => hy.2.1))
      refine Pats.up (k4.on fun y hy => hg.block y (by omega) fun e => hy.2.2 e.symm) fun y hy => ⟨hy.1, by omega, hnb y (by omega) hy.2.2⟩
    · obtain rfl := List.mem_singleton.1 hy
      refine ⟨h1, h2, Pats.up (hp.on fun y hy => hg.block y hy.2 fun e => by have := hvl y e.symm; omega) fun z hz => ⟨by omega, by omega, hnb z hz.2 fun e => by have := hvl z e; omega⟩⟩
theorem Rn.pats {w wr : World} {l : List Rq} {v : Value} (h : Rn w l v wr) : Pats wr (fun y => w.heap.size ≤ y ∧ y < wr.heap.size) v (l.map (·.1)) := by
  obtain ⟨_, ⟨h1, h2⟩ | ⟨g, cap, cur, rfl, h3⟩⟩ := h.own
  · exact .inl ⟨by rw [List.eq_nil_of_length_eq_zero h2]; rfl, none, 0, h1⟩
  · by_cases e : l = []
    · exact .inl ⟨by rw [e]; rfl, _, _, by rw [e]; rfl⟩
    · have hlt := h.own.lt g rfl
      refine .inr ⟨g, 0, cap, by rw [List.length_map], fun e' => e (List.map_eq_nil_iff.1 e'), ?_, fun j hj => ?_⟩
      · rw [List.length_map]
        exact h3.2.2.1
      · rw [List.length_map] at hj
        rw [List.getElem_map]
        obtain ⟨k1, k2, k3⟩ := h.kids l[j] (List.getElem_mem hj)
        have hc : ∀ c, c < 4 → wr.cell? ⟨g, 0 + j * 4 + c, none⟩ = (rnC l[j])[c]? := fun c hc => by
          rw [← rnC_get l j c hj hc, Nat.zero_add]
          exact h.own.cellAt (j * 4 + c) (by omega)
        exact PtP.mk ⟨hlt.1, hlt.2⟩ (hc 0 (by omega)) (hc 1 (by omega)) (hc 2 (by omega)) k1 k2 (hc 3 (by omega)) (k3.up fun y hy => ⟨hy.1, hy.2.1⟩)
def RenPost (nm : Str) (ps : List Pt) (w : World) (r : Ending) (w' : World) : Prop := Below w.heap.size w w' ∧ ∃ ad cap, r = .returned (.slice ad ps.length cap) ∧ Pats w' (fun y => w.heap.size ≤ y ∧ y < w'.heap.size) (.slice ad ps.length cap) (ps.map (renT nm))
def RenC (nm : Str) (ps : List Pt) : Prop := ∀ (v : Value) (w : World) (S : Nat → Prop), (∀ b, S b → b < w.heap.size) → Pats w S v ps → Calls Try.prog 12 #[v, .string ⟨nm.toArray⟩] w (RenPost nm ps w)
set_option maxHeartbeats 8000000 in
set_option maxRecDepth 10000 in
theorem ren_step (nm : Str) (hnm : nm.length < 140737488355328) (ps : List Pt) (hps : ps.length ≤ 100000) (hC : ∀ p ∈ ps, RenC nm p.kids) : RenC nm ps := by
  intro v w S hS hP
  obtain ⟨ad, cap, rfl, hrow⟩ := RowP.open hP
  have HS : Hid (∀ b, S b → b < w.heap.size) := hS
  have HC : Hid (∀ p ∈ ps, RenC nm p.kids) := hC
  have HR : Hid (ps ≠ [] → ∃ g o, ad = some ⟨g, o, none⟩ ∧ ps.length ≤ cap ∧ ∀ j (h : j < ps.length), PtP w S g (o + j * 4) ps[j]) := hrow
  have HNM : Hid (nm.length < 140737488355328) := hnm
  clear hS hC hP hrow hnm
  go_enter Try.func12, Try.ntmps12
  go_wp2
  go_loopw [5, 6] (fun ov iv wr => ∃ (i : Nat) (l : List Rq), i ≤ ps.length ∧ iv = .int .i64 i ∧ l.length = i ∧ Hid (Rn w l ov wr ∧ l.map (·.1) = (ps.take i).map (renT nm))) (fun _ iv _ => ps.length - (intOf iv).toNat)
  case atStart => exact ⟨0, [], by omega, by go_num, rfl, Rn.start w, rfl⟩
  case round =>
    obtain ⟨i, l, hi, rfl, hl, HRN⟩ := hrel
    have HB : Hid (Below w.heap.size w wr) := HRN.out.1.below
    by_cases hil : i < ps.length
    · obtain ⟨g, o, rfl, hc, hr⟩ := HR.out (fun e => by rw [e] at hil; simp at hil)
      have hk := Keeps.of HB.out HS.out
      obtain ⟨s0, c0, c1, c2, n0, n1, ka, kc, c3, hkd⟩ := PtP.open ((hr i hil).on hk)
      have i1 : (0 : Int) ≤ (i : Int) := by omega
      have i2 : (i : Int) < (ps.length : Int) := by omega
      have HK : Hid (Keeps S w wr ∧ S g) := ⟨hk, s0⟩
      have hg : g < wr.heap.size := by have := HS.out _ s0; have := HB.out.size; omega
      have HKD : Hid (∀ W, Below wr.heap.size wr W → (∀ b, S b → b < W.heap.size) ∧ Pats W S (.slice ka ps[i].kids.length kc) ps[i].kids ∧ W.cell? ⟨g, o + i * 4 + 3, none⟩ = some (.slice ka ps[i].kids.length kc)) := fun W hW => ⟨fun y hy => by have := HS.out y hy; have := HB.out.size; have := hW.size; omega, hkd.on (Keeps.of hW fun y hy => by have := HS.out y hy; have := HB.out.size; omega), (hW.cell (p := ⟨g, o + i * 4 + 3, none⟩) hg).trans c3⟩
      have HPC : Hid (∀ V, Below wr.heap.size wr V → V.cell? ⟨g, o + i * 4, none⟩ = some (.int .i64 ps[i].kind) ∧ V.cell? ⟨g, o + i * 4 + 1, none⟩ = some (.string ⟨ps[i].name.toArray⟩) ∧ V.cell? ⟨g, o + i * 4 + 2, none⟩ = some (.int .i64 ps[i].num)) := fun V hV => ⟨(hV.cell (p := ⟨g, o + i * 4, none⟩) hg).trans c0, (hV.cell (p := ⟨g, o + i * 4 + 1, none⟩) hg).trans c1, (hV.cell (p := ⟨g, o + i * 4 + 2, none⟩) hg).trans c2⟩
      have hS2 := HPC.out wr.drew (Below.refl _ _).drew
      have hS2A := fun ob => HPC.out (wr.drew.alloc ob) ((Below.refl _ _).drew.alloc (by simp) ob)
      have hS2B := fun ob => HPC.out (wr.alloc ob).drew ((Below.refl _ _).alloc (Nat.le_refl _) ob).drew
      have HCK : Hid (RenC nm ps[i].kids) := HC.out _ (List.getElem_mem hil)

      clear hk c0 c1 c2 c3 hkd hr
      have HN : Hid (ps[i].name.length < 140737488355328 ∧ ps[i].kids.length < 140737488355328) := ⟨n0, n1⟩
      clear n0 n1
      have HTK : Hid ((ps.take (i + 1)).map (renT nm) = (ps.take i).map (renT nm) ++ [renT nm ps[i]]) := by show _ = _; rw [List.take_add_one, List.getElem?_eq_getElem hil, List.map_append]; rfl
      generalize ps[i] = p at *
      go_upto_region 5 with fail
      go_region_held3 (fun V => V.cell? ⟨g, o + i * 4, none⟩ = some (.int .i64 p.kind) ∧ V.cell? ⟨g, o + i * 4 + 1, none⟩ = some (.string ⟨p.name.toArray⟩) ∧ V.cell? ⟨g, o + i * 4 + 2, none⟩ = some (.int .i64 p.num))
        (first | (with_reducible exact hS2) | (with_reducible exact hS2A _) | (with_reducible exact hS2B _)) (fail)
      obtain ⟨W1, hW1⟩ : ∃ W1, W1 = (wr.alloc (Obj.cells #[.int .i64 p.kind, .string ⟨p.name.toArray⟩, .int .i64 p.num, .slice none 0 0] 39)).drew := ⟨_, rfl⟩
      rw [← hW1]
      have HW1 : Hid (Below wr.heap.size wr W1 ∧ W1.heap.size = wr.heap.size + 1 ∧ W1.heap[wr.heap.size]? = some (.cells #[.int .i64 p.kind, .string ⟨p.name.toArray⟩, .int .i64 p.num, .slice none 0 0] 39 (0, 0))) := by
        show _ ∧ _ ∧ _
        rw [hW1]
        exact ⟨((Below.refl _ _).alloc (Nat.le_refl _) _).drew, by simp, new_block' wr _⟩
      obtain ⟨hs1, hp1, c3⟩ := HKD.out W1 HW1.out.1
      have CN := HCK.out _ W1 S hs1 hp1
      have HBX : Hid (∀ W, Below W1.heap.size W1 W → W.cell? ⟨wr.heap.size, 3, none⟩ = some (.slice none 0 0) ∧ W.frozen? ⟨wr.heap.size, 3, none⟩ = false) := fun W hW => by
        have e := (hW.block wr.heap.size (by have := HW1.out.2.1; omega)).trans HW1.out.2.2
        exact ⟨heap_cell' e rfl, heap_frozen e⟩
      clear hW1 hS2 hS2A hS2B HPC hs1 hp1 HCK HKD
      have HNK : Hid (p.kids.length < 140737488355328) := HN.out.2
      go_upto_region 7 with (first | (go_at_call 12; (with_reducible refine Calls.mono CN ?_); rintro e' w3 ⟨hb3, ad3, cap3, rfl, hp3⟩; obtain ⟨e3, f3⟩ := HBX.out w3 hb3))
      obtain ⟨W4, hW4⟩ : ∃ W4, W4 = w3.setCell ⟨wr.heap.size, 3, none⟩ (.slice ad3 p.kids.length cap3) := ⟨_, rfl⟩
      have HW4 : Hid (Below wr.heap.size wr W4 ∧ W4.heap[wr.heap.size]? = some (.cells #[.int .i64 p.kind, .string ⟨p.name.toArray⟩, .int .i64 p.num, .slice ad3 p.kids.length cap3] 39 (0, 0)) ∧ Pats W4 (fun y => wr.heap.size < y ∧ y < W4.heap.size) (.slice ad3 p.kids.length cap3) (p.kids.map (renT nm))) := by
        show _ ∧ _ ∧ _
        have h1 := HW1.out
        have e := (hb3.block wr.heap.size (by omega)).trans h1.2.2
        refine ⟨?_, ?_, ?_⟩
        · rw [hW4]
          exact (h1.1.trans (hb3.mono h1.1.size)).setCell (Nat.le_refl _) _
        · rw [hW4, setCell_block e]
          simp
        · have hs4 : W4.heap.size = w3.heap.size := by rw [hW4]; simp [World.setCell]
          refine Pats.up (hp3.on (w' := W4) fun y hy => ?_) fun y hy => ⟨by omega, by omega⟩
          rw [hW4, Below.heap_setCell _ _ _ _ (by show y ≠ wr.heap.size; omega)]
      rw [← hW4]
      clear hW4 hb3 hp3 e3 f3 CN HBX c3
      have x0 := heap_cell' (i := 0) HW4.out.2.1 rfl
      obtain ⟨i0, hi0, hz0, hz1, hz2⟩ := info_parts Try.info39
      have hlw : l.length ≤ 100000 := by omega
      have hwz := HB.out.size
      by_cases hk2 : p.kind = 2
      · have HK2 : Hid (p.kind = 2) := hk2
        rw [hk2] at x0
        have x1f := heap_frozen (o := 1) HW4.out.2.1
        have x1 := heap_cell' (i := 1) HW4.out.2.1 rfl
        obtain ⟨W5, hW5⟩ : ∃ W5, W5 = W4.setCell ⟨wr.heap.size, 1, none⟩ (.string ⟨nm.toArray⟩) := ⟨_, rfl⟩
        have HW5 : Hid (Below wr.heap.size wr W5 ∧ W5.heap[wr.heap.size]? = some (.cells #[.int .i64 2, .string ⟨nm.toArray⟩, .int .i64 p.num, .slice ad3 p.kids.length cap3] 39 (0, 0)) ∧ Pats W5 (fun y => wr.heap.size < y ∧ y < W5.heap.size) (.slice ad3 p.kids.length cap3) (p.kids.map (renT nm))) := by
          show _ ∧ _ ∧ _
          refine ⟨?_, ?_, ?_⟩
          · rw [hW5]
            exact HW4.out.1.setCell (Nat.le_refl _) _
          · rw [hW5, setCell_block HW4.out.2.1, hk2]
            simp
          · have hs4 : W5.heap.size = W4.heap.size := by rw [hW5]; simp [World.setCell]
            refine Pats.up (HW4.out.2.2.on (w' := W5) fun y hy => ?_) fun y hy => ⟨hy.1, by omega⟩
            rw [hW5, Below.heap_setCell _ _ _ _ (by show y ≠ wr.heap.size; omega)]
        clear hk2
        go_upto_region 9 with fail
        rw [← hW5]
        clear hW5 x0 x1 x1f HW4
        have x0 := heap_cell' (i := 0) HW5.out.2.1 rfl
        have x1 := heap_cell' (i := 1) HW5.out.2.1 rfl
        have x2 := heap_cell' (i := 2) HW5.out.2.1 rfl
        have x3 := heap_cell' (i := 3) HW5.out.2.1 rfl
        by_cases hn : nm = []
        · have es : List.isEmpty nm = true := by rw [hn]; rfl
          have f0 := heap_frozen (o := 0) HW5.out.2.1
          have f1 := heap_frozen (o := 1) HW5.out.2.1
          have f2 := heap_frozen (o := 2) HW5.out.2.1
          have f3 := heap_frozen (o := 3) HW5.out.2.1
          obtain ⟨U, hU, hUR, hUs, hUk, hUo⟩ := store4 HW5.out.2.1 (.int .i64 1) (.string ⟨#[]⟩) (.int .i64 0) (.slice none 0 0)
          have HB5 : Hid (Below wr.heap.size wr U) := HW5.out.1.trans ⟨hUo.1, hUo.2.1, hUo.2.2, by omega, fun k hk => hUk k (by omega)⟩
          have HQ : Hid ((renT nm p).name.length < 140737488355328 ∧ (renT nm p).kids.length < 140737488355328 ∧ Pats U (fun y => wr.heap.size ≤ y ∧ y < U.heap.size) (.slice none (renT nm p).kids.length 0) (renT nm p).kids) := by
            obtain ⟨h1, h2⟩ := renT_wild nm hn p HK2.out
            show _ ∧ _ ∧ _
            unfold Pt.name
            rw [h1, h2]
            exact ⟨by simp, by simp, .inl ⟨rfl, _, _, rfl⟩⟩
          have HE : Hid (rnC ((renT nm p, none, 0) : Rq) = [.int .i64 1, .string ⟨#[]⟩, .int .i64 0, .slice none 0 0]) := by
            obtain ⟨h1, h2⟩ := renT_wild nm hn p HK2.out
            show _ = _
            unfold rnC Pt.kind Pt.name Pt.num
            rw [h1, h2]
            rfl
          clear hn hUk hUo hUs
          go_upto_region 11 with fail
          rw [← hU]
          clear hU x0 x1 x2 x3 f0 f1 f2 f3
          have x0 := heap_cell' (i := 0) hUR rfl
          have x1 := heap_cell' (i := 1) hUR rfl
          have x2 := heap_cell' (i := 2) hUR rfl
          have x3 := heap_cell' (i := 3) hUR rfl
          clear hUR
          have hown5 : U.ownsRow w.heap.size 39 4 u5 l.length (l.flatMap rnC) := own_keep HRN.out.1.own fun k hk => HB5.out.block k (HRN.out.1.own.lt k hk).2
          have hw5 : wr.heap.size ≤ U.heap.size := HB5.out.size
          go_wp2_with (at_builtin; refine wpList_append_lies _ rfl _ _ 24 rfl w.heap.size 39 i0 _ 4 56 Try.underlying24 hi0 hz0 hz1 hz2 rfl (by decide) _ _ _ rfl (hown5.alloc _) ⟨U.heap.size, 0, none⟩ 1 1 [.int .i64 1, .string ⟨#[]⟩, .int .i64 0, .slice none 0 0] rfl rfl (World.news_of_block (new_block' U _)) (by intro u hu; simp at hu; rcases hu with rfl | rfl | rfl | rfl <;> rfl) (by omega) (by unfold maxLen; omega) (by omega) (by simp; omega) (U.heap.size + 1) (by simp) ?_; intro g' cap' W7 hown7 hgr7 hat7 hlt7)
          have HN7 : Hid (Rn w (l ++ [((renT nm p, none, 0) : Rq)]) (.slice (some ⟨g', 0, none⟩) (l.length + 1) cap') W7) := HRN.out.1.snoc (q := ((renT nm p, none, 0) : Rq)) (w5 := U.alloc _) (HB5.out.alloc HB5.out.size _) HQ.out.1 HQ.out.2.1 (Pats.up (HQ.out.2.2.on (Keeps.of ((Below.refl _ _).alloc (Nat.le_refl _) _) fun y hy => hy.2)) fun y hy => ⟨hy.1, by simp; omega⟩) (by rw [HE.out]; exact hown7) hgr7 (hat7.imp (fun e => by show some g' = _; exact e.symm) (fun e => by show some g' = _; rw [e]; simp))
          clear hown7 hgr7 hat7 hlt7 hown5 x0 x1 x2 x3
          go_wp2
          refine ⟨⟨i + 1, l ++ [((renT nm p, none, 0) : Rq)], hil, by go_num, by simp [hl], ?_, ?_⟩, by simp [intOf]; omega⟩
          · simpa [hl] using HN7.out
          · rw [HTK.out, List.map_append, HRN.out.2]; rfl
        · have es : List.isEmpty nm = false := by
            cases nm with
            | nil => exact absurd rfl hn
            | cons _ _ => rfl
          have HQ : Hid ((renT nm p).name.length < 140737488355328 ∧ (renT nm p).kids.length < 140737488355328 ∧ Pats W5 (fun y => wr.heap.size ≤ y ∧ y < W5.heap.size) (.slice ad3 (renT nm p).kids.length cap3) (renT nm p).kids) := by
            obtain ⟨h1, h2⟩ := renT_var nm hn p HK2.out
            show _ ∧ _ ∧ _
            unfold Pt.name
            rw [h1, h2, List.length_map]
            exact ⟨HNM.out, HN.out.2, HW5.out.2.2.up fun y hy => ⟨by omega, hy.2⟩⟩
          have HE : Hid (rnC ((renT nm p, ad3, cap3) : Rq) = [.int .i64 2, .string ⟨nm.toArray⟩, .int .i64 p.num, .slice ad3 p.kids.length cap3]) := by
            obtain ⟨h1, h2⟩ := renT_var nm hn p HK2.out
            show _ = _
            unfold rnC Pt.kind Pt.name Pt.num
            rw [h1, h2, List.length_map]
            rfl
          clear hn
          have HB5 : Hid (Below wr.heap.size wr W5) := HW5.out.1
          have hown5 : W5.ownsRow w.heap.size 39 4 u5 l.length (l.flatMap rnC) := own_keep HRN.out.1.own fun k hk => HB5.out.block k (HRN.out.1.own.lt k hk).2
          have hw5 : wr.heap.size ≤ W5.heap.size := HB5.out.size
          go_wp2_with (at_builtin; refine wpList_append_lies _ rfl _ _ 24 rfl w.heap.size 39 i0 _ 4 56 Try.underlying24 hi0 hz0 hz1 hz2 rfl (by decide) _ _ _ rfl (hown5.alloc _) ⟨W5.heap.size, 0, none⟩ 1 1 [.int .i64 2, .string ⟨nm.toArray⟩, .int .i64 p.num, .slice ad3 p.kids.length cap3] rfl rfl (World.news_of_block (new_block' W5 _)) (by intro u hu; simp at hu; rcases hu with rfl | rfl | rfl | rfl <;> rfl) (by omega) (by unfold maxLen; omega) (by omega) (by simp; omega) (W5.heap.size + 1) (by simp) ?_; intro g' cap' W7 hown7 hgr7 hat7 hlt7)
          have HN7 : Hid (Rn w (l ++ [((renT nm p, ad3, cap3) : Rq)]) (.slice (some ⟨g', 0, none⟩) (l.length + 1) cap') W7) := HRN.out.1.snoc (q := ((renT nm p, ad3, cap3) : Rq)) (w5 := W5.alloc _) (HB5.out.alloc HB5.out.size _) HQ.out.1 HQ.out.2.1 (Pats.up (HQ.out.2.2.on (Keeps.of ((Below.refl _ _).alloc (Nat.le_refl _) _) fun y hy => hy.2)) fun y hy => ⟨hy.1, by simp; omega⟩) (by rw [HE.out]; exact hown7) hgr7 (hat7.imp (fun e => by show some g' = _; exact e.symm) (fun e => by show some g' = _; rw [e]; simp))
          clear hown7 hgr7 hat7 hlt7 hown5 x0 x1 x2 x3
          go_wp2
          refine ⟨⟨i + 1, l ++ [((renT nm p, ad3, cap3) : Rq)], hil, by go_num, by simp [hl], ?_, ?_⟩, by simp [intOf]; omega⟩
          · simpa [hl] using HN7.out
          · rw [HTK.out, List.map_append, HRN.out.2]; rfl
      · have HQ : Hid ((renT nm p).name.length < 140737488355328 ∧ (renT nm p).kids.length < 140737488355328 ∧ Pats W4 (fun y => wr.heap.size ≤ y ∧ y < W4.heap.size) (.slice ad3 (renT nm p).kids.length cap3) (renT nm p).kids) := by
          obtain ⟨h1, h2⟩ := renT_else nm p hk2
          show _ ∧ _ ∧ _
          unfold Pt.name
          rw [h1, h2, List.length_map]
          exact ⟨HN.out.1, HN.out.2, HW4.out.2.2.up fun y hy => ⟨by omega, hy.2⟩⟩
        have HE : Hid (rnC ((renT nm p, ad3, cap3) : Rq) = [.int .i64 p.kind, .string ⟨p.name.toArray⟩, .int .i64 p.num, .slice ad3 p.kids.length cap3]) := by
          obtain ⟨h1, h2⟩ := renT_else nm p hk2
          show _ = _
          unfold rnC Pt.kind Pt.name Pt.num
          rw [h1, h2, List.length_map]
        have HB5 : Hid (Below wr.heap.size wr W4) := HW4.out.1
        have x1 := heap_cell' (i := 1) HW4.out.2.1 rfl
        have x2 := heap_cell' (i := 2) HW4.out.2.1 rfl
        have x3 := heap_cell' (i := 3) HW4.out.2.1 rfl
        have hown5 : W4.ownsRow w.heap.size 39 4 u5 l.length (l.flatMap rnC) := own_keep HRN.out.1.own fun k hk => HB5.out.block k (HRN.out.1.own.lt k hk).2
        have hw5 : wr.heap.size ≤ W4.heap.size := HB5.out.size
        go_wp2_with (at_builtin; refine wpList_append_lies _ rfl _ _ 24 rfl w.heap.size 39 i0 _ 4 56 Try.underlying24 hi0 hz0 hz1 hz2 rfl (by decide) _ _ _ rfl (hown5.alloc _) ⟨W4.heap.size, 0, none⟩ 1 1 [.int .i64 p.kind, .string ⟨p.name.toArray⟩, .int .i64 p.num, .slice ad3 p.kids.length cap3] rfl rfl (World.news_of_block (new_block' W4 _)) (by intro u hu; simp at hu; rcases hu with rfl | rfl | rfl | rfl <;> rfl) (by omega) (by unfold maxLen; omega) (by omega) (by simp; omega) (W4.heap.size + 1) (by simp) ?_; intro g' cap' W7 hown7 hgr7 hat7 hlt7)
        have HN7 : Hid (Rn w (l ++ [((renT nm p, ad3, cap3) : Rq)]) (.slice (some ⟨g', 0, none⟩) (l.length + 1) cap') W7) := HRN.out.1.snoc (q := ((renT nm p, ad3, cap3) : Rq)) (w5 := W4.alloc _) (HB5.out.alloc HB5.out.size _) HQ.out.1 HQ.out.2.1 (Pats.up (HQ.out.2.2.on (Keeps.of ((Below.refl _ _).alloc (Nat.le_refl _) _) fun y hy => hy.2)) fun y hy => ⟨hy.1, by simp; omega⟩) (by rw [HE.out]; exact hown7) hgr7 (hat7.imp (fun e => by show some g' = _; exact e.symm) (fun e => by show some g' = _; rw [e]; simp))
        clear hown7 hgr7 hat7 hlt7 hown5 x0 x1 x2 x3
        go_wp2
        refine ⟨⟨i + 1, l ++ [((renT nm p, ad3, cap3) : Rq)], hil, by go_num, by simp [hl], ?_, ?_⟩, by simp [intOf]; omega⟩
        · simpa [hl] using HN7.out
        · rw [HTK.out, List.map_append, HRN.out.2]; rfl
    · obtain rfl : i = ps.length := by omega
      have HF : Hid (RenPost nm ps w (.returned u5) wr) := by
        have h1 := HRN.out.1.pats
        have h2 := HRN.out.2
        rw [List.take_length] at h2
        rw [h2] at h1
        obtain ⟨ad', cap', e⟩ := RowP.len h1
        rw [List.length_map] at e
        exact ⟨HB.out, ad', cap', by rw [e], by rw [← e]; exact h1⟩
      clear HRN HR HC
      go_wp2
      refine bodyPost_ret (v := u5) (by simp [results, Try.results12, go_sem]) rfl ?_
      exact HF.out
/-- renamed, of a row of patterns. -/
theorem ren_any (nm : Str) (hnm : nm.length < 140737488355328) : ∀ (D : Nat) (ps : List Pt), (∀ p ∈ ps, p.1 < D) → szs ps ≤ 100000 → RenC nm ps
  | 0, ps, hD, h => ren_step nm hnm ps (Nat.le_trans (len_le_szs ps) h) fun p hp => absurd (hD p hp) (by omega)
  | D + 1, ps, hD, h => ren_step nm hnm ps (Nat.le_trans (len_le_szs ps) h) fun p hp => ren_any nm hnm D p.kids (fun q hq => by have := Pt.kids_lt hq; have := hD p hp; omega) (by have := sz_le_szs hp; have := p.sz_eq; omega)
end Go.Proofs.Ytpdmkhnonbbhnaa
