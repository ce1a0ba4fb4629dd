/- textReader: the table that is read; shapes. -/
import Derived.Test.YtlpnegnpejpdkaaGreatDoorMmx
import Derived.Test.YtlpnegnpejpdkaaGreatDoorRi
namespace Go.Proofs.YtlpnegnpejpdkaaGreatDoor
open Go.RowKit

theorem OwnN.plain {α : Type} {E : Elt α} {e B : Nat} {w w' : World} {v : Value} {l : List α} (hE : ∀ w S w' S' cs x, E.C w S cs x → E.C w' S' cs x) (h : OwnN E e B (fun _ => False) w v l) (hk : ∀ b, v.ownBlock = some b → w'.heap[b]? = w.heap[b]?) : OwnN E e B (fun _ => False) w' v l := by
  have h1 : Own E e B w' (fun _ => False) v l := by
    obtain ⟨css, q1, q2⟩ := h.row
    have h2 : Own E e B w (fun _ => False) v l := ⟨⟨css, ⟨q1.1, fun i a b => hE _ _ _ _ _ _ (q1.2 i a b)⟩, q2⟩, fun _ h => h.elim⟩
    exact h2.on (fun _ h => h.elim) hk
  refine ⟨?_, fun y hy e => ?_⟩
  · obtain ⟨css, q1, q2⟩ := h1.row
    exact ⟨css, ⟨q1.1, fun i a b => hE _ _ _ _ _ _ (q1.2 i a b)⟩, q2⟩
  · rcases hy with hy | hy
    · exact hy.elim
    · exact hy.2.2 e
theorem TabR.ge {w : World} {B : Nat} {sv gv : Value} {raws : List (Byt × Int × Value)} {t : Tab} (h : TabR w B sv gv raws t) : ∀ v ∈ (sv :: gv :: raws.map fun r => r.2.2), ∀ b, v.ownBlock = some b → B ≤ b := by
  intro v hv b e
  simp only [List.mem_cons, List.mem_map] at hv
  rcases hv with rfl | rfl | ⟨r, hr, rfl⟩
  · exact (h.shp.lt b e).1
  · exact (h.glb.lt b e).1
  · obtain ⟨i, hi, rfl⟩ := List.getElem_of_mem hr
    exact ((h.cod i hi (by rw [← h.len]; exact hi)).2.2.lt b e).1
theorem TabR.kept {w w' : World} {B : Nat} {sv gv : Value} {raws : List (Byt × Int × Value)} {t : Tab} (h : TabR w B sv gv raws t) (hk : ∀ v ∈ (sv :: gv :: raws.map fun r => r.2.2), ∀ b, v.ownBlock = some b → w'.heap[b]? = w.heap[b]?) : TabR w' B sv gv raws t :=
  ⟨h.shp.plain (fun _ _ _ _ _ _ h => h) (hk sv (by simp)), h.glb.plain (fun _ _ _ _ _ _ h => h) (hk gv (by simp)), h.len, fun i a b => ⟨(h.cod i a b).1, (h.cod i a b).2.1, (h.cod i a b).2.2.on (fun _ h => h.elim) (hk _ (by simp only [List.mem_cons]; exact .inr (.inr (List.mem_map.2 ⟨raws[i], List.getElem_mem a, rfl⟩))))⟩, h.apt⟩
/-- A reader and the table that it has read. -/
structure RTab (w : World) (R mA mB : Nat) (m : Byt) (sv gv fv : Value) (SA N : List Byt) (F : List Int) (raws : List (Byt × Int × Value)) (t : Tab) : Prop where
  rl : RL w R mA mB m sv gv SA N fv F
  tab : TabR w (R + 1) sv gv raws t
  apt : ∀ v ∈ (sv :: gv :: raws.map fun r => r.2.2), Apt fv v
theorem RTab.kept {w w' : World} {R mA mB : Nat} {m : Byt} {sv gv fv : Value} {SA N : List Byt} {F : List Int} {raws : List (Byt × Int × Value)} {t : Tab} (h : RTab w R mA mB m sv gv fv SA N F raws t) (hk : ∀ y, y ≤ R ∨ (R < y ∧ y < w.heap.size) → w'.heap[y]? = w.heap[y]?) : RTab w' R mA mB m sv gv fv SA N F raws t :=
  ⟨h.rl.kept fun y hy => hk y (hy.imp id fun e => h.rl.f.lt y e), h.tab.kept fun v hv b e => hk b (.inr ⟨h.tab.ge v hv b e, h.tab.lt v hv b e⟩), h.apt⟩
theorem RTab.grown {w w' : World} {R mA mB : Nat} {m : Byt} {sv gv fv : Value} {SA N : List Byt} {F : List Int} {raws : List (Byt × Int × Value)} {t : Tab} (h : RTab w R mA mB m sv gv fv SA N F raws t) (hb : Below w.heap.size w w') : RTab w' R mA mB m sv gv fv SA N F raws t :=
  h.kept fun y hy => hb.block y (by have := lt_heap h.rl.tb; omega)
theorem RTab.call {w w' : World} {R mA mB : Nat} {m : Byt} {sv gv fv : Value} {SA N : List Byt} {F : List Int} {raws : List (Byt × Int × Value)} {t : Tab} {m' : Byt} {N' : List Byt} {fv' : Value} {F' : List Int} (h : RTab w R mA mB m sv gv fv SA N F raws t) (h1 : RL w' R mA mB m' sv gv SA N' fv' F') (h2 : LO w R mB fv w' fv') : RTab w' R mA mB m' sv gv fv' SA N' F' raws t := by
  obtain ⟨l1, l2⟩ := h.rl.lt
  refine ⟨h1, h.tab.kept fun v hv b e => ?_, fun v hv b e e2 => ?_⟩
  · have := h.tab.ge v hv b e
    exact h2.kept b (h.tab.lt v hv b e) (by omega) (by omega) fun e2 => h.apt v hv b e2 e
  · rcases h2.own with e3 | ⟨g, e3, hg⟩
    · exact h.apt v hv b (e3 ▸ e) e2
    · rw [e3] at e
      injection e with e
      have := h.tab.lt v hv b e2
      omega
/-- A list of a made table whose row grows. -/
theorem apt_new {u u' v : Value} {n : Nat} (h : Apt u v) (hl : ∀ b, v.ownBlock = some b → b < n) (G : u.ownBlock = u'.ownBlock ∨ ∃ g, u'.ownBlock = some g ∧ n ≤ g) : Apt u' v := fun b e e2 => by
  rcases G with G | ⟨g, G, hg⟩
  · exact h b (G.trans e) e2
  · rw [G] at e
    injection e with e
    have := hl b e2
    omega
theorem apt_symm {u v : Value} (h : Apt u v) : Apt v u := fun b e e2 => h b e2 e
/-- One shape more. -/
theorem RTab.shape {w : World} {R mA mB : Nat} {m : Byt} {sv gv fv : Value} {SA N : List Byt} {F : List Int} {raws : List (Byt × Int × Value)} {t : Tab} {w6 : World} {sv' : Value} {p : Shp} (h : RTab w R mA mB m sv gv fv SA N F raws t) (O6 : OwnN EShp 48 (R + 1) (fun _ => False) w6 sv' (t.1 ++ [p])) (hb : Below (R + 1) w w6) (hk : ∀ y, y < w.heap.size → sv.ownBlock ≠ some y → w6.heap[y]? = w.heap[y]?) (G : sv.ownBlock = sv'.ownBlock ∨ ∃ g, sv'.ownBlock = some g ∧ w.heap.size ≤ g) :
    RTab (w6.setCell ⟨R, 1, none⟩ sv') R mA mB m sv' gv fv SA N F raws (t.1 ++ [p], t.2) ∧ Below R w (w6.setCell ⟨R, 1, none⟩ sv') := by
  have hR := lt_heap h.rl.tb
  obtain ⟨l1, l2⟩ := h.rl.lt
  have hs : ∀ y, y ≠ R → (w6.setCell ⟨R, 1, none⟩ sv').heap[y]? = w6.heap[y]? := fun y hy => Below.heap_setCell _ _ _ _ hy
  have hap := h.tab.apt
  rw [List.pairwise_cons] at hap
  obtain ⟨a1, a2⟩ := hap
  have hfv := h.apt sv (by simp)
  have hlt := h.tab.lt
  have hge := h.tab.ge
  have k1 : ∀ v : Value, Apt sv v → (∀ b, v.ownBlock = some b → R + 1 ≤ b ∧ b < w.heap.size) → ∀ b, v.ownBlock = some b → (w6.setCell ⟨R, 1, none⟩ sv').heap[b]? = w.heap[b]? := fun v hv hl b e => by
    have := hl b e
    exact (hs b (by omega)).trans (hk b this.2 fun e2 => hv b e2 e)
  have hin : ∀ v ∈ (gv :: raws.map fun r => r.2.2), v ∈ (sv :: gv :: raws.map fun r => r.2.2) := fun v hv => List.mem_cons_of_mem _ hv
  have k2 : ∀ v ∈ (gv :: raws.map fun r => r.2.2), ∀ b, v.ownBlock = some b → (w6.setCell ⟨R, 1, none⟩ sv').heap[b]? = w.heap[b]? := fun v hv => k1 v (a1 v hv) fun b e => ⟨hge v (hin v hv) b e, hlt v (hin v hv) b e⟩
  have hb6 : ∀ y, y ≤ R → w6.heap[y]? = w.heap[y]? := fun y hy => hb.block y (by omega)
  obtain ⟨na, hna, ha⟩ := h.rl.a
  obtain ⟨nb, hnb, hm⟩ := h.rl.b
  have htb6 : TB w6 R m sv gv (.map (some mA)) (.map (some mB)) fv := (hb6 R (Nat.le_refl _)).trans h.rl.tb
  refine ⟨⟨⟨(setCell_block htb6).trans rfl, ⟨na, hna, ha.on ((hs _ (by omega)).trans (hb6 _ (by omega)))⟩, ⟨nb, hnb, hm.on ((hs _ (by omega)).trans (hb6 _ (by omega)))⟩, h.rl.f.int_keep (k1 fv (apt_symm hfv) h.rl.f.lt), ⟨l1, l2⟩, h.rl.len⟩, ⟨O6.plain (fun _ _ _ _ _ _ h => h) fun b e => hs b (by have := (O6.lt b e).1; omega), h.tab.glb.plain (fun _ _ _ _ _ _ h => h) (k2 gv (by simp)), h.tab.len, fun i a b => ?_, List.pairwise_cons.2 ⟨fun v hv => apt_new (a1 v hv) (hlt v (hin v hv)) G, a2⟩⟩, fun v hv => ?_⟩, (hb.mono (Nat.le_succ R)).setCell (p := ⟨R, 1, none⟩) (Nat.le_refl R) _⟩
  · have := h.tab.cod i a b
    exact ⟨this.1, this.2.1, this.2.2.on (fun _ h => h.elim) (k2 _ (List.mem_cons_of_mem _ (List.mem_map.2 ⟨raws[i], List.getElem_mem a, rfl⟩)))⟩
  · rcases List.mem_cons.1 hv with rfl | hv
    · exact apt_symm (apt_new (apt_symm hfv) (fun b e => (h.rl.f.lt b e).2) G)
    · exact h.apt v (List.mem_cons_of_mem _ hv)
theorem idx_twice {L : List Byt} {y : Byt} {i : Nat} (h : posP L y = some i) : idxV (L ++ [y]) = idxV L := by
  funext x
  unfold idxV
  rw [pos_snoc]
  cases hx : posP L x with
  | some j => rfl
  | none =>
    by_cases hxy : y = x
    · subst hxy
      rw [h] at hx
      cases hx
    · show Option.map _ (if y = x then some L.length else none) = _
      rw [if_neg hxy]
/-- A shape with another name in the reader's own map. -/
theorem RTab.named {w w' : World} {R mA mB : Nat} {m : Byt} {sv gv fv : Value} {SA N : List Byt} {F : List Int} {raws : List (Byt × Int × Value)} {t : Tab} {x : Byt} {k : Nat} (h : RTab w R mA mB m sv gv fv SA N F raws t) (hM : Mv w' mA k (idxV (SA ++ [x]))) (hk1 : k ≤ SA.length + 1) (hk : ∀ y, y < w.heap.size → y ≠ mA → w'.heap[y]? = w.heap[y]?) : RTab w' R mA mB m sv gv fv (SA ++ [x]) N F raws t := by
  have hR := lt_heap h.rl.tb
  obtain ⟨l1, l2⟩ := h.rl.lt
  obtain ⟨nb, hnb, hm⟩ := h.rl.b
  refine ⟨⟨(hk R hR (by omega)).trans h.rl.tb, ⟨k, by simpa using hk1, hM⟩, ⟨nb, hnb, hm.on (hk _ hm.lt (by omega))⟩, h.rl.f.int_keep fun b e => ?_, ⟨l1, l2⟩, h.rl.len⟩, h.tab.kept fun v hv b e => ?_, h.apt⟩
  · have := h.rl.f.lt b e
    exact hk b this.2 (by omega)
  · have := h.tab.ge v hv b e
    exact hk b (h.tab.lt v hv b e) (by omega)
def shpQ (l : Byt) : Option (Shp × Byt) := match nameQ l with
  | some (x, m1) => (match numP' m1 with | some (n, m) => some ((x, n), m) | none => none)
  | none => none
/-- What reading a shape leaves. -/
def QH (w : World) (R mA mB : Nat) (gv fv : Value) (SA N : List Byt) (F : List Int) (raws : List (Byt × Int × Value)) (t : Tab) (x : Option (Shp × Byt)) (r : Ending) (w' : World) : Prop := match x with
  | some (p, m) => r = .returned (.tuple #[]) ∧ Hid (∃ sv', RTab w' R mA mB m sv' gv fv (SA ++ [p.1]) N F raws (t.1 ++ [p], t.2) ∧ Below mA w w')
  | none => r = thrown 170 ∧ Hid (Below mA w w')
set_option maxHeartbeats 16000000 in
set_option maxRecDepth 10000 in
theorem shape_any {w : World} {R mA mB : Nat} {m : Byt} {sv gv fv : Value} {SA N : List Byt} {F : List Int} {raws : List (Byt × Int × Value)} {t : Tab} (h : RTab w R mA mB m sv gv fv SA N F raws t) (hl : m.length ≤ 8388608) (hSL : SA.length = t.1.length) (hSn : SA.length < 90000000) (hS : ∀ w', Below mA w w' → RdS w') :
    Calls Tryz.prog 88 #[.pointer (some ⟨R, 0, none⟩)] w fun r w' => QH w R mA mB gv fv SA N F raws t (shpQ m) r w' := by
  obtain ⟨l1, l2⟩ := h.rl.lt
  have H : Hid (RTab w R mA mB m sv gv fv SA N F raws t) := h
  obtain ⟨G, hG⟩ : ∃ G : Ending → World → Prop, G = fun r w' => QH w R mA mB gv fv SA N F raws t (shpQ m) r w' := ⟨_, rfl⟩
  rw [← hG]
  have HFN : Hid (∀ w', shpQ m = none → Below mA w w' → G (thrown 170) w') := fun w' h1 h2 => by rw [hG]; show QH _ _ _ _ _ _ _ _ _ _ _ _ _ _; rw [h1]; exact ⟨rfl, h2⟩
  have HFS : Hid (∀ w' p m' sv', shpQ m = some (p, m') → RTab w' R mA mB m' sv' gv fv (SA ++ [p.1]) N F raws (t.1 ++ [p], t.2) → Below mA w w' → G (.returned (.tuple #[])) w') := fun w' p m' sv' h1 h2 h3 => by rw [hG]; show QH _ _ _ _ _ _ _ _ _ _ _ _ _ _; rw [h1]; exact ⟨rfl, sv', h2, h3⟩
  have HS : Hid (∀ w', Below mA w w' → RdS w') := hS
  have HE : Hid (shpQ m = match nameQ m with | some (x, m1) => (match numP' m1 with | some (n, m) => some ((x, n), m) | none => none) | none => none) := rfl
  have CN := qname_any h.rl.tb hl
  clear hG hS
  cases hnm : nameQ m with
  | none =>
    rw [hnm] at CN
    replace CN : Calls Tryz.prog 112 #[.pointer (some ⟨R, 0, none⟩)] w fun r w' => r = .panicked [{ v := .iface 28 (.int .i64 170), recovered := false }] ∧ Hid (Rk w R w') := CN
    have HE2 : Hid (shpQ m = none) := by show _ = _; rw [HE.out, hnm]
    clear HE hnm h
    go_enter Tryz.func88, Tryz.ntmps88
    go_wp2_with (go_at_call 112; (with_reducible refine Calls.mono CN ?_); rintro e2 w2 ⟨rfl, H2⟩)
    exact ⟨rfl, HFN.out _ HE2.out (H2.out.1.mono (by omega))⟩
  | some p =>
    obtain ⟨x, m1⟩ := p
    rw [hnm] at CN
    replace CN : Calls Tryz.prog 112 #[.pointer (some ⟨R, 0, none⟩)] w fun r w' => r = .returned (.string ⟨x.toArray⟩) ∧ Hid (TB w' R m1 sv gv (.map (some mA)) (.map (some mB)) fv ∧ Rk w R w') := CN
    have hxl := name_q_len hnm
    have hm1 : m1.length ≤ 8388608 := by have := name_q_left hnm; omega
    have CQ : ∀ w2, TB w2 R m1 sv gv (.map (some mA)) (.map (some mB)) fv → Below mA w w2 → Calls Tryz.prog 113 #[.pointer (some ⟨R, 0, none⟩)] w2 fun r w' => QN w2 R sv gv (.map (some mA)) (.map (some mB)) fv (numP' m1) r w' := fun w2 h1 h2 => qnum_any h1 hm1 fun w' hb => (HS.out w' (h2.trans (hb.mono (by omega)))).num
    cases hnu : numP' m1 with
    | none =>
      rw [hnu] at CQ
      replace CQ : ∀ w2, TB w2 R m1 sv gv (.map (some mA)) (.map (some mB)) fv → Below mA w w2 → Calls Tryz.prog 113 #[.pointer (some ⟨R, 0, none⟩)] w2 fun r w' => r = .panicked [{ v := .iface 28 (.int .i64 170), recovered := false }] ∧ Hid (Rk w2 R w') := CQ
      have HE2 : Hid (shpQ m = none) := by show _ = _; rw [HE.out, hnm]; show (match numP' m1 with | some (n, m) => some ((x, n), m) | none => none) = none; rw [hnu]
      clear HE hnm h hnu
      go_enter Tryz.func88, Tryz.ntmps88
      go_wp2_with (first | (go_at_call 112; (with_reducible refine Calls.mono CN ?_); rintro e2 w2 ⟨rfl, H2⟩; have C2 := CQ w2 H2.out.1 (H2.out.2.1.mono (by omega)); clear CN CQ) | (go_at_call 113; (with_reducible refine Calls.mono C2 ?_); rintro e3 w3 ⟨rfl, H3⟩))
      exact ⟨rfl, HFN.out _ HE2.out ((H2.out.2.1.mono (by omega)).trans (H3.out.1.mono (by omega)))⟩
    | some p =>
      obtain ⟨n, m2⟩ := p
      rw [hnu] at CQ
      replace CQ : ∀ w2, TB w2 R m1 sv gv (.map (some mA)) (.map (some mB)) fv → Below mA w w2 → Calls Tryz.prog 113 #[.pointer (some ⟨R, 0, none⟩)] w2 fun r w' => r = .returned (.int .i64 n) ∧ Hid (TB w' R m2 sv gv (.map (some mA)) (.map (some mB)) fv ∧ Rk w2 R w') := CQ
      have HE2 : Hid (shpQ m = some ((x, n), m2)) := by show _ = _; rw [HE.out, hnm]; show (match numP' m1 with | some (n, m) => some ((x, n), m) | none => none) = _; rw [hnu]
      clear HE hnm h hnu hm1 hl
      go_enter Tryz.func88, Tryz.ntmps88
      go_upto_region 1 with (first | (go_at_call 112; (with_reducible refine Calls.mono CN ?_); rintro e2 w2 ⟨rfl, H2⟩; have C2 := CQ w2 H2.out.1 (H2.out.2.1.mono (by omega)); have HR2 : Hid (RTab w2 R mA mB m1 sv gv fv SA N F raws t ∧ Below mA w w2) := ⟨H.out.call (H.out.rl.on_rk H2.out.1 H2.out.2).1 (H.out.rl.on_rk H2.out.1 H2.out.2).2, H2.out.2.1.mono (by omega)⟩; clear CN CQ H2) | (go_at_call 113; (with_reducible refine Calls.mono C2 ?_); rintro e3 w3 ⟨rfl, H3⟩; have HR3 : Hid (RTab w3 R mA mB m2 sv gv fv SA N F raws t ∧ Below mA w w3) := ⟨HR2.out.1.call (HR2.out.1.rl.on_rk H3.out.1 H3.out.2).1 (HR2.out.1.rl.on_rk H3.out.1 H3.out.2).2, HR2.out.2.trans (H3.out.2.1.mono (by omega))⟩; clear C2 H3 HR2))
      obtain ⟨Z, hZ⟩ : ∃ Z, Z = w3.heap.size := ⟨_, rfl⟩
      rw [← hZ]
      have hA0 := HR3.out.1.grown ((Below.refl _ _).alloc (Nat.le_refl _) (.cells #[.string ⟨x.toArray⟩, .int .i64 n] 48))
      obtain ⟨W, hW⟩ : ∃ W, W = w3.alloc (.cells #[.string ⟨x.toArray⟩, .int .i64 n] 48) := ⟨_, rfl⟩
      have HA : Hid (RTab W R mA mB m2 sv gv fv SA N F raws t ∧ W.heap[Z]? = some (.cells #[.string ⟨x.toArray⟩, .int .i64 n] 48 (0, 0)) ∧ Below mA w W ∧ R < Z ∧ sv.ownBlock ≠ some Z) := by
        rw [hW, hZ]
        exact ⟨hA0, new_blk _ _, HR3.out.2.alloc (by have := lt_heap HR3.out.1.rl.tb; omega) _, lt_heap HR3.out.1.rl.tb, fun e => Nat.lt_irrefl _ (HR3.out.1.tab.shp.lt _ e).2⟩
      rw [← hW]
      clear hA0 HR3 hW hZ
      obtain ⟨ad, cap, rfl⟩ := HA.out.1.tab.shp.len
      obtain ⟨na, hna, hma⟩ := HA.out.1.rl.a
      have hma : Mv W.drew mA na (idxV SA) := hma.on rfl
      have hlk := hma.look84 x (by omega)
      obtain ⟨D, hD⟩ : ∃ X : World, X = W.drew := ⟨_, rfl⟩
      have HD : Hid (RTab D R mA mB m2 (.slice ad t.1.length cap) gv fv SA N F raws t ∧ D.heap[Z]? = some (.cells #[.string ⟨x.toArray⟩, .int .i64 n] 48 (0, 0)) ∧ Below mA w D ∧ R < Z ∧ (Value.slice ad t.1.length cap).ownBlock ≠ some Z) := by rw [hD]; exact ⟨HA.out.1.kept (fun _ _ => rfl), HA.out.2.1, HA.out.2.2.1.drew, HA.out.2.2.2⟩
      have hS0 : (fun w' : World => w'.cell? ⟨R, 3, none⟩ = some (.map (some mA)) ∧ w'.cell? ⟨R, 1, none⟩ = some (.slice ad t.1.length cap) ∧ w'.cell? ⟨Z, 0, none⟩ = some (.string ⟨x.toArray⟩) ∧ w'.cell? ⟨Z, 1, none⟩ = some (.int .i64 n)) D := ⟨heap_cl HD.out.1.rl.tb rfl, heap_cl HD.out.1.rl.tb rfl, heap_cl HD.out.2.1 rfl, heap_cl HD.out.2.1 rfl⟩
      clear HA
      refine wp_region_M (S := (fun w' : World => w'.cell? ⟨R, 3, none⟩ = some (.map (some mA)) ∧ w'.cell? ⟨R, 1, none⟩ = some (.slice ad t.1.length cap) ∧ w'.cell? ⟨Z, 0, none⟩ = some (.string ⟨x.toArray⟩) ∧ w'.cell? ⟨Z, 1, none⟩ = some (.int .i64 n))) (L := 100) (n := 12) (by kernel_rfl) rfl (by kernel_rfl) ?_
      rw [← hD]
      rw [← hD] at hma hlk
      clear hD
      refine wpAnyK_go (i := 0) (m' := 1) (some 11) (v := .pointer (some ⟨R, 0, none⟩)) rfl rfl (by kernel_rfl) (by kernel_rfl) (by kernel_rfl) (by kernel_rfl) (by kernel_rfl) (fun _ _ _ h => h) (Or.inl ⟨by rfl, ?_⟩) hS0 ?_
      · intro w' hSw
        go_simp
      try simp only [Act.put, List.setIfInBounds_toArray, List.set_cons_zero, List.set_cons_succ]
      refine wpAnyK_go (i := 1) (m' := 3) (some 12) (v := .pointer (some ⟨R, 0, none⟩)) rfl rfl (by kernel_rfl) (by kernel_rfl) (by kernel_rfl) (by kernel_rfl) (by kernel_rfl) (fun _ _ _ h => h) (Or.inl ⟨by rfl, ?_⟩) hS0 ?_
      · intro w' hSw
        go_simp
      try simp only [Act.put, List.setIfInBounds_toArray, List.set_cons_zero, List.set_cons_succ]
      refine wpAnyK_go (i := 2) (m' := 7) (some 13) (v := .pointer (some ⟨R, 3, none⟩)) rfl rfl (by kernel_rfl) (by kernel_rfl) (by kernel_rfl) (by kernel_rfl) (by kernel_rfl) (fun _ _ _ h => h) (Or.inl ⟨by rfl, ?_⟩) hS0 ?_
      · intro w' hSw
        go_simp
      try simp only [Act.put, List.setIfInBounds_toArray, List.set_cons_zero, List.set_cons_succ]
      refine wpAnyK_go (i := 3) (m' := 15) (some 14) (v := .map (some mA)) rfl rfl (by kernel_rfl) (by kernel_rfl) (by kernel_rfl) (by kernel_rfl) (by kernel_rfl) (fun _ _ _ h => h) (Or.inl ⟨by rfl, ?_⟩) hS0 ?_
      · intro w' hSw
        obtain ⟨p0, p1, p2, p3⟩ := hSw
        go_simp
      try simp only [Act.put, List.setIfInBounds_toArray, List.set_cons_zero, List.set_cons_succ]
      refine wpAnyK_go (i := 4) (m' := 31) (some 15) (v := .pointer (some ⟨Z, 0, none⟩)) rfl rfl (by kernel_rfl) (by kernel_rfl) (by kernel_rfl) (by kernel_rfl) (by kernel_rfl) (fun _ _ _ h => h) (Or.inl ⟨by rfl, ?_⟩) hS0 ?_
      · intro w' hSw
        go_simp
      try simp only [Act.put, List.setIfInBounds_toArray, List.set_cons_zero, List.set_cons_succ]
      refine wpAnyK_go (i := 5) (m' := 63) (some 16) (v := .string ⟨x.toArray⟩) rfl rfl (by kernel_rfl) (by kernel_rfl) (by kernel_rfl) (by kernel_rfl) (by kernel_rfl) (fun _ _ _ h => h) (Or.inl ⟨by rfl, ?_⟩) hS0 ?_
      · intro w' hSw
        obtain ⟨p0, p1, p2, p3⟩ := hSw
        go_simp
      try simp only [Act.put, List.setIfInBounds_toArray, List.set_cons_zero, List.set_cons_succ]
      refine wpAnyK_only (i := 6) (m' := 127) (by kernel_rfl) rfl (by kernel_rfl) fun K hK => ?_
      go_simp
      refine hK.out _ _ (fun _ => hS0) ?_
      clear hK K
      try simp only [Act.put, List.setIfInBounds_toArray, List.set_cons_zero, List.set_cons_succ]
      cases hps : posP SA x with
      | some i =>
        have hE : idxV SA x = some (.int .i64 (i : Nat)) := by unfold idxV; rw [hps]; rfl
        rw [hE]
        simp only [Option.getD_some, Option.isSome_some]
        clear hlk hE
        refine wpAnyK_go (i := 7) (m' := 255) (some 10) (v := .tuple #[.int .i64 (i : Nat), .bool true]) rfl rfl (by kernel_rfl) (by kernel_rfl) (by kernel_rfl) (by kernel_rfl) (by kernel_rfl) (fun _ _ _ h => h) (Or.inl ⟨by rfl, ?_⟩) hS0 ?_
        · intro w' hSw
          go_simp
        try simp only [Act.put, List.setIfInBounds_toArray, List.set_cons_zero, List.set_cons_succ]
        refine wpAnyK_go (i := 8) (m' := 511) (some 18) (v := .int .i64 (i : Nat)) rfl rfl (by kernel_rfl) (by kernel_rfl) (by kernel_rfl) (by kernel_rfl) (by kernel_rfl) (fun _ _ _ h => h) (Or.inl ⟨by rfl, ?_⟩) hS0 ?_
        · intro w' hSw
          go_simp
        try simp only [Act.put, List.setIfInBounds_toArray, List.set_cons_zero, List.set_cons_succ]
        refine wpAnyK_go (i := 9) (m' := 1023) (some 19) (v := .bool true) rfl rfl (by kernel_rfl) (by kernel_rfl) (by kernel_rfl) (by kernel_rfl) (by kernel_rfl) (fun _ _ _ h => h) (Or.inl ⟨by rfl, ?_⟩) hS0 ?_
        · intro w' hSw
          go_simp
        try simp only [Act.put, List.setIfInBounds_toArray, List.set_cons_zero, List.set_cons_succ]
        refine wpAnyK_go (i := 10) (m' := 2047) (some 3) (v := .int .i64 (i : Nat)) rfl rfl (by kernel_rfl) (by kernel_rfl) (by kernel_rfl) (by kernel_rfl) (by kernel_rfl) (fun _ _ _ h => h) (Or.inl ⟨by rfl, ?_⟩) hS0 ?_
        · intro w' hSw
          go_simp
        try simp only [Act.put, List.setIfInBounds_toArray, List.set_cons_zero, List.set_cons_succ]
        refine wpAnyK_go (i := 11) (m' := 4095) (some 4) (v := .bool true) rfl rfl (by kernel_rfl) (by kernel_rfl) (by kernel_rfl) (by kernel_rfl) (by kernel_rfl) (fun _ _ _ h => h) (Or.inl ⟨by rfl, ?_⟩) hS0 ?_
        · intro w' hSw
          go_simp
        try simp only [Act.put, List.setIfInBounds_toArray, List.set_cons_zero, List.set_cons_succ]
        refine wpAnyK_done (by kernel_rfl) ?_ _
        have HB : Hid (RTab D R mA mB m2 (.slice ad t.1.length cap) gv fv (SA ++ [x]) N F raws t ∧ D.heap[Z]? = some (.cells #[.string ⟨x.toArray⟩, .int .i64 n] 48 (0, 0)) ∧ Below mA w D ∧ R < Z ∧ (Value.slice ad t.1.length cap).ownBlock ≠ some Z) := ⟨HD.out.1.named (by rw [idx_twice hps]; exact hma) (by omega) (fun _ _ _ => rfl), HD.out.2⟩
        clear HD hma hna hps hS0
        go_upto_region 4 with fail
        obtain ⟨D, hD⟩ : ∃ X : World, X = D.drew := ⟨_, rfl⟩
        have HD : Hid (RTab D R mA mB m2 (.slice ad t.1.length cap) gv fv (SA ++ [x]) N F raws t ∧ D.heap[Z]? = some (.cells #[.string ⟨x.toArray⟩, .int .i64 n] 48 (0, 0)) ∧ Below mA w D ∧ R < Z ∧ (Value.slice ad t.1.length cap).ownBlock ≠ some Z) := by rw [hD]; exact ⟨HB.out.1.kept (fun _ _ => rfl), HB.out.2.1, HB.out.2.2.1.drew, HB.out.2.2.2⟩
        have hS0 : (fun w' : World => w'.cell? ⟨R, 3, none⟩ = some (.map (some mA)) ∧ w'.cell? ⟨R, 1, none⟩ = some (.slice ad t.1.length cap) ∧ w'.cell? ⟨Z, 0, none⟩ = some (.string ⟨x.toArray⟩) ∧ w'.cell? ⟨Z, 1, none⟩ = some (.int .i64 n)) D := ⟨heap_cl HD.out.1.rl.tb rfl, heap_cl HD.out.1.rl.tb rfl, heap_cl HD.out.2.1 rfl, heap_cl HD.out.2.1 rfl⟩
        clear HB
        refine wp_region_M (S := (fun w' : World => w'.cell? ⟨R, 3, none⟩ = some (.map (some mA)) ∧ w'.cell? ⟨R, 1, none⟩ = some (.slice ad t.1.length cap) ∧ w'.cell? ⟨Z, 0, none⟩ = some (.string ⟨x.toArray⟩) ∧ w'.cell? ⟨Z, 1, none⟩ = some (.int .i64 n))) (L := 12) (n := 13) (by kernel_rfl) rfl (by kernel_rfl) ?_
        rw [← hD]
        clear hD
        refine wpAnyK_go (i := 0) (m' := 1) (some 34) (v := .pointer (some ⟨R, 0, none⟩)) rfl rfl (by kernel_rfl) (by kernel_rfl) (by kernel_rfl) (by kernel_rfl) (by kernel_rfl) (fun _ _ _ h => h) (Or.inl ⟨by rfl, ?_⟩) hS0 ?_
        · intro w' hSw
          go_simp
        try simp only [Act.put, List.setIfInBounds_toArray, List.set_cons_zero, List.set_cons_succ]
        refine wpAnyK_go (i := 1) (m' := 3) (some 35) (v := .pointer (some ⟨R, 0, none⟩)) rfl rfl (by kernel_rfl) (by kernel_rfl) (by kernel_rfl) (by kernel_rfl) (by kernel_rfl) (fun _ _ _ h => h) (Or.inl ⟨by rfl, ?_⟩) hS0 ?_
        · intro w' hSw
          go_simp
        try simp only [Act.put, List.setIfInBounds_toArray, List.set_cons_zero, List.set_cons_succ]
        refine wpAnyK_go (i := 2) (m' := 7) (some 36) (v := .pointer (some ⟨R, 0, none⟩)) rfl rfl (by kernel_rfl) (by kernel_rfl) (by kernel_rfl) (by kernel_rfl) (by kernel_rfl) (fun _ _ _ h => h) (Or.inl ⟨by rfl, ?_⟩) hS0 ?_
        · intro w' hSw
          go_simp
        try simp only [Act.put, List.setIfInBounds_toArray, List.set_cons_zero, List.set_cons_succ]
        refine wpAnyK_go (i := 3) (m' := 15) (some 37) (v := .pointer (some ⟨R, 1, none⟩)) rfl rfl (by kernel_rfl) (by kernel_rfl) (by kernel_rfl) (by kernel_rfl) (by kernel_rfl) (fun _ _ _ h => h) (Or.inl ⟨by rfl, ?_⟩) hS0 ?_
        · intro w' hSw
          go_simp
        try simp only [Act.put, List.setIfInBounds_toArray, List.set_cons_zero, List.set_cons_succ]
        refine wpAnyK_go (i := 4) (m' := 31) (some 38) (v := .pointer (some ⟨R, 1, none⟩)) rfl rfl (by kernel_rfl) (by kernel_rfl) (by kernel_rfl) (by kernel_rfl) (by kernel_rfl) (fun _ _ _ h => h) (Or.inl ⟨by rfl, ?_⟩) hS0 ?_
        · intro w' hSw
          go_simp
        try simp only [Act.put, List.setIfInBounds_toArray, List.set_cons_zero, List.set_cons_succ]
        refine wpAnyK_go (i := 5) (m' := 63) (some 39) (v := .slice ad t.1.length cap) rfl rfl (by kernel_rfl) (by kernel_rfl) (by kernel_rfl) (by kernel_rfl) (by kernel_rfl) (fun _ _ _ h => h) (Or.inl ⟨by rfl, ?_⟩) hS0 ?_
        · intro w' hSw
          obtain ⟨p0, p1, p2, p3⟩ := hSw
          go_simp
        try simp only [Act.put, List.setIfInBounds_toArray, List.set_cons_zero, List.set_cons_succ]
        refine wpAnyK_go (i := 6) (m' := 127) (some 40) (v := .agg #[.string ⟨x.toArray⟩, .int .i64 n]) rfl rfl (by kernel_rfl) (by kernel_rfl) (by kernel_rfl) (by kernel_rfl) (by kernel_rfl) (fun _ _ _ h => h) (Or.inl ⟨by rfl, ?_⟩) hS0 ?_
        · intro w' hSw
          obtain ⟨p0, p1, p2, p3⟩ := hSw
          go_simp
        try simp only [Act.put, List.setIfInBounds_toArray, List.set_cons_zero, List.set_cons_succ]
        refine wpAnyK_only (i := 7) (m' := 255) (by kernel_rfl) rfl (by kernel_rfl) fun K hK => ?_
        go_simp
        have hb5 : Below D.heap.size D (D.alloc (.cells #[.string ⟨x.toArray⟩, .int .i64 n] 48)) := (Below.refl _ _).alloc (Nat.le_refl _) _
        refine hK.out _ _ (fun _ => ⟨heap_cl ((hb5.block R (lt_heap HD.out.1.rl.tb)).trans HD.out.1.rl.tb) rfl, heap_cl ((hb5.block R (lt_heap HD.out.1.rl.tb)).trans HD.out.1.rl.tb) rfl, heap_cl ((hb5.block Z (lt_heap HD.out.2.1)).trans HD.out.2.1) rfl, heap_cl ((hb5.block Z (lt_heap HD.out.2.1)).trans HD.out.2.1) rfl⟩) ?_
        clear hK K hb5
        try simp only [Act.put, List.setIfInBounds_toArray, List.set_cons_zero, List.set_cons_succ]
        refine wpAnyK_only (i := 8) (m' := 511) (by kernel_rfl) rfl (by kernel_rfl) fun K hK => ?_
        refine step_append_N2 (E := EShp) (B := R + 1) (S := fun _ => False) (w1 := D) (w2 := D) (cs := [.string ⟨x.toArray⟩, .int .i64 n]) (p := (x, n)) (l := t.1) (v := .slice ad t.1.length cap) Tryz.ty22 rfl _ _ rfl rfl HD.out.1.tab.shp (fun _ h => h.elim) (lt_heap HD.out.1.rl.tb) (Below.refl _ _) D.heap.size rfl rfl ⟨rfl, by show x.length < _; omega⟩ (by omega) ?_
        intro g c6 w6 O6 H6
        have hR6 : w6.heap[R]? = _ := (H6.out.1.block R (Nat.lt_succ_self _)).trans HD.out.1.rl.tb
        have hZ6 : w6.heap[Z]? = _ := (H6.out.2.1 Z (lt_heap HD.out.2.1) HD.out.2.2.2.2).trans HD.out.2.1
        have HR6 : Hid (_ ∧ _) := HD.out.1.shape (p := (x, n)) (sv' := .slice (some ⟨g, 0, none⟩) (t.1.length + 1) c6) O6 H6.out.1 H6.out.2.1 (H6.out.2.2.1.imp (fun e => e) fun e => ⟨g, rfl, e⟩)
        have hS6 : (fun w' : World => w'.cell? ⟨R, 3, none⟩ = some (.map (some mA)) ∧ w'.cell? ⟨R, 1, none⟩ = some (.slice ad t.1.length cap) ∧ w'.cell? ⟨Z, 0, none⟩ = some (.string ⟨x.toArray⟩) ∧ w'.cell? ⟨Z, 1, none⟩ = some (.int .i64 n)) w6 := ⟨heap_cl hR6 rfl, heap_cl hR6 rfl, heap_cl hZ6 rfl, heap_cl hZ6 rfl⟩
        refine hK.out _ _ (fun _ => hS6) ?_
        clear hK K H6 O6 hS0 hZ6
        try simp only [Act.put, List.setIfInBounds_toArray]

        refine wpAnyK_only (i := 9) (m' := 1023) (by kernel_rfl) rfl (by kernel_rfl) fun K hK => ?_
        go_simp
        refine hK.out _ _ (fun _ => hS6) ?_
        clear hK K
        try simp only [Act.put, List.setIfInBounds_toArray, List.set_cons_zero, List.set_cons_succ]
        refine wpAnyK_only (i := 10) (m' := 2047) (by kernel_rfl) rfl (by kernel_rfl) fun K hK => ?_
        go_simp
        refine hK.out _ _ (fun _ => hS6) ?_
        clear hK K
        try simp only [Act.put, List.setIfInBounds_toArray, List.set_cons_zero, List.set_cons_succ]
        refine wpAnyK_only (i := 11) (m' := 4095) (by kernel_rfl) rfl (by kernel_rfl) fun K hK => ?_
        go_simp
        refine hK.out _ _ (fun _ => hS6) ?_
        clear hK K
        try simp only [Act.put, List.setIfInBounds_toArray, List.set_cons_zero, List.set_cons_succ]
        have f6 : w6.frozen? ⟨R, 1, none⟩ = false := heap_frozen hR6
        have p6 : w6.cell? ⟨R, 1, none⟩ = some (.slice ad t.1.length cap) := heap_cl hR6 rfl
        refine wpAnyK_only (i := 12) (m' := 8191) (by kernel_rfl) rfl (by kernel_rfl) fun K hK => ?_
        go_simp
        refine hK.out _ _ (fun h => absurd rfl h) ?_
        clear hK K hR6 f6 p6 hS6
        refine wpAnyK_done (by kernel_rfl) ?_ _
        go_wp2
        refine bodyPost_end (v := .tuple #[]) (by simp [results, Tryz.results88, go_sem]) rfl ?_
        exact HFS.out _ _ _ _ HE2.out HR6.out.1 (HD.out.2.2.1.trans (HR6.out.2.mono (by omega)))
      | none =>
        have hE : idxV SA x = none := by unfold idxV; rw [hps]; rfl
        rw [hE]
        simp only [Option.getD_none, Option.isSome_none]
        clear hlk
        refine wpAnyK_go (i := 7) (m' := 255) (some 10) (v := .tuple #[.int .i64 0, .bool false]) rfl rfl (by kernel_rfl) (by kernel_rfl) (by kernel_rfl) (by kernel_rfl) (by kernel_rfl) (fun _ _ _ h => h) (Or.inl ⟨by rfl, ?_⟩) hS0 ?_
        · intro w' hSw
          go_simp
        try simp only [Act.put, List.setIfInBounds_toArray, List.set_cons_zero, List.set_cons_succ]
        refine wpAnyK_go (i := 8) (m' := 511) (some 18) (v := .int .i64 0) rfl rfl (by kernel_rfl) (by kernel_rfl) (by kernel_rfl) (by kernel_rfl) (by kernel_rfl) (fun _ _ _ h => h) (Or.inl ⟨by rfl, ?_⟩) hS0 ?_
        · intro w' hSw
          go_simp
        try simp only [Act.put, List.setIfInBounds_toArray, List.set_cons_zero, List.set_cons_succ]
        refine wpAnyK_go (i := 9) (m' := 1023) (some 19) (v := .bool false) rfl rfl (by kernel_rfl) (by kernel_rfl) (by kernel_rfl) (by kernel_rfl) (by kernel_rfl) (fun _ _ _ h => h) (Or.inl ⟨by rfl, ?_⟩) hS0 ?_
        · intro w' hSw
          go_simp
        try simp only [Act.put, List.setIfInBounds_toArray, List.set_cons_zero, List.set_cons_succ]
        refine wpAnyK_go (i := 10) (m' := 2047) (some 3) (v := .int .i64 0) rfl rfl (by kernel_rfl) (by kernel_rfl) (by kernel_rfl) (by kernel_rfl) (by kernel_rfl) (fun _ _ _ h => h) (Or.inl ⟨by rfl, ?_⟩) hS0 ?_
        · intro w' hSw
          go_simp
        try simp only [Act.put, List.setIfInBounds_toArray, List.set_cons_zero, List.set_cons_succ]
        refine wpAnyK_go (i := 11) (m' := 4095) (some 4) (v := .bool false) rfl rfl (by kernel_rfl) (by kernel_rfl) (by kernel_rfl) (by kernel_rfl) (by kernel_rfl) (fun _ _ _ h => h) (Or.inl ⟨by rfl, ?_⟩) hS0 ?_
        · intro w' hSw
          go_simp
        try simp only [Act.put, List.setIfInBounds_toArray, List.set_cons_zero, List.set_cons_succ]
        refine wpAnyK_done (by kernel_rfl) ?_ _
        clear hS0
        have HD0 := HD
        clear HD
        go_upto_region 3 with fail
        have hma1 : Mv D.drew mA na (idxV SA) := hma.on rfl
        obtain ⟨D, hD⟩ : ∃ X : World, X = D.drew := ⟨_, rfl⟩
        have HD : Hid (RTab D R mA mB m2 (.slice ad t.1.length cap) gv fv SA N F raws t ∧ D.heap[Z]? = some (.cells #[.string ⟨x.toArray⟩, .int .i64 n] 48 (0, 0)) ∧ Below mA w D ∧ R < Z ∧ (Value.slice ad t.1.length cap).ownBlock ≠ some Z) := by rw [hD]; exact ⟨HD0.out.1.kept (fun _ _ => rfl), HD0.out.2.1, HD0.out.2.2.1.drew, HD0.out.2.2.2⟩
        have hS0 : (fun w' : World => w'.cell? ⟨R, 3, none⟩ = some (.map (some mA)) ∧ w'.cell? ⟨R, 1, none⟩ = some (.slice ad t.1.length cap) ∧ w'.cell? ⟨Z, 0, none⟩ = some (.string ⟨x.toArray⟩) ∧ w'.cell? ⟨Z, 1, none⟩ = some (.int .i64 n)) D := ⟨heap_cl HD.out.1.rl.tb rfl, heap_cl HD.out.1.rl.tb rfl, heap_cl HD.out.2.1 rfl, heap_cl HD.out.2.1 rfl⟩
        clear HD0
        refine wp_region_M (S := (fun w' : World => w'.cell? ⟨R, 3, none⟩ = some (.map (some mA)) ∧ w'.cell? ⟨R, 1, none⟩ = some (.slice ad t.1.length cap) ∧ w'.cell? ⟨Z, 0, none⟩ = some (.string ⟨x.toArray⟩) ∧ w'.cell? ⟨Z, 1, none⟩ = some (.int .i64 n))) (L := 12) (n := 13) (by kernel_rfl) rfl (by kernel_rfl) ?_
        rw [← hD]
        rw [← hD] at hma1
        clear hD
        obtain ⟨w4, hput, hb4, hg4⟩ := hma1.put84 x (by omega) (by omega) hE (.int .i64 (t.1.length : Nat))
        refine wpAnyK_go (i := 0) (m' := 1) (some 22) (v := .pointer (some ⟨R, 0, none⟩)) rfl rfl (by kernel_rfl) (by kernel_rfl) (by kernel_rfl) (by kernel_rfl) (by kernel_rfl) (fun _ _ _ h => h) (Or.inl ⟨by rfl, ?_⟩) hS0 ?_
        · intro w' hSw
          go_simp
        try simp only [Act.put, List.setIfInBounds_toArray, List.set_cons_zero, List.set_cons_succ]
        refine wpAnyK_go (i := 1) (m' := 3) (some 23) (v := .pointer (some ⟨R, 0, none⟩)) rfl rfl (by kernel_rfl) (by kernel_rfl) (by kernel_rfl) (by kernel_rfl) (by kernel_rfl) (fun _ _ _ h => h) (Or.inl ⟨by rfl, ?_⟩) hS0 ?_
        · intro w' hSw
          go_simp
        try simp only [Act.put, List.setIfInBounds_toArray, List.set_cons_zero, List.set_cons_succ]
        refine wpAnyK_go (i := 2) (m' := 7) (some 24) (v := .pointer (some ⟨R, 3, none⟩)) rfl rfl (by kernel_rfl) (by kernel_rfl) (by kernel_rfl) (by kernel_rfl) (by kernel_rfl) (fun _ _ _ h => h) (Or.inl ⟨by rfl, ?_⟩) hS0 ?_
        · intro w' hSw
          go_simp
        try simp only [Act.put, List.setIfInBounds_toArray, List.set_cons_zero, List.set_cons_succ]
        refine wpAnyK_go (i := 3) (m' := 15) (some 25) (v := .map (some mA)) rfl rfl (by kernel_rfl) (by kernel_rfl) (by kernel_rfl) (by kernel_rfl) (by kernel_rfl) (fun _ _ _ h => h) (Or.inl ⟨by rfl, ?_⟩) hS0 ?_
        · intro w' hSw
          obtain ⟨p0, p1, p2, p3⟩ := hSw
          go_simp
        try simp only [Act.put, List.setIfInBounds_toArray, List.set_cons_zero, List.set_cons_succ]
        refine wpAnyK_go (i := 4) (m' := 31) (some 26) (v := .pointer (some ⟨Z, 0, none⟩)) rfl rfl (by kernel_rfl) (by kernel_rfl) (by kernel_rfl) (by kernel_rfl) (by kernel_rfl) (fun _ _ _ h => h) (Or.inl ⟨by rfl, ?_⟩) hS0 ?_
        · intro w' hSw
          go_simp
        try simp only [Act.put, List.setIfInBounds_toArray, List.set_cons_zero, List.set_cons_succ]
        refine wpAnyK_go (i := 5) (m' := 63) (some 27) (v := .string ⟨x.toArray⟩) rfl rfl (by kernel_rfl) (by kernel_rfl) (by kernel_rfl) (by kernel_rfl) (by kernel_rfl) (fun _ _ _ h => h) (Or.inl ⟨by rfl, ?_⟩) hS0 ?_
        · intro w' hSw
          obtain ⟨p0, p1, p2, p3⟩ := hSw
          go_simp
        try simp only [Act.put, List.setIfInBounds_toArray, List.set_cons_zero, List.set_cons_succ]
        refine wpAnyK_go (i := 6) (m' := 127) (some 28) (v := .pointer (some ⟨R, 0, none⟩)) rfl rfl (by kernel_rfl) (by kernel_rfl) (by kernel_rfl) (by kernel_rfl) (by kernel_rfl) (fun _ _ _ h => h) (Or.inl ⟨by rfl, ?_⟩) hS0 ?_
        · intro w' hSw
          go_simp
        try simp only [Act.put, List.setIfInBounds_toArray, List.set_cons_zero, List.set_cons_succ]
        refine wpAnyK_go (i := 7) (m' := 255) (some 29) (v := .pointer (some ⟨R, 0, none⟩)) rfl rfl (by kernel_rfl) (by kernel_rfl) (by kernel_rfl) (by kernel_rfl) (by kernel_rfl) (fun _ _ _ h => h) (Or.inl ⟨by rfl, ?_⟩) hS0 ?_
        · intro w' hSw
          go_simp
        try simp only [Act.put, List.setIfInBounds_toArray, List.set_cons_zero, List.set_cons_succ]
        refine wpAnyK_go (i := 8) (m' := 511) (some 30) (v := .pointer (some ⟨R, 1, none⟩)) rfl rfl (by kernel_rfl) (by kernel_rfl) (by kernel_rfl) (by kernel_rfl) (by kernel_rfl) (fun _ _ _ h => h) (Or.inl ⟨by rfl, ?_⟩) hS0 ?_
        · intro w' hSw
          go_simp
        try simp only [Act.put, List.setIfInBounds_toArray, List.set_cons_zero, List.set_cons_succ]
        refine wpAnyK_go (i := 9) (m' := 1023) (some 31) (v := .pointer (some ⟨R, 1, none⟩)) rfl rfl (by kernel_rfl) (by kernel_rfl) (by kernel_rfl) (by kernel_rfl) (by kernel_rfl) (fun _ _ _ h => h) (Or.inl ⟨by rfl, ?_⟩) hS0 ?_
        · intro w' hSw
          go_simp
        try simp only [Act.put, List.setIfInBounds_toArray, List.set_cons_zero, List.set_cons_succ]
        refine wpAnyK_go (i := 10) (m' := 2047) (some 32) (v := .slice ad t.1.length cap) rfl rfl (by kernel_rfl) (by kernel_rfl) (by kernel_rfl) (by kernel_rfl) (by kernel_rfl) (fun _ _ _ h => h) (Or.inl ⟨by rfl, ?_⟩) hS0 ?_
        · intro w' hSw
          obtain ⟨p0, p1, p2, p3⟩ := hSw
          go_simp
        try simp only [Act.put, List.setIfInBounds_toArray, List.set_cons_zero, List.set_cons_succ]
        refine wpAnyK_go (i := 11) (m' := 4095) (some 33) (v := .int .i64 (t.1.length : Nat)) rfl rfl (by kernel_rfl) (by kernel_rfl) (by kernel_rfl) (by kernel_rfl) (by kernel_rfl) (fun _ _ _ h => h) (Or.inl ⟨by rfl, ?_⟩) hS0 ?_
        · intro w' hSw
          go_simp
        try simp only [Act.put, List.setIfInBounds_toArray, List.set_cons_zero, List.set_cons_succ]
        refine wpAnyK_only (i := 12) (m' := 8191) (by kernel_rfl) rfl (by kernel_rfl) fun K hK => ?_
        go_simp
        refine hK.out _ _ (fun h => absurd rfl h) ?_
        clear hK K
        refine wpAnyK_done (by kernel_rfl) ?_ _
        have HB : Hid (RTab w4 R mA mB m2 (.slice ad t.1.length cap) gv fv (SA ++ [x]) N F raws t ∧ w4.heap[Z]? = some (.cells #[.string ⟨x.toArray⟩, .int .i64 n] 48 (0, 0)) ∧ Below mA w w4 ∧ R < Z ∧ (Value.slice ad t.1.length cap).ownBlock ≠ some Z) := by
          have hk4 : ∀ y, y < D.heap.size → y ≠ mA → w4.heap[y]? = D.heap[y]? := fun y hy hne => hg4.block y hy fun e => hne (Option.some.inj e)
          have hZm : mA ≠ Z := by have := HD.out.2.2.2.1; omega
          rw [← hSL, ← idx_snoc hps] at hb4
          exact ⟨HD.out.1.named hb4 (by omega) hk4, (hk4 Z (lt_heap HD.out.2.1) (fun e => hZm e.symm)).trans HD.out.2.1, HD.out.2.2.1.trans ((Below.refl _ _).grown hg4 (by have := lt_heap HD.out.1.rl.tb; omega) fun k hk => by rw [Option.some.inj hk]; exact Nat.le_refl _), HD.out.2.2.2⟩
        clear HD hma hma1 hna hps hS0 hput hb4 hg4 hE
        go_upto_region 4 with fail
        obtain ⟨D, hD⟩ : ∃ X : World, X = w4.drew := ⟨_, rfl⟩
        have HD : Hid (RTab D R mA mB m2 (.slice ad t.1.length cap) gv fv (SA ++ [x]) N F raws t ∧ D.heap[Z]? = some (.cells #[.string ⟨x.toArray⟩, .int .i64 n] 48 (0, 0)) ∧ Below mA w D ∧ R < Z ∧ (Value.slice ad t.1.length cap).ownBlock ≠ some Z) := by rw [hD]; exact ⟨HB.out.1.kept (fun _ _ => rfl), HB.out.2.1, HB.out.2.2.1.drew, HB.out.2.2.2⟩
        have hS0 : (fun w' : World => w'.cell? ⟨R, 3, none⟩ = some (.map (some mA)) ∧ w'.cell? ⟨R, 1, none⟩ = some (.slice ad t.1.length cap) ∧ w'.cell? ⟨Z, 0, none⟩ = some (.string ⟨x.toArray⟩) ∧ w'.cell? ⟨Z, 1, none⟩ = some (.int .i64 n)) D := ⟨heap_cl HD.out.1.rl.tb rfl, heap_cl HD.out.1.rl.tb rfl, heap_cl HD.out.2.1 rfl, heap_cl HD.out.2.1 rfl⟩
        clear HB
        refine wp_region_M (S := (fun w' : World => w'.cell? ⟨R, 3, none⟩ = some (.map (some mA)) ∧ w'.cell? ⟨R, 1, none⟩ = some (.slice ad t.1.length cap) ∧ w'.cell? ⟨Z, 0, none⟩ = some (.string ⟨x.toArray⟩) ∧ w'.cell? ⟨Z, 1, none⟩ = some (.int .i64 n))) (L := 12) (n := 13) (by kernel_rfl) rfl (by kernel_rfl) ?_
        rw [← hD]
        clear hD
        refine wpAnyK_go (i := 0) (m' := 1) (some 34) (v := .pointer (some ⟨R, 0, none⟩)) rfl rfl (by kernel_rfl) (by kernel_rfl) (by kernel_rfl) (by kernel_rfl) (by kernel_rfl) (fun _ _ _ h => h) (Or.inl ⟨by rfl, ?_⟩) hS0 ?_
        · intro w' hSw
          go_simp
        try simp only [Act.put, List.setIfInBounds_toArray, List.set_cons_zero, List.set_cons_succ]
        refine wpAnyK_go (i := 1) (m' := 3) (some 35) (v := .pointer (some ⟨R, 0, none⟩)) rfl rfl (by kernel_rfl) (by kernel_rfl) (by kernel_rfl) (by kernel_rfl) (by kernel_rfl) (fun _ _ _ h => h) (Or.inl ⟨by rfl, ?_⟩) hS0 ?_
        · intro w' hSw
          go_simp
        try simp only [Act.put, List.setIfInBounds_toArray, List.set_cons_zero, List.set_cons_succ]
        refine wpAnyK_go (i := 2) (m' := 7) (some 36) (v := .pointer (some ⟨R, 0, none⟩)) rfl rfl (by kernel_rfl) (by kernel_rfl) (by kernel_rfl) (by kernel_rfl) (by kernel_rfl) (fun _ _ _ h => h) (Or.inl ⟨by rfl, ?_⟩) hS0 ?_
        · intro w' hSw
          go_simp
        try simp only [Act.put, List.setIfInBounds_toArray, List.set_cons_zero, List.set_cons_succ]
        refine wpAnyK_go (i := 3) (m' := 15) (some 37) (v := .pointer (some ⟨R, 1, none⟩)) rfl rfl (by kernel_rfl) (by kernel_rfl) (by kernel_rfl) (by kernel_rfl) (by kernel_rfl) (fun _ _ _ h => h) (Or.inl ⟨by rfl, ?_⟩) hS0 ?_
        · intro w' hSw
          go_simp
        try simp only [Act.put, List.setIfInBounds_toArray, List.set_cons_zero, List.set_cons_succ]
        refine wpAnyK_go (i := 4) (m' := 31) (some 38) (v := .pointer (some ⟨R, 1, none⟩)) rfl rfl (by kernel_rfl) (by kernel_rfl) (by kernel_rfl) (by kernel_rfl) (by kernel_rfl) (fun _ _ _ h => h) (Or.inl ⟨by rfl, ?_⟩) hS0 ?_
        · intro w' hSw
          go_simp
        try simp only [Act.put, List.setIfInBounds_toArray, List.set_cons_zero, List.set_cons_succ]
        refine wpAnyK_go (i := 5) (m' := 63) (some 39) (v := .slice ad t.1.length cap) rfl rfl (by kernel_rfl) (by kernel_rfl) (by kernel_rfl) (by kernel_rfl) (by kernel_rfl) (fun _ _ _ h => h) (Or.inl ⟨by rfl, ?_⟩) hS0 ?_
        · intro w' hSw
          obtain ⟨p0, p1, p2, p3⟩ := hSw
          go_simp
        try simp only [Act.put, List.setIfInBounds_toArray, List.set_cons_zero, List.set_cons_succ]
        refine wpAnyK_go (i := 6) (m' := 127) (some 40) (v := .agg #[.string ⟨x.toArray⟩, .int .i64 n]) rfl rfl (by kernel_rfl) (by kernel_rfl) (by kernel_rfl) (by kernel_rfl) (by kernel_rfl) (fun _ _ _ h => h) (Or.inl ⟨by rfl, ?_⟩) hS0 ?_
        · intro w' hSw
          obtain ⟨p0, p1, p2, p3⟩ := hSw
          go_simp
        try simp only [Act.put, List.setIfInBounds_toArray, List.set_cons_zero, List.set_cons_succ]
        refine wpAnyK_only (i := 7) (m' := 255) (by kernel_rfl) rfl (by kernel_rfl) fun K hK => ?_
        go_simp
        have hb5 : Below D.heap.size D (D.alloc (.cells #[.string ⟨x.toArray⟩, .int .i64 n] 48)) := (Below.refl _ _).alloc (Nat.le_refl _) _
        refine hK.out _ _ (fun _ => ⟨heap_cl ((hb5.block R (lt_heap HD.out.1.rl.tb)).trans HD.out.1.rl.tb) rfl, heap_cl ((hb5.block R (lt_heap HD.out.1.rl.tb)).trans HD.out.1.rl.tb) rfl, heap_cl ((hb5.block Z (lt_heap HD.out.2.1)).trans HD.out.2.1) rfl, heap_cl ((hb5.block Z (lt_heap HD.out.2.1)).trans HD.out.2.1) rfl⟩) ?_
        clear hK K hb5
        try simp only [Act.put, List.setIfInBounds_toArray, List.set_cons_zero, List.set_cons_succ]
        refine wpAnyK_only (i := 8) (m' := 511) (by kernel_rfl) rfl (by kernel_rfl) fun K hK => ?_
        refine step_append_N2 (E := EShp) (B := R + 1) (S := fun _ => False) (w1 := D) (w2 := D) (cs := [.string ⟨x.toArray⟩, .int .i64 n]) (p := (x, n)) (l := t.1) (v := .slice ad t.1.length cap) Tryz.ty22 rfl _ _ rfl rfl HD.out.1.tab.shp (fun _ h => h.elim) (lt_heap HD.out.1.rl.tb) (Below.refl _ _) D.heap.size rfl rfl ⟨rfl, by show x.length < _; omega⟩ (by omega) ?_
        intro g c6 w6 O6 H6
        have hR6 : w6.heap[R]? = _ := (H6.out.1.block R (Nat.lt_succ_self _)).trans HD.out.1.rl.tb
        have hZ6 : w6.heap[Z]? = _ := (H6.out.2.1 Z (lt_heap HD.out.2.1) HD.out.2.2.2.2).trans HD.out.2.1
        have HR6 : Hid (_ ∧ _) := HD.out.1.shape (p := (x, n)) (sv' := .slice (some ⟨g, 0, none⟩) (t.1.length + 1) c6) O6 H6.out.1 H6.out.2.1 (H6.out.2.2.1.imp (fun e => e) fun e => ⟨g, rfl, e⟩)
        have hS6 : (fun w' : World => w'.cell? ⟨R, 3, none⟩ = some (.map (some mA)) ∧ w'.cell? ⟨R, 1, none⟩ = some (.slice ad t.1.length cap) ∧ w'.cell? ⟨Z, 0, none⟩ = some (.string ⟨x.toArray⟩) ∧ w'.cell? ⟨Z, 1, none⟩ = some (.int .i64 n)) w6 := ⟨heap_cl hR6 rfl, heap_cl hR6 rfl, heap_cl hZ6 rfl, heap_cl hZ6 rfl⟩
        refine hK.out _ _ (fun _ => hS6) ?_
        clear hK K H6 O6 hS0 hZ6
        try simp only [Act.put, List.setIfInBounds_toArray]

        refine wpAnyK_only (i := 9) (m' := 1023) (by kernel_rfl) rfl (by kernel_rfl) fun K hK => ?_
        go_simp
        refine hK.out _ _ (fun _ => hS6) ?_
        clear hK K
        try simp only [Act.put, List.setIfInBounds_toArray, List.set_cons_zero, List.set_cons_succ]
        refine wpAnyK_only (i := 10) (m' := 2047) (by kernel_rfl) rfl (by kernel_rfl) fun K hK => ?_
        go_simp
        refine hK.out _ _ (fun _ => hS6) ?_
        clear hK K
        try simp only [Act.put, List.setIfInBounds_toArray, List.set_cons_zero, List.set_cons_succ]
        refine wpAnyK_only (i := 11) (m' := 4095) (by kernel_rfl) rfl (by kernel_rfl) fun K hK => ?_
        go_simp
        refine hK.out _ _ (fun _ => hS6) ?_
        clear hK K
        try simp only [Act.put, List.setIfInBounds_toArray, List.set_cons_zero, List.set_cons_succ]
        have f6 : w6.frozen? ⟨R, 1, none⟩ = false := heap_frozen hR6
        have p6 : w6.cell? ⟨R, 1, none⟩ = some (.slice ad t.1.length cap) := heap_cl hR6 rfl
        refine wpAnyK_only (i := 12) (m' := 8191) (by kernel_rfl) rfl (by kernel_rfl) fun K hK => ?_
        go_simp
        refine hK.out _ _ (fun h => absurd rfl h) ?_
        clear hK K hR6 f6 p6 hS6
        refine wpAnyK_done (by kernel_rfl) ?_ _
        go_wp2
        refine bodyPost_end (v := .tuple #[]) (by simp [results, Tryz.results88, go_sem]) rfl ?_
        exact HFS.out _ _ _ _ HE2.out HR6.out.1 (HD.out.2.2.1.trans (HR6.out.2.mono (by omega)))
end Go.Proofs.YtlpnegnpejpdkaaGreatDoor
