/- The program's fit: what it finds, and whether there is something. -/
import Derived.Test.YthcejnpknjepfaaGreatEq
import Derived.Test.YthcejnpknjepfaaGreatMa
import Derived.Test.YthcejnpknjepfaaGreatMbx
namespace Go.Proofs.YthcejnpknjepfaaGreat
open Go.RowKit

/-- What names stand for: rows of nodes. -/
abbrev Sb := List UInt8 → Option (List Nd)
/-- A name meets a row of nodes. -/
def fitV (σ : Sb) (n : List UInt8) (r : List Nd) : Sb × Bool :=
  match σ n with
  | none => (fun y => if y = n then some r else σ y, true)
  | some r' => (σ, decide (r' = r))
/-- A general tree meets a special one. -/
def fitT : (d : Nat) → Tn d → (e : Nat) → Tn e → Sb → Sb × Bool
  | 0, t, _, _, _ => t.elim
  | _ + 1, _, 0, u, _ => u.elim
  | d + 1, t, e + 1, u, σ => if t.1.1 = 2 then fitV σ t.1.2 (flat (e + 1) u) else if t.1.1 = u.1.1 ∧ t.1.2 = u.1.2 then eqAll (fun s t u => fitT d t e u s) σ t.2 u.2 else (σ, false)
theorem fit_var (d : Nat) (n : List UInt8) (ts : List (Tn d)) (e : Nat) (u : Tn (e + 1)) (σ : Sb) : fitT (d + 1) ((2, n), ts) (e + 1) u σ = fitV σ n (flat (e + 1) u) := by
  show (if (2 : Int) = 2 then fitV σ n (flat (e + 1) u) else _) = _
  exact if_pos rfl
theorem fit_no (d : Nat) (k k' : Int) (n n' : List UInt8) (ts : List (Tn d)) (e : Nat) (us : List (Tn e)) (σ : Sb) (hk : k ≠ 2) (h : ¬ (k = k' ∧ n = n')) : fitT (d + 1) ((k, n), ts) (e + 1) ((k', n'), us) σ = (σ, false) := by
  show (if k = 2 then fitV σ n (flat (e + 1) ((k', n'), us)) else if k = k' ∧ n = n' then eqAll (fun s t u => fitT d t e u s) σ ts us else (σ, false)) = _
  rw [if_neg hk, if_neg h]
theorem fit_node (d : Nat) (k : Int) (n : List UInt8) (ts : List (Tn d)) (e : Nat) (us : List (Tn e)) (σ : Sb) (hk : k ≠ 2) : fitT (d + 1) ((k, n), ts) (e + 1) ((k, n), us) σ = eqAll (fun s t u => fitT d t e u s) σ ts us := by
  show (if k = 2 then fitV σ n (flat (e + 1) ((k, n), us)) else if k = k ∧ n = n then eqAll (fun s t u => fitT d t e u s) σ ts us else (σ, false)) = _
  rw [if_neg hk, if_pos ⟨rfl, rfl⟩]
/-- Block b is a map that says what σ says; its names are among L, its values trees in blocks below B. -/
def Sg (W : World) (b B : Nat) (L : List (List UInt8)) (σ : Sb) : Prop :=
  ∃ (m : Nat) (s : List UInt8 → Option Value) (ks : List (List UInt8)), Mv W b m s ∧ ks.Nodup ∧ ks.length = m ∧ (∀ k, k ∈ ks ↔ (σ k).isSome = true) ∧ (∀ k ∈ ks, k ∈ L) ∧
    ∀ n, (s n = none ∧ σ n = none) ∨ ∃ (v : Value) (d : Nat) (u : Tn d), s n = some v ∧ σ n = some (flat d u) ∧ TyAt W B d v u
theorem Sg.on {W W' : World} {b B : Nat} {L : List (List UInt8)} {σ : Sb} (h : Sg W b B L σ) (hb : W'.heap[b]? = W.heap[b]?) (hB : Below B W W') : Sg W' b B L σ := by
  obtain ⟨m, s, ks, h1, h2, h3, h4, h5, h6⟩ := h
  refine ⟨m, s, ks, h1.on hb, h2, h3, h4, h5, fun n => ?_⟩
  rcases h6 n with h | ⟨v, d, u, e1, e2, e3⟩
  · exact .inl h
  · exact .inr ⟨v, d, u, e1, e2, e3.on hB⟩
theorem Sg.lt {W : World} {b B : Nat} {L : List (List UInt8)} {σ : Sb} (h : Sg W b B L σ) : b < W.heap.size := by
  obtain ⟨m, s, ks, h1, _⟩ := h
  exact h1.lt
theorem nodup_le : ∀ {ks L : List (List UInt8)}, ks.Nodup → (∀ k ∈ ks, k ∈ L) → ks.length ≤ L.length
  | [], _, _, _ => by simp
  | a :: r, L, hn, h => by
    have ha : a ∈ L := h a (by simp)
    rw [List.nodup_cons] at hn
    have h1 : ∀ k ∈ r, k ∈ L.erase a := fun k hk => (List.mem_erase_of_ne (fun e : k = a => hn.1 (e ▸ hk))).2 (h k (by simp [hk]))
    have h2 := nodup_le hn.2 h1
    rw [List.length_erase_of_mem ha] at h2
    have h3 := List.length_pos_of_mem ha
    simp
    omega
theorem grown_below' {W W' : World} {b B : Nat} (h : W.grownBy W' (some b)) (hB : B ≤ b) (hb : b < W.heap.size) : Below B W W' := (Below.refl B W).grown h (by omega) (fun k e => by cases e; exact hB)
theorem grown_trans {A C D : World} {b : Nat} (h : A.grownBy C (some b)) (k : C.grownBy D (some b)) : A.grownBy D (some b) :=
  ⟨k.os.trans h.os, k.tape.trans h.tape, k.output.trans h.output, Nat.le_trans h.size k.size, fun g hg hne => (k.block g (by have := h.size; omega) hne).trans (h.block g hg hne)⟩
theorem grown_of_below {W W' : World} {b : Nat} (h : Below W.heap.size W W') : W.grownBy W' (some b) := ⟨h.os, h.tape, h.output, h.size, fun g hg _ => h.block g hg⟩
set_option maxHeartbeats 8000000 in
set_option maxRecDepth 10000 in
theorem fit_new (b B : Nat) (L : List (List UInt8)) (hL : L.length ≤ 500) (hB : B ≤ b) (n : List UInt8) (hn : n.length < 140737488355328) (hin : n ∈ L) (v0 : Value) (hv0 : ∃ ad len cap, v0 = .slice ad len cap) (e : Nat) (y : Value) (u : Tn e) (σ : Sb) (W : World) (hS : Sg W b B L σ) (hy : TyAt W B e y u) (hσ : σ n = none) :
    Calls Tryz.prog 37 #[.map (some b), .agg #[.int .i64 2, .string ⟨n.toArray⟩, v0], y] W fun r w' => r = .returned (.bool true) ∧ W.grownBy w' (some b) ∧ Sg w' b B L (fun x => if x = n then some (flat e u) else σ x) := by
  obtain ⟨ad, len, cap, rfl⟩ := hv0
  obtain ⟨k2, n2, ad2, len2, cap2, rfl⟩ : ∃ (k : Int) (n : ByteArray) (ad : Option Addr) (len cap : Nat), y = .agg #[.int .i64 k, .string n, .slice ad len cap] := by
    cases e with
    | zero => exact hy.elim
    | succ e =>
      obtain ⟨v, hx, _, _, hr⟩ := hy
      obtain ⟨ad, cap, rfl⟩ := hr.len
      exact ⟨_, _, _, _, _, hx⟩
  obtain ⟨U, hU⟩ : ∃ U, U = ((W.alloc (Obj.cells #[.int .i64 2, .string ⟨n.toArray⟩, .slice ad len cap] 25)).alloc (Obj.cells #[.int .i64 k2, .string n2, .slice ad2 len2 cap2] 25)) := ⟨_, rfl⟩
  obtain ⟨V, hV⟩ : ∃ V, V = U.alloc (Obj.cells #[.int .i64 0, .string ⟨#[]⟩, .slice none 0 0] 25) := ⟨_, rfl⟩
  have hbU : Below W.heap.size W U := by rw [hU]; exact ((Below.refl _ _).alloc (Nat.le_refl _) _).alloc (by simp) _
  have hsU : U.heap.size = W.heap.size + 2 := by rw [hU]; simp
  have hbV : Below W.heap.size W V := by rw [hV]; exact hbU.alloc hbU.size _
  have hxg : U.heap[W.heap.size]? = some (.cells #[.int .i64 2, .string ⟨n.toArray⟩, .slice ad len cap] 25 (0, 0)) := by
    rw [hU, Below.heap_alloc _ _ _ (by simp)]
    show (W.heap.push _)[W.heap.size]? = _
    simp
  have hxs : U.heap[W.heap.size + 1]? = some (.cells #[.int .i64 k2, .string n2, .slice ad2 len2 cap2] 25 (0, 0)) := by
    rw [hU]
    show ((W.heap.push _).push _)[W.heap.size + 1]? = _
    rw [Array.getElem?_push, if_pos (by simp)]
  have hlt := hS.lt
  obtain ⟨m, s, ks, h1, h2, h3, h4, h5, h6⟩ := hS
  have hs : s n = none := by
    rcases h6 n with h | ⟨v, d, u', e1, e2, e3⟩
    · exact h.1
    · rw [hσ] at e2; cases e2
  have hlk := (h1.below hbU).look n hn
  rw [hs] at hlk
  simp only [Option.getD_none, Option.isSome_none, zeroT] at hlk
  have hm : m < 100000 := by have := nodup_le h2 h5; omega
  obtain ⟨w9, hup, hM9, hg9⟩ := (h1.below hbV).put n hn hm hs (.agg #[.int .i64 k2, .string n2, .slice ad2 len2 cap2])
  have hgW : W.grownBy w9 (some b) := grown_trans (grown_of_below hbV) hg9
  have HEND : Hid (W.grownBy w9 (some b) ∧ Sg w9 b B L (fun x => if x = n then some (flat e u) else σ x)) := by
    have hb9 := grown_below' hgW hB hlt
    have hnk : n ∉ ks := fun hk => by have := (h4 n).1 hk; rw [hσ] at this; cases this
    refine ⟨hgW, m + 1, _, ks ++ [n], hM9, ?_, by simp [h3], fun k => ?_, fun k hk => ?_, fun x => ?_⟩
    · rw [List.nodup_append]
      refine ⟨h2, by simp, fun a ha b hb => ?_⟩
      rw [List.mem_singleton.1 hb]
      exact fun e => hnk (e ▸ ha)
    · rw [List.mem_append, List.mem_singleton]
      show _ ↔ (if k = n then some (flat e u) else σ k).isSome = true
      by_cases hk : k = n
      · rw [if_pos hk]
        exact ⟨fun _ => rfl, fun _ => .inr hk⟩
      · rw [if_neg hk, ← h4 k]
        exact ⟨fun h => h.resolve_right hk, .inl⟩
    · rcases List.mem_append.1 hk with hk | hk
      · exact h5 k hk
      · rw [List.mem_singleton.1 hk]; exact hin
    · dsimp only
      by_cases hx : x = n
      · rw [if_pos hx, if_pos hx]
        exact .inr ⟨_, e, u, rfl, rfl, hy.on hb9⟩
      · rw [if_neg hx, if_neg hx]
        rcases h6 x with h | ⟨v, d, u', e1, e2, e3⟩
        · exact .inl h
        · exact .inr ⟨v, d, u', e1, e2, e3.on hb9⟩
  have hcV : ∀ g i, g < U.heap.size → V.cell? ⟨g, i, none⟩ = U.cell? ⟨g, i, none⟩ := fun g i hg => by rw [hV]; exact ((Below.refl U.heap.size U).alloc (Nat.le_refl _) _).cell hg
  have cg : ∀ {w : World} {b : Nat} {x y u : Value} {t : TypeId} {fr : Nat × Nat}, w.heap[b]? = some (.cells #[x, y, u] t fr) → w.cell? ⟨b, 0, none⟩ = some x ∧ w.cell? ⟨b, 1, none⟩ = some y ∧ w.cell? ⟨b, 2, none⟩ = some u := fun h => by refine ⟨?_, ?_, ?_⟩ <;> (simp only [World.cell?, h]; rfl)
  obtain ⟨x0, x1, x2⟩ := cg hxg
  obtain ⟨y0, y1, y2⟩ := cg hxs
  have z1 : V.cell? ⟨W.heap.size, 1, none⟩ = some (.string ⟨n.toArray⟩) := (hcV _ _ (by omega)).trans x1
  have q0 : V.cell? ⟨W.heap.size + 1, 0, none⟩ = some (.int .i64 k2) := (hcV _ _ (by omega)).trans y0
  have q1 : V.cell? ⟨W.heap.size + 1, 1, none⟩ = some (.string n2) := (hcV _ _ (by omega)).trans y1
  have q2 : V.cell? ⟨W.heap.size + 1, 2, none⟩ = some (.slice ad2 len2 cap2) := (hcV _ _ (by omega)).trans y2
  clear h1 h2 h3 h4 h5 h6 hy hM9 hg9 hgW hbU hbV hsU hxg hxs hcV cg hs hm hlt
  go_enter Tryz.func37, Tryz.ntmps37
  go_upto_region 1 with fail
  rw [← hU]
  clear hU
  go_upto_region 3 with fail
  rw [← hV]
  clear hV
  go_wp2
  go_ret
  exact ⟨rfl, HEND.out⟩
set_option maxHeartbeats 8000000 in
set_option maxRecDepth 10000 in
theorem fit_old (b B : Nat) (L : List (List UInt8)) (hB : B ≤ b) (n : List UInt8) (hn : n.length < 140737488355328) (v0 : Value) (hv0 : ∃ ad len cap, v0 = .slice ad len cap) (e : Nat) (y : Value) (u : Tn e) (σ : Sb) (W : World) (hS : Sg W b B L σ) (hy : TyAt W B e y u) (r' : List Nd) (hσ : σ n = some r') :
    Calls Tryz.prog 37 #[.map (some b), .agg #[.int .i64 2, .string ⟨n.toArray⟩, v0], y] W fun r w' => r = .returned (.bool (decide (r' = flat e u))) ∧ Below W.heap.size W w' := by
  obtain ⟨ad, len, cap, rfl⟩ := hv0
  have form : ∀ {W : World} {e : Nat} {y : Value} {u : Tn e}, TyAt W B e y u → ∃ (k : Int) (n : ByteArray) (ad : Option Addr) (len cap : Nat), y = .agg #[.int .i64 k, .string n, .slice ad len cap] := fun {W e y u} hy => by
    cases e with
    | zero => exact hy.elim
    | succ e =>
      obtain ⟨v, hx, _, _, hr⟩ := hy
      obtain ⟨ad, cap, rfl⟩ := hr.len
      exact ⟨_, _, _, _, _, hx⟩
  obtain ⟨k2, n2, ad2, len2, cap2, rfl⟩ := form hy
  have hlt := hS.lt
  obtain ⟨m, s, ks, h1, h2, h3, h4, h5, h6⟩ := hS
  obtain ⟨v, d', u', hs, hr', hT'⟩ : ∃ (v : Value) (d : Nat) (u' : Tn d), s n = some v ∧ r' = flat d u' ∧ TyAt W B d v u' := by
    rcases h6 n with h | ⟨v, d, u', e1, e2, e3⟩
    · rw [hσ] at h; cases h.2
    · rw [hσ] at e2; exact ⟨v, d, u', e1, Option.some.inj e2, e3⟩
  subst hr'
  obtain ⟨k3, n3, ad3, len3, cap3, rfl⟩ := form hT'
  obtain ⟨U, hU⟩ : ∃ U, U = ((W.alloc (Obj.cells #[.int .i64 2, .string ⟨n.toArray⟩, .slice ad len cap] 25)).alloc (Obj.cells #[.int .i64 k2, .string n2, .slice ad2 len2 cap2] 25)) := ⟨_, rfl⟩
  obtain ⟨V, hV⟩ : ∃ V, V = U.alloc (Obj.cells #[.int .i64 k3, .string n3, .slice ad3 len3 cap3] 25) := ⟨_, rfl⟩
  have hbU : Below W.heap.size W U := by rw [hU]; exact ((Below.refl _ _).alloc (Nat.le_refl _) _).alloc (by simp) _
  have hsU : U.heap.size = W.heap.size + 2 := by rw [hU]; simp
  have hbV : Below W.heap.size W V := by rw [hV]; exact hbU.alloc hbU.size _
  have hxg : U.heap[W.heap.size]? = some (.cells #[.int .i64 2, .string ⟨n.toArray⟩, .slice ad len cap] 25 (0, 0)) := by
    rw [hU, Below.heap_alloc _ _ _ (by simp)]
    show (W.heap.push _)[W.heap.size]? = _
    simp
  have hxs : U.heap[W.heap.size + 1]? = some (.cells #[.int .i64 k2, .string n2, .slice ad2 len2 cap2] 25 (0, 0)) := by
    rw [hU]
    show ((W.heap.push _).push _)[W.heap.size + 1]? = _
    rw [Array.getElem?_push, if_pos (by simp)]
  have hxv : V.heap[U.heap.size]? = some (.cells #[.int .i64 k3, .string n3, .slice ad3 len3 cap3] 25 (0, 0)) := by
    rw [hV]
    show (U.heap.push _)[U.heap.size]? = _
    simp
  have hlk := (h1.below hbU).look n hn
  rw [hs] at hlk
  simp only [Option.getD_some, Option.isSome_some] at hlk
  have CS := psame_any d' e _ _ u' u V B (by have := hbV.size; omega) (hT'.on (hbV.mono (by omega))) (hy.on (hbV.mono (by omega)))
  have HBV : Hid (Below W.heap.size W V) := hbV
  have hcV : ∀ g i, g < U.heap.size → V.cell? ⟨g, i, none⟩ = U.cell? ⟨g, i, none⟩ := fun g i hg => by rw [hV]; exact ((Below.refl U.heap.size U).alloc (Nat.le_refl _) _).cell hg
  have cg : ∀ {w : World} {b : Nat} {x y u : Value} {t : TypeId} {fr : Nat × Nat}, w.heap[b]? = some (.cells #[x, y, u] t fr) → w.cell? ⟨b, 0, none⟩ = some x ∧ w.cell? ⟨b, 1, none⟩ = some y ∧ w.cell? ⟨b, 2, none⟩ = some u := fun h => by refine ⟨?_, ?_, ?_⟩ <;> (simp only [World.cell?, h]; rfl)
  obtain ⟨x0, x1, x2⟩ := cg hxg
  obtain ⟨y0, y1, y2⟩ := cg hxs
  obtain ⟨p0, p1, p2⟩ := cg hxv
  have q0 : V.cell? ⟨W.heap.size + 1, 0, none⟩ = some (.int .i64 k2) := (hcV _ _ (by omega)).trans y0
  have q1 : V.cell? ⟨W.heap.size + 1, 1, none⟩ = some (.string n2) := (hcV _ _ (by omega)).trans y1
  have q2 : V.cell? ⟨W.heap.size + 1, 2, none⟩ = some (.slice ad2 len2 cap2) := (hcV _ _ (by omega)).trans y2
  generalize decide (flat d' u' = flat e u) = bb at *
  clear h1 h2 h3 h4 h5 h6 hy hbU hbV hsU hxg hxs hxv hcV cg hs hlt hT' form
  go_enter Tryz.func37, Tryz.ntmps37
  go_upto_region 1 with fail
  rw [← hU]
  clear hU
  go_upto_region 3 with fail
  rw [← hV]
  clear hV
  go_wp2_with (go_at_call 60; (with_reducible refine Calls.mono CS ?_); rintro e' w2 ⟨rfl, hb2⟩)
  go_ret
  exact ⟨rfl, HBV.out.trans (hb2.mono HBV.out.size)⟩
set_option maxHeartbeats 8000000 in
set_option maxRecDepth 10000 in
theorem fit_of (b : Nat) (k : Int) (hk : k ≠ 2) (n n2 : ByteArray) (ad ad2 : Option Addr) (len len2 cap cap2 : Nat) (k2 : Int) (W : World) (Q : Ending → World → Prop) (hQ : ∀ r w', Q r w' → ∃ b, r = .returned (.bool b))
    (C : Calls Tryz.prog 61 #[.agg #[.int .i64 k, .string n, .slice ad len cap], .agg #[.int .i64 k2, .string n2, .slice ad2 len2 cap2], .func (.func 37) #[.map (some b)] #[]] ((W.alloc (Obj.cells #[.int .i64 k, .string n, .slice ad len cap] 25)).alloc (Obj.cells #[.int .i64 k2, .string n2, .slice ad2 len2 cap2] 25)) Q) :
    Calls Tryz.prog 37 #[.map (some b), .agg #[.int .i64 k, .string n, .slice ad len cap], .agg #[.int .i64 k2, .string n2, .slice ad2 len2 cap2]] W Q := by
  have HQ : Hid (∀ r w', Q r w' → ∃ b, r = .returned (.bool b)) := hQ
  have hkb : (k == 2) = false := by simpa using hk
  clear hQ hk
  go_enter Tryz.func37, Tryz.ntmps37
  go_wp2_with (go_at_call 61; (with_reducible refine Calls.mono C ?_); intro e' w2 hq; obtain ⟨b, he⟩ := HQ.out _ _ hq; subst he)
  exact hq
theorem fit_any (b B : Nat) (L : List (List UInt8)) (hL : L.length ≤ 500) (hB : B ≤ b) : ∀ (d : Nat) (t : Tn d) (e : Nat) (u : Tn e) (x y : Value) (σ : Sb) (W : World), Sg W b B L σ → TyAt W B d x t → TyAt W B e y u → (∀ n ∈ namesT d t, n ∈ L) →
    Calls Tryz.prog 37 #[.map (some b), x, y] W fun r w' => r = .returned (.bool (fitT d t e u σ).2) ∧ W.grownBy w' (some b) ∧ Sg w' b B L (fitT d t e u σ).1
  | 0, _, _, _, _, _, _, _, _, h, _, _ => h.elim
  | _ + 1, _, 0, _, _, _, _, _, _, _, h, _ => h.elim
  | d + 1, ((k, n), ts), e + 1, ((k', n'), us), x, y, σ, W, hS, ⟨v, hx, h1, h2, h⟩, hy, hin => by
    simp only at hx h1 h2 h
    subst hx
    generalize hR : fitT (d + 1) ((k, n), ts) (e + 1) ((k', n'), us) σ = R
    by_cases hk : k = 2
    · subst hk
      have hR : fitV σ n (flat (e + 1) ((k', n'), us)) = R := (fit_var d n ts e ((k', n'), us) σ).symm.trans hR
      subst hR
      rw [names_var] at hin
      unfold fitV
      cases hσ : σ n with
      | none => exact fit_new b B L hL hB n h1 (hin n (by simp)) v (by obtain ⟨ad, cap, e0⟩ := h.len; exact ⟨ad, _, cap, e0⟩) (e + 1) y _ σ W hS hy hσ
      | some r' =>
        refine Calls.mono (fit_old b B L hB n h1 v (by obtain ⟨ad, cap, e0⟩ := h.len; exact ⟨ad, _, cap, e0⟩) (e + 1) y _ σ W hS hy r' hσ) ?_
        rintro r w' ⟨rfl, hb⟩
        exact ⟨rfl, grown_of_below hb, hS.on (hb.block _ hS.lt) (hb.mono (by have := hS.lt; omega))⟩
    · obtain ⟨v', hy0, h1', h2', h'⟩ := hy
      simp only at hy0 h1' h2' h'
      subst hy0
      obtain ⟨ad, cap, rfl⟩ := h.len
      obtain ⟨ad', cap', rfl⟩ := h'.len
      rw [names_node _ _ _ _ hk] at hin
      have hlt := hS.lt
      have b1 : ∀ o o', Below W.heap.size W ((W.alloc o).alloc o') := fun o o' => ((Below.refl _ _).alloc (Nat.le_refl _) o).alloc (by simp) o'
      have b2 : ∀ o o' o2 o3, Below W.heap.size W ((((W.alloc o).alloc o').alloc o2).alloc o3) := fun o o' o2 o3 => ((b1 o o').alloc (b1 o o').size o2).alloc (by simp; omega) o3
      by_cases hh : k = k' ∧ n = n'
      · obtain ⟨rfl, rfl⟩ := hh
        have hR : eqAll (fun s t u => fitT d t e u s) σ ts us = R := (fit_node d k n ts e us σ hk).symm.trans hR
        subst hR
        refine fit_of b k hk _ _ ad ad' ts.length us.length cap cap' k W _ (fun r w' hq => ⟨_, hq.1⟩) ?_
        refine alike_yes _ k n ad ad' ts.length us.length cap cap' _ _ (fun r w' hq => ⟨_, hq.1⟩) ?_
        refine Calls.mono (equal_fit d e B b (fun s W' => W.grownBy W' (some b) ∧ Sg W' b B L s) (fun s t u => fitT d t e u s) W (by omega) (fun s W' hs => grown_below' hs.1 hB hlt) (fun s W' o hs => ⟨grown_trans hs.1 (grown_of_below ((Below.refl _ W').alloc (Nat.le_refl _) o)), hs.2.on (Below.heap_alloc _ _ _ hs.2.lt) (((Below.refl _ W').alloc (Nat.le_refl _) o).mono (by have := hs.2.lt; omega))⟩) ts us _ _ h h' h2 ?_ σ _ ?_) ?_
        · intro x y t ht u hu s W' hs hT hU
          refine Calls.mono (fit_any b B L hL hB d t e u x y s W' hs.2 hT hU fun m hm => hin m (List.mem_flatMap.2 ⟨t, ht, hm⟩)) ?_
          rintro r w' ⟨rfl, hg, hs'⟩
          exact ⟨rfl, grown_trans hs.1 hg, hs'⟩
        · have := b2 (Obj.cells #[.int .i64 k, .string ⟨n.toArray⟩, .slice ad ts.length cap] 25) (Obj.cells #[.int .i64 k, .string ⟨n.toArray⟩, .slice ad' us.length cap'] 25) (Obj.cells #[.int .i64 k, .string ⟨n.toArray⟩, .slice ad ts.length cap] 25) (Obj.cells #[.int .i64 k, .string ⟨n.toArray⟩, .slice ad' us.length cap'] 25)
          exact ⟨grown_of_below this, hS.on (this.block _ hlt) (this.mono (by omega))⟩
        · rintro r w' ⟨rfl, hg, hs'⟩
          exact ⟨rfl, hg, hs'⟩
      · have hR : (σ, false) = R := (fit_no d k k' n n' ts e us σ hk hh).symm.trans hR
        subst hR
        refine fit_of b k hk _ _ ad ad' ts.length us.length cap cap' k' W _ (fun r w' hq => ⟨_, hq.1⟩) ?_
        refine Calls.mono (alike_no _ k k' n n' ad ad' ts.length us.length cap cap' _ hh) ?_
        rintro r w' ⟨rfl, rfl⟩
        have := b2 (Obj.cells #[.int .i64 k, .string ⟨n.toArray⟩, .slice ad ts.length cap] 25) (Obj.cells #[.int .i64 k', .string ⟨n'.toArray⟩, .slice ad' us.length cap'] 25) (Obj.cells #[.int .i64 k, .string ⟨n.toArray⟩, .slice ad ts.length cap] 25) (Obj.cells #[.int .i64 k', .string ⟨n'.toArray⟩, .slice ad' us.length cap'] 25)
        exact ⟨rfl, grown_of_below this, hS.on (this.block _ hlt) (this.mono (by omega))⟩
end Go.Proofs.YthcejnpknjepfaaGreat
