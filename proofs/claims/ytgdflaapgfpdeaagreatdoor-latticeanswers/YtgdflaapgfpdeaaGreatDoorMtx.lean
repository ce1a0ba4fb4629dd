/- Rows of types: to read them, to cut them, to append to them. isGround: may a type be, is it small enough, and does no variable stand in it? orderOf and Size. The law's own types: integer, list, function. -/
import Derived.Test.YtgdflaapgfpdeaaGreatDoorMkx
import Derived.Test.YtgdflaapgfpdeaaGreatDoorCr
namespace Go.Proofs.YtgdflaapgfpdeaaGreatDoor
open Go.RowKit

theorem TyAt.tyS {w : World} {B : Nat} : ∀ (d : Nat) (x : Value) (t : Tn d), TyAt w B d x t → TyS w (fun y => y < B) d x t
  | 0, _, _, h => h
  | d + 1, _, _, ⟨v, hx, h1, h2, h⟩ => by
    refine ⟨v, hx, h1, h2, ?_⟩
    rcases h with h | ⟨g, o, cap, hv, h0, hc, hg, h⟩
    · exact .inl h
    · refine .inr ⟨g, o, cap, hv, h0, hc, hg, fun j hj => ?_⟩
      obtain ⟨k, n, u, c0, c1, c2, ht⟩ := h j hj
      exact ⟨k, n, u, c0, c1, c2, TyAt.tyS d _ _ ht⟩
def ETy (d : Nat) : Elt (Tn d) where
  k := 3
  C w S cs t := ∃ k n ad len cap, cs = [.int .i64 k, .string n, .slice ad len cap] ∧ TyS w S d (.agg #[.int .i64 k, .string n, .slice ad len cap]) t
  len := by rintro _ _ _ _ ⟨_, _, _, _, _, rfl, _⟩; rfl
  one := by
    rintro _ _ _ _ ⟨_, _, _, _, _, rfl, _⟩ u hu
    simp only [List.mem_cons, List.not_mem_nil, or_false] at hu
    rcases hu with rfl | rfl | rfl <;> rfl
  on := by
    rintro _ _ _ _ _ _ hk hS ⟨k, n, ad, len, cap, h1, h2⟩
    exact ⟨k, n, ad, len, cap, h1, TyS.on hS hk _ _ _ h2⟩
theorem Tryz.ty22 (d : Nat) : Ty 22 24 (ETy d).k 48 := by
  obtain ⟨i, hi, h0, h1, h2⟩ := info_parts Tryz.info24
  exact ⟨Tryz.underlying22, ⟨i, _, hi, h0, h1, h2, rfl⟩, show 0 < 3 by decide, by decide⟩
/-- The first ones of a row that was made. -/
theorem Own.cut {α : Type} {E : Elt α} {e B : Nat} {w : World} {S : Nat → Prop} {g n cap : Nat} {l m : List α} (h : Own E e B w S (.slice (some ⟨g, 0, none⟩) n cap) (l ++ m)) : Own E e B w S (.slice (some ⟨g, 0, none⟩) l.length cap) l := by
  obtain ⟨css, h1, h2⟩ := h.row
  have hl := h1.1
  rw [List.length_append] at hl
  refine ⟨⟨css.take l.length, ⟨by rw [List.length_take]; omega, fun i a b => ?_⟩, ?_⟩, h.out⟩
  · rw [List.getElem_take]
    have := h1.2 i (by omega) (by rw [List.length_append]; omega)
    rwa [List.getElem_append_left b] at this
  · have hlen := h1.lens
    have e1 : (css.take l.length).flatten = css.flatten.take (l.length * E.k) := by
      have e3 : (css.take l.length).flatten.length = l.length * E.k := by
        rw [flatC_len _ fun c hc => hlen c (List.mem_of_mem_take hc), List.length_take, Nat.min_eq_left (by omega)]
      have e4 : css.flatten = (css.take l.length).flatten ++ (css.drop l.length).flatten := by rw [← List.flatten_append, List.take_append_drop]
      rw [e4, List.take_append_of_le_length (Nat.le_of_eq e3.symm), List.take_of_length_le (Nat.le_of_eq e3)]
    rcases h2 with ⟨h3, h4⟩
    rcases h4 with ⟨q, _⟩ | ⟨g', cap', cur, q, a1, a2, a3, a4, a5, a6⟩
    · simp at q
    · simp only [Value.slice.injEq, Option.some.injEq, Addr.mk.injEq, and_true] at q
      obtain ⟨rfl, q2, rfl⟩ := q
      rw [List.length_append] at a3 a6
      have hle : l.length * E.k ≤ (l.length + m.length) * E.k := Nat.mul_le_mul_right _ (Nat.le_add_right _ _)
      refine ⟨?_, .inr ⟨g, cap, cur, rfl, a1, a2, by omega, a4, a5, ?_⟩⟩
      · rw [flatC_len _ fun c hc => hlen c (List.mem_of_mem_take hc), List.length_take, Nat.min_eq_left (by omega)]
      · rw [e1, ← a6, List.take_take, Nat.min_eq_left hle]
/-- append(x, y...) at a step of a region that draws its order: a row that was made, and another that can be read. -/
theorem step_append_E {α : Type} {E : Elt α} {ops : Array Oper} {o : Oper} {a : Act} {K : Act → World → Prop} {Q : Exit → Act → World → Prop} {P : Prop} {w : World} {Z S : Nat → Prop} {B t e b : Nat} (T : Ty t e E.k b) (hgd : o.guard = none) (s x : Operand)
    (ho : o.op = .call { callee := .builtin .append, args := #[s, x], argTypes := #[t, t] }) {v u : Value} {l m : List α} (hs : a.eval s = v) (hown : Own E e B w S v l) (hx : a.eval x = u) (hm : RowE E w Z S u m) (hl : l.length + m.length ≤ 10000000) (hB : B ≤ w.heap.size) (hS : ∀ y, S y → y < w.heap.size)
    (h : ∀ v' w', Own E e B w' S v' (l ++ m) → Below B w w' → Hid (∀ y, y < w.heap.size → v.ownBlock ≠ some y → w'.heap[y]? = w.heap[y]?) → K (a.put o.dst v') w') : if Region.wanted o (yielded ops a.tmps) = true then Oper.wp Tryz.prog o a w K Q else P := by
  obtain ⟨css, hcs, hro⟩ := hown.row
  obtain ⟨i, z, hi, hz, hk, hby, hzs⟩ := T.info
  obtain ⟨ad, cap, dss, rfl, hds, hlie⟩ := hm.cells T.pos
  by_cases h0 : m = []
  · subst h0
    have hr := append_empty' (t := t) (ty := o.type) T.slice hi hro ad cap
    have hw : Region.wanted o (yielded ops a.tmps) = true := by simp [Region.wanted, hgd]
    rw [if_pos hw]
    exact Lib.wp_append_run w s x t t ho _ _ hs hx _ _ hr (h v w (by rw [List.append_nil]; exact hown) (Below.refl _ _) (fun _ _ _ => rfl))
  · obtain ⟨g, o', rfl, _, hmc, hc⟩ := hlie h0
    have hm0 : 0 < m.length := List.length_pos_iff.2 h0
    have hsm := T.small
    have hfl : dss.flatten.length = m.length * E.k := by rw [flatC_len _ hds.lens, hds.1]
    have hbytes : (l.length + m.length) * b ≤ 140737488355328 := by
      have := Nat.mul_le_mul hl hsm
      omega
    refine step_append_lies w hgd s x t ho B e i z E.k b T.slice hi hz hk hby hzs T.pos v l.length css.flatten hs hro ⟨g, o', none⟩ m.length cap dss.flatten hx hfl (fun j u hu => by
      have h := hc j u hu
      by_cases e : j = 0
      · subst e
        simpa [Addr.add] using h
      · simpa [Addr.add, e] using h) hds.ones hm0 (by unfold maxLen; omega) hbytes hB _ rfl ?_
    intro g' cap' w' h1 h2 h3 h4
    have hk' : Keeps S w w' := fun y hy => h2.block y (hS y hy) fun e => hown.out y hy e.symm
    refine h _ w' ⟨⟨css ++ dss, (hcs.on hk' fun _ h => h).append (hds.on hk' fun _ h => h), ?_⟩, fun y hy e => ?_⟩ ((Below.refl B w).grown h2 hB fun k hk => (hown.lt k hk).1) (fun y hy hne => h2.block y hy fun e => hne e.symm)
    · rw [List.flatten_append, List.length_append]
      exact h1
    · injection e with e
      rcases h3 with h3 | h3
      · exact hown.out y hy (by rw [h3]; exact congrArg some e)
      · have := hS y hy
        have : g' = y := e
        omega
theorem TyS.up {w : World} {S : Nat → Prop} : ∀ (d : Nat) (x : Value) (t : Tn d), TyS w S d x t → TyS w S (d + 1) x (up d t)
  | 0, _, _, h => h.elim
  | d + 1, _, t, ⟨v, hx, h1, h2, h⟩ => by
    refine ⟨v, hx, h1, by show (List.map _ _).length < _; rw [List.length_map]; exact h2, ?_⟩
    rcases h with ⟨h0, h⟩ | ⟨g, o, cap, hv, h0, hc, hg, h⟩
    · exact .inl ⟨by show List.map _ _ = _; rw [h0]; rfl, h⟩
    · refine .inr ⟨g, o, cap, by rw [hv]; show _ = Value.slice _ (List.map _ _).length _; rw [List.length_map], by show List.map _ _ ≠ _; simpa using h0, by show (List.map _ _).length ≤ _; rw [List.length_map]; exact hc, hg, fun j hj => ?_⟩
      have hj' : j < t.2.length := by
        have : j < (List.map (Go.Proofs.YtgdflaapgfpdeaaGreatDoor.up d) t.2).length := hj
        rwa [List.length_map] at this
      obtain ⟨k, n, u, c0, c1, c2, ht⟩ := h j hj'
      refine ⟨k, n, u, c0, c1, c2, ?_⟩
      have := TyS.up d _ _ ht
      show TyS w S (d + 1) _ ((List.map (Go.Proofs.YtgdflaapgfpdeaaGreatDoor.up d) t.2)[j]'(by rw [List.length_map]; exact hj'))
      rw [List.getElem_map]
      exact this
/-- A type's arguments, as a row. -/
theorem kids_row {w : World} {S : Nat → Prop} {d : Nat} {k : Int} {n : ByteArray} {u : Value} {t : Tn (d + 1)} (h : TyS w S (d + 1) (.agg #[.int .i64 k, .string n, u]) t) : k = t.1.1 ∧ RowE (ETy (d + 1)) w S S u (t.2.map (up d)) := by
  obtain ⟨v, e, h1, h2, h3⟩ := h
  simp only [Value.agg.injEq, Array.mk.injEq, List.cons.injEq, and_true, Value.int.injEq, true_and] at e
  obtain ⟨e1, _, e3⟩ := e
  refine ⟨e1, ?_⟩
  rw [e3]
  rcases h3 with ⟨h0, ad, cap, hv⟩ | ⟨g, o, cap, hv, h0, hc, hg, hj⟩
  · exact .inl ⟨by rw [h0]; rfl, ad, cap, hv⟩
  · refine .inr ⟨g, o, cap, by rw [hv, List.length_map], by simpa using h0, by rw [List.length_map]; exact hc, fun j hjl => ?_⟩
    rw [List.length_map] at hjl
    obtain ⟨k', n', u', c0, c1, c2, ht⟩ := hj j hjl
    obtain ⟨ad', len', cap', rfl⟩ := ht.slice
    refine ⟨hg, [.int .i64 k', .string n', .slice ad' len' cap'], ⟨k', n', ad', len', cap', rfl, ?_⟩, fun c hc' => ?_⟩
    · rw [List.getElem_map]
      exact TyS.up d _ _ ht
    · have hc' : c < 3 := hc'
      show w.cell? ⟨g, o + j * 3 + c, none⟩ = _
      match c, hc' with
      | 0, _ => exact c0
      | 1, _ => exact c1
      | 2, _ => exact c2
end Go.Proofs.YtgdflaapgfpdeaaGreatDoor

namespace Go.Proofs.YtgdflaapgfpdeaaGreatDoor
open Go.RowKit

def NoVar (l : List Nd) : Prop := ∀ x ∈ l, x.1 ≠ 2
theorem NoVar.app {l m : List Nd} : NoVar (l ++ m) ↔ NoVar l ∧ NoVar m := by
  unfold NoVar
  constructor
  · intro h
    exact ⟨fun x hx => h x (by simp [hx]), fun x hx => h x (by simp [hx])⟩
  · rintro ⟨h1, h2⟩ x hx
    rcases List.mem_append.1 hx with hx | hx
    · exact h1 x hx
    · exact h2 x hx
theorem flats_up (d : Nat) (ts : List (Tn d)) : flats (d + 1) (ts.map (up d)) = flats d ts := by
  unfold flats
  rw [List.map_map]
  congr 1
  apply List.map_congr_left
  intro t _
  exact flat_up d t
theorem flats_ge (d : Nat) : ∀ ts : List (Tn d), ts.length ≤ (flats d ts).length
  | [] => Nat.zero_le _
  | t :: ts => by
    have := flats_ge d ts
    have := flat_pos d t
    rw [flats_cons, List.length_append, List.length_cons]
    omega
/-- One node is taken off. -/
theorem flats_pop (d : Nat) (init : List (Tn (d + 1))) (t : Tn (d + 1)) : (flats (d + 1) (init ++ [t])).length = (flats (d + 1) (init ++ t.2.map (up d))).length + 1 ∧ (NoVar (flats (d + 1) (init ++ [t])) ↔ t.1.1 ≠ 2 ∧ NoVar (flats (d + 1) (init ++ t.2.map (up d)))) := by
  rw [flats_app, flats_app, flats_up, flats_cons, flats_nil, List.append_nil, show flat (d + 1) t = (t.1.1, t.1.2, t.2.length) :: flats d t.2 from rfl]
  refine ⟨by simp; omega, ?_⟩
  rw [NoVar.app, NoVar.app]
  constructor
  · rintro ⟨h1, h2⟩
    exact ⟨h2 (t.1.1, t.1.2, t.2.length) (by simp), h1, fun x hx => h2 x (by simp [hx])⟩
  · rintro ⟨h0, h1, h2⟩
    refine ⟨h1, fun x hx => ?_⟩
    rcases List.mem_cons.1 hx with rfl | hx
    · exact h0
    · exact h2 x hx
theorem lit_own {w : World} {B : Nat} {S : Nat → Prop} {d : Nat} {k : Int} {n : ByteArray} {ad : Option Addr} {len cap : Nat} {t : Tn d} (hB : B ≤ w.heap.size) (hS : ∀ y, S y → y < w.heap.size) (h : TyS w S d (.agg #[.int .i64 k, .string n, .slice ad len cap]) t) : Own (ETy d) 24 B (w.alloc (.cells #[.int .i64 k, .string n, .slice ad len cap] 24)) S (.slice (some ⟨w.heap.size, 0, none⟩) 1 1) [t] := by
  have hb : Below w.heap.size w (w.alloc (.cells #[.int .i64 k, .string n, .slice ad len cap] 24)) := (Below.refl _ _).alloc (Nat.le_refl _) _
  refine ⟨⟨[[.int .i64 k, .string n, .slice ad len cap]], Css.one ⟨k, n, ad, len, cap, rfl, TyS.on (fun _ h => h) (fun g hg => hb.block g (hS g hg)) _ _ _ h⟩, rfl, .inr ⟨w.heap.size, 1, _, rfl, hB, new_blk _ _, Nat.le_refl _, by decide, rfl, rfl⟩⟩, fun y hy e => ?_⟩
  have : w.heap.size = y := by injection e
  have := hS y hy
  omega
/-- The last one of a row of types. -/
theorem last_at {w : World} {B : Nat} {S : Nat → Prop} {d : Nat} {v : Value} {init : List (Tn d)} {t : Tn d} (h : Own (ETy d) 24 B w S v (init ++ [t])) : ∃ g cap k n ad len c, v = .slice (some ⟨g, 0, none⟩) (init.length + 1) cap ∧ init.length + 1 ≤ cap ∧ B ≤ g ∧ g < w.heap.size ∧ w.cell? ⟨g, init.length * 3, none⟩ = some (.int .i64 k) ∧ w.cell? ⟨g, init.length * 3 + 1, none⟩ = some (.string n) ∧ w.cell? ⟨g, init.length * 3 + 2, none⟩ = some (.slice ad len c) ∧ TyS w S d (.agg #[.int .i64 k, .string n, .slice ad len c]) t := by
  have hlt := h.lt
  have hr := h.rowE
  rcases hr with ⟨q, _⟩ | ⟨g, o, cap, rfl, _, hc, hj⟩
  · simp at q
  · obtain ⟨css, _, hro⟩ := h.row
    rcases hro.2 with ⟨q, _⟩ | ⟨g', cap', cur, q, _⟩
    · simp at q
    · simp only [Value.slice.injEq, Option.some.injEq, Addr.mk.injEq, and_true] at q
      obtain ⟨⟨_, rfl⟩, _, _⟩ := q
      obtain ⟨_, cs, ⟨k, n, ad, len, c, rfl, ht⟩, hcell⟩ := hj init.length (by simp)
      have a0 := hcell 0 (show 0 < 3 by decide)
      have a1 := hcell 1 (show 1 < 3 by decide)
      have a2 := hcell 2 (show 2 < 3 by decide)
      rw [List.length_append, List.length_singleton] at hc
      refine ⟨g, cap, k, n, ad, len, c, by simp, hc, (hlt g rfl).1, (hlt g rfl).2, ?_, ?_, ?_, ?_⟩
      · simpa [ETy] using a0
      · simpa [ETy] using a1
      · simpa [ETy] using a2
      · simpa using ht
set_option maxHeartbeats 16000000 in
set_option maxRecDepth 10000 in
theorem ground_any (d : Nat) (x : Value) (t : Tn (d + 1)) (w : World) (hx : TyAt w w.heap.size (d + 1) x t) (hN : (flat (d + 1) t).length ≤ 4194304) :
    Calls Tryz.prog 43 #[x] w fun r w' => ∃ bv, r = .returned (.bool bv) ∧ Hid (Below w.heap.size w w') ∧ Hid (bv = true ↔ wrongT (d + 1) t = 0 ∧ NoVar (flat (d + 1) t)) := by
  have HX : Hid (TyAt w w.heap.size (d + 1) x t) := hx
  obtain ⟨u, rfl, hn1, hn2, hrow⟩ := hx
  obtain ⟨ad, cap, rfl⟩ := hrow.len
  generalize hk : t.1.1 = k at *
  generalize hn : t.1.2 = n at *
  generalize hm : t.2.length = m at *
  obtain ⟨X, hX⟩ : ∃ X, X = w.heap.size := ⟨_, rfl⟩
  obtain ⟨W, hW⟩ : ∃ W, W = w.alloc (.cells #[.int .i64 k, .string ⟨n.toArray⟩, .slice ad m cap] 24) := ⟨_, rfl⟩
  have hBW : Below X w W := by rw [hW, hX]; exact (Below.refl _ _).alloc (Nat.le_refl _) _
  have hXW : W.heap[X]? = some (.cells #[.int .i64 k, .string ⟨n.toArray⟩, .slice ad m cap] 24 (0, 0)) := by rw [hW, hX]; exact new_blk _ _
  have hS : TyS W (fun y => y < X) (d + 1) (.agg #[.int .i64 k, .string ⟨n.toArray⟩, .slice ad m cap]) t := TyS.on (fun _ h => h) (fun g hg => hBW.block g hg) _ _ _ (by rw [hX]; exact TyAt.tyS _ _ _ HX.out)
  have hSl : ∀ y, y < X → y < W.heap.size := fun y hy => Nat.lt_trans hy (lt_heap hXW)
  have HO0 : Hid (Own (ETy (d + 1)) 24 (X + 1) (W.alloc (.cells #[.int .i64 k, .string ⟨n.toArray⟩, .slice ad m cap] 24)) (fun y => y < X) (.slice (some ⟨W.heap.size, 0, none⟩) 1 1) [t]) := lit_own (lt_heap hXW) hSl hS
  have HB0 : Hid (Below X w (W.alloc (.cells #[.int .i64 k, .string ⟨n.toArray⟩, .slice ad m cap] 24))) := hBW.alloc (Nat.le_of_lt (lt_heap hXW)) _
  have HX0 : Hid ((W.alloc (.cells #[.int .i64 k, .string ⟨n.toArray⟩, .slice ad m cap] 24)).heap[X]? = some (.cells #[.int .i64 k, .string ⟨n.toArray⟩, .slice ad m cap] 24 (0, 0))) := (Below.heap_alloc _ _ _ (lt_heap hXW)).trans hXW
  have c0 : W.cell? ⟨X, 0, none⟩ = some (.int .i64 k) := heap_cl hXW rfl
  have c1 : W.cell? ⟨X, 1, none⟩ = some (.string ⟨n.toArray⟩) := heap_cl hXW rfl
  have c2 : W.cell? ⟨X, 2, none⟩ = some (.slice ad m cap) := heap_cl hXW rfl
  have HXE : Hid (X = w.heap.size) := hX
  have HN : Hid ((flat (d + 1) t).length ≤ 4194304) := hN
  have HF : Hid (flats (d + 1) [t] = flat (d + 1) t) := by
    show flats (d + 1) [t] = _
    rw [flats_cons, flats_nil, List.append_nil]
  have HFL : Hid (500 < (flat (d + 1) t).length → wrongT (d + 1) t ≠ 0) := fun h => by
    unfold wrongT
    rw [if_pos h]
    split <;> decide
  obtain ⟨W2, hW2⟩ : ∃ W2, W2 = W.alloc (.cells #[.int .i64 k, .string ⟨n.toArray⟩, .slice ad m cap] 24) := ⟨_, rfl⟩
  rw [← hW2] at HO0 HB0 HX0
  rw [← hX]
  clear hn1 hn2 hrow hX hBW hXW hS hSl hN hk hn hm
  go_enter Tryz.func43, Tryz.ntmps43
  go_upto_region 2 with fail
  rw [← hW, ← HXE.out]
  clear hW
  go_upto_region 3 with fail
  rw [← hW2]
  clear hW2 c0 c1 c2
  go_loopw [3, 4] (fun nv rv wr => ∃ (c : Nat) (l : List (Tn (d + 1))), c ≤ 500 ∧ nv = .int .i64 c ∧ Hid (Below X w wr) ∧ Hid (wr.heap[X]? = some (.cells #[.int .i64 k, .string ⟨n.toArray⟩, .slice ad m cap] 24 (0, 0))) ∧ Hid (Own (ETy (d + 1)) 24 (X + 1) wr (fun y => y < X) rv l) ∧ Hid (c + (flats (d + 1) l).length = (flat (d + 1) t).length) ∧ Hid (NoVar (flat (d + 1) t) ↔ NoVar (flats (d + 1) l))) (fun nv _ _ => 501 - (intOf nv).toNat)
  case atStart => exact ⟨0, [t], by omega, by go_num, HB0.out, HX0.out, HO0.out, by show _ = _; rw [HF.out]; omega, by show _ ↔ _; rw [HF.out]⟩
  case round =>
    clear HB0 HX0 HO0 HF
    obtain ⟨c, l, hc, rfl, HB, HXc, HO, HC, HV⟩ := hrel
    rcases List.eq_nil_or_concat l with rfl | ⟨init, node, rfl⟩
    · obtain ⟨ad2, cap2, hv⟩ := HO.out.len
      subst hv
      have CC := canons_any (d + 1) (.agg #[.int .i64 k, .string ⟨n.toArray⟩, .slice ad m cap]) t wr X (Nat.le_of_lt (lt_heap HXc.out)) (by have h := HX.out; rw [← HXE.out] at h; exact h.on HB.out) HN.out
      have e0 : wr.cell? ⟨X, 0, none⟩ = some (.int .i64 k) := heap_cl HXc.out rfl
      have e1 : wr.cell? ⟨X, 1, none⟩ = some (.string ⟨n.toArray⟩) := heap_cl HXc.out rfl
      have e2 : wr.cell? ⟨X, 2, none⟩ = some (.slice ad m cap) := heap_cl HXc.out rfl
      have HNV : Hid (NoVar (flat (d + 1) t)) := HV.out.2 (fun x hx => by simp [flats] at hx)
      have HXl : Hid (X ≤ wr.heap.size) := Nat.le_of_lt (lt_heap HXc.out)
      clear HO HC HV HXc HFL
      go_upto_region 11 with (first | (go_at_call 54; (with_reducible refine Calls.mono CC ?_); rintro e' w3 ⟨hb3, k3, n3, ad3, len3, cap3, d3, t3, rws3, rfl, h3⟩; clear h3))
      have HB3 : Hid (Below X w (w3.alloc (.cells #[.int .i64 k3, .string n3, .slice ad3 len3 cap3] 24))) := (HB.out.trans (hb3.mono HXl.out)).alloc (Nat.le_trans HXl.out hb3.size) _
      clear CC e0 e1 e2 hb3
      generalize w3.alloc (.cells #[.int .i64 k3, .string n3, .slice ad3 len3 cap3] 24) = w4 at *
      by_cases hw : wrongT (d + 1) t = 0
      · have e5 : (wrongT (d + 1) t == 0) = true := by simp [hw]
        have HW : Hid (wrongT (d + 1) t = 0) := hw
        clear hw
        go_wp2
        go_ret
        exact ⟨true, rfl, HB3.out, ⟨fun _ => ⟨HW.out, HNV.out⟩, fun _ => rfl⟩⟩
      · have e5 : (wrongT (d + 1) t == 0) = false := by simp [hw]
        have HW : Hid (¬ wrongT (d + 1) t = 0) := hw
        clear hw
        go_wp2
        go_ret
        exact ⟨false, rfl, HB3.out, ⟨fun h => (by cases h), fun h => absurd h.1 HW.out⟩⟩
    · rw [List.concat_eq_append] at HO HC HV
      obtain ⟨g, cap2, k2, n2, ad2, len2, c2, rfl, hcap2, hg1, hg2, p0, p1, p2, ht2⟩ := last_at HO.out
      have i1 : (0 : Int) < ((init.length + 1 : Nat) : Int) := by omega
      have hqb : init.length ≤ 4194304 := by
        have h1 := flats_ge (d + 1) (init ++ [node])
        have h2 := HC.out
        have h3 := HN.out
        rw [List.length_append] at h1
        omega
      generalize hq : init.length = q at *
      have HPOP := flats_pop d init node
      obtain ⟨hk2, hkids⟩ := kids_row ht2
      have HCUT : Hid (Own (ETy (d + 1)) 24 (X + 1) wr (fun y => y < X) (.slice (some ⟨g, 0, none⟩) q cap2) init) := by
        have h := Own.cut HO.out
        rw [hq] at h
        exact h
      have HPL : Hid (_ ∧ _) := HPOP
      replace HPL : Hid ((flats (d + 1) (init ++ [node])).length = (flats (d + 1) (init ++ node.2.map (up d))).length + 1 ∧ (NoVar (flats (d + 1) (init ++ [node])) ↔ node.1.1 ≠ 2 ∧ NoVar (flats (d + 1) (init ++ node.2.map (up d))))) := HPOP
      have HKD : Hid (RowE (ETy (d + 1)) wr (fun y => y < X) (fun y => y < X) (.slice ad2 len2 c2) (node.2.map (up d))) := hkids
      have HK2 : Hid (k2 = node.1.1) := hk2
      have HQ : Hid (init.length = q) := hq
      clear HPOP hkids hk2 hq ht2 HO
      go_upto_region 7 with fail
      clear p0 p1 p2
      obtain ⟨Y, hY⟩ : ∃ Y, Y = wr.heap.size := ⟨_, rfl⟩
      obtain ⟨W3, hW3⟩ : ∃ W3, W3 = wr.alloc (.cells #[.int .i64 k2, .string n2, .slice ad2 len2 c2] 24) := ⟨_, rfl⟩
      have hB3 : Below wr.heap.size wr W3 := by rw [hW3]; exact (Below.refl _ _).alloc (Nat.le_refl _) _
      have hY3 : W3.heap[Y]? = some (.cells #[.int .i64 k2, .string n2, .slice ad2 len2 c2] 24 (0, 0)) := by rw [hW3, hY]; exact new_blk _ _
      have y0 : W3.cell? ⟨Y, 0, none⟩ = some (.int .i64 k2) := heap_cl hY3 rfl
      have hXl := lt_heap HXc.out
      have HB3 : Hid (Below X w W3) := HB.out.trans (hB3.mono (Nat.le_of_lt hXl))
      have HX3 : Hid (W3.heap[X]? = some (.cells #[.int .i64 k, .string ⟨n.toArray⟩, .slice ad m cap] 24 (0, 0))) := (hB3.block X hXl).trans HXc.out
      have hkS : Keeps (fun y => y < X) wr W3 := fun y hy => hB3.block y (Nat.lt_trans hy hXl)
      have HCUT3 : Hid (Own (ETy (d + 1)) 24 (X + 1) W3.drew (fun y => y < X) (.slice (some ⟨g, 0, none⟩) q cap2) init) := Own.on HCUT.out hkS fun y e => hB3.block y (HCUT.out.lt y e).2
      have HKD3 : Hid (RowE (ETy (d + 1)) W3.drew (fun y => y < X) (fun y => y < X) (.slice ad2 len2 c2) (node.2.map (up d))) := HKD.out.on hkS hkS (fun _ h => h) fun _ h => h
      have HY3 : Hid (W3.heap[Y]? = some (.cells #[.int .i64 k2, .string n2, .slice ad2 len2 c2] 24 (0, 0))) := hY3
      have HYE : Hid (Y = wr.heap.size) := hY
      have HX3l : Hid (X < W3.heap.size) := lt_heap HX3.out
      rw [← hW3, ← hY]
      clear hW3 hY hB3 hY3 hkS HCUT HKD HB HXc hXl
      by_cases h500 : c = 500
      · have i5 : ((c : Int) == 500) = true := by simp; omega
        have HBAD : Hid (wrongT (d + 1) t ≠ 0) := HFL.out (by have h1 := HC.out; have h2 := HPL.out.1; omega)
        clear h500
        go_wp2
        go_ret
        exact ⟨false, rfl, HB3.out, ⟨fun h => (by cases h), fun h => absurd h.1 HBAD.out⟩⟩
      · have i5 : ((c : Int) == 500) = false := by simp; omega
        have hc5 : c < 500 := by omega
        by_cases hk2 : k2 = 2
        · have i6 : (k2 == 2) = true := by simp [hk2]
          have HBAD : Hid (¬ NoVar (flat (d + 1) t)) := fun h => (HPL.out.2.1 (HV.out.1 h)).1 (by rw [← HK2.out]; exact hk2)
          clear h500 hk2
          go_wp2
          go_ret
          exact ⟨false, rfl, HB3.out, ⟨fun h => (by cases h), fun h => absurd h.2 HBAD.out⟩⟩
        · have i6 : (k2 == 2) = false := by simp [hk2]
          have HVV : Hid (NoVar (flat (d + 1) t) ↔ NoVar (flats (d + 1) (init ++ node.2.map (up d)))) := HV.out.trans (HPL.out.2.trans ⟨fun h => h.2, fun h => ⟨by rw [← HK2.out]; exact hk2, h⟩⟩)
          have HCC : Hid (c + 1 + (flats (d + 1) (init ++ node.2.map (up d))).length = (flat (d + 1) t).length) := by have h1 := HC.out; have h2 := HPL.out.1; show _ = _; omega
          clear h500 hk2 HV HC HPL
          go_upto_region 9 with fail
          have hS0 : (fun w' : World => w'.cell? ⟨Y, 2, none⟩ = some (.slice ad2 len2 c2)) W3.drew := heap_cl HY3.out rfl
          have j1 : (0 : Int) ≤ (q : Int) := by omega
          have j2 : (q : Int) ≤ (cap2 : Int) := by omega
          refine wp_region_M (S := (fun w' : World => w'.cell? ⟨Y, 2, none⟩ = some (.slice ad2 len2 c2))) (L := 6) (n := 7) (by kernel_rfl) rfl (by kernel_rfl) ?_
          refine wpAnyK_go (i := 0) (m' := 1) (some 30) (v := .slice (some ⟨g, 0, none⟩) (q + 1) cap2) rfl rfl (by kernel_rfl) (by kernel_rfl) (by kernel_rfl) (by kernel_rfl) (by kernel_rfl) (fun _ _ _ h => h) (Or.inl ⟨by rfl, ?_⟩) hS0 ?_
          · intro w' hSw
            go_simp
          simp only [Act.put, List.setIfInBounds_toArray, List.set_cons_zero, List.set_cons_succ]
          refine wpAnyK_go (i := 1) (m' := 3) (some 31) (v := .int .i64 (q : Int)) rfl rfl (by kernel_rfl) (by kernel_rfl) (by kernel_rfl) (by kernel_rfl) (by kernel_rfl) (fun _ _ _ h => h) (Or.inl ⟨by rfl, ?_⟩) hS0 ?_
          · intro w' hSw
            go_simp
          simp only [Act.put, List.setIfInBounds_toArray, List.set_cons_zero, List.set_cons_succ]
          refine wpAnyK_go (i := 2) (m' := 7) (some 32) (v := .slice (some ⟨g, 0, none⟩) q cap2) rfl rfl (by kernel_rfl) (by kernel_rfl) (by kernel_rfl) (by kernel_rfl) (by kernel_rfl) (fun _ _ _ h => h) (Or.inl ⟨by rfl, ?_⟩) hS0 ?_
          · intro w' hSw
            go_simp
          simp only [Act.put, List.setIfInBounds_toArray, List.set_cons_zero, List.set_cons_succ]
          refine wpAnyK_go (i := 3) (m' := 15) (some 33) (v := .pointer (some ⟨Y, 2, none⟩)) rfl rfl (by kernel_rfl) (by kernel_rfl) (by kernel_rfl) (by kernel_rfl) (by kernel_rfl) (fun _ _ _ h => h) (Or.inl ⟨by rfl, ?_⟩) hS0 ?_
          · intro w' hSw
            go_simp
          simp only [Act.put, List.setIfInBounds_toArray, List.set_cons_zero, List.set_cons_succ]
          refine wpAnyK_go (i := 4) (m' := 31) (some 34) (v := .slice ad2 len2 c2) rfl rfl (by kernel_rfl) (by kernel_rfl) (by kernel_rfl) (by kernel_rfl) (by kernel_rfl) (fun _ _ _ h => h) (Or.inl ⟨by rfl, ?_⟩) hS0 ?_
          · intro w' hSw
            replace hSw : w'.cell? ⟨Y, 2, none⟩ = some (.slice ad2 len2 c2) := hSw
            go_simp
          simp only [Act.put, List.setIfInBounds_toArray, List.set_cons_zero, List.set_cons_succ]
          refine wpAnyK_only (i := 5) (m' := 63) (by kernel_rfl) rfl (by kernel_rfl) fun K2 hK => ?_
          refine step_append_E (E := ETy (d + 1)) (w := W3.drew) (v := .slice (some ⟨g, 0, none⟩) q cap2) (u := .slice ad2 len2 c2) (Tryz.ty22 (d + 1)) rfl _ _ rfl rfl HCUT3.out rfl HKD3.out ?_ HX3l.out (fun y hy => Nat.lt_trans hy HX3l.out) ?_
          · have h1 := flats_ge (d + 1) (init ++ node.2.map (up d))
            have h2 := HCC.out
            have h3 := HN.out
            rw [List.length_append] at h1
            omega
          intro v4 w4 O4 B4 F4
          have HO4 : Hid (Own (ETy (d + 1)) 24 (X + 1) w4 (fun y => y < X) v4 (init ++ node.2.map (up d))) := O4
          have hY4 : w4.heap[Y]? = some (.cells #[.int .i64 k2, .string n2, .slice ad2 len2 c2] 24 (0, 0)) := (F4.out Y (lt_heap HY3.out) (fun e => by have h1 : g = Y := Option.some.inj e; have h2 := HYE.out; omega)).trans HY3.out
          have hS4 : (fun w' : World => w'.cell? ⟨Y, 2, none⟩ = some (.slice ad2 len2 c2)) w4 := heap_cl hY4 rfl
          have HB4 : Hid (Below X w w4) := (HB3.out.drew).trans (B4.mono (Nat.le_succ X))
          have HX4 : Hid (w4.heap[X]? = some (.cells #[.int .i64 k, .string ⟨n.toArray⟩, .slice ad m cap] 24 (0, 0))) := (B4.block X (Nat.lt_succ_self X)).trans HX3.out
          clear O4 B4 F4 hY4 hS0
          refine hK.out _ _ (fun _ => hS4) ?_
          clear hK K2
          simp only [Act.put, List.setIfInBounds_toArray]
          refine wpAnyK_only (i := 6) (m' := 127) (by kernel_rfl) rfl (by kernel_rfl) fun K2 hK => ?_
          go_simp
          refine hK.out _ _ (fun h => absurd rfl h) ?_
          clear hK K2
          refine wpAnyK_done (by kernel_rfl) ?_ _
          clear hS4 i5 i6 j1 j2 HCUT3 HKD3 HY3 HYE HX3 HB3 y0 HX3l
          go_wp2
          go_roundw
          case rel => exact ⟨c + 1, _, hc5, by go_num, HB4.out, HX4.out, HO4.out, HCC.out, HVV.out⟩
          case measure => simp [intOf]; omega
end Go.Proofs.YtgdflaapgfpdeaaGreatDoor

namespace Go.Proofs.YtgdflaapgfpdeaaGreatDoor
open Go.RowKit

def noVarB (l : List Nd) : Bool := l.all fun x => decide (x.1 ≠ 2)
theorem noVarB_iff {l : List Nd} : noVarB l = true ↔ NoVar l := by
  unfold noVarB NoVar
  rw [List.all_eq_true]
  simp only [decide_eq_true_eq]
/-- A type's order, if it may be and has no variable. -/
def orderD (d : Nat) (t : Tn d) : Option OrdD := if wrongT d t = 0 ∧ noVarB (flat d t) = true then ordD d t else none
theorem form_gnd : ∀ (d : Nat) (t : Tn d), formB d t = true → GndT d t
  | 0, _, h => by cases h
  | d + 1, t, h => by
    intro hk
    unfold formB at h
    rw [if_neg (by omega), if_neg (by omega), if_pos hk] at h
    simp only [Bool.and_eq_true, decide_eq_true_eq, List.all_eq_true] at h
    obtain ⟨⟨_, h2⟩, h3⟩ := h
    match hts : t.2, h2 with
    | [a, b], _ =>
      rw [hts] at h3
      exact ⟨a, b, rfl, form_gnd d a (h3 a (by simp)), form_gnd d b (h3 b (by simp))⟩
theorem wrong_form {d : Nat} {t : Tn d} (h : wrongT d t = 0) : formB d t = true ∧ (flat d t).length ≤ 500 := by
  unfold wrongT at h
  split at h
  · next hf =>
    split at h
    · cases h
    · exact ⟨hf, by omega⟩
  · cases h
/-- What is known of the answer. -/
def OrdPost (w : World) (od : Option OrdD) (r : Ending) (w' : World) : Prop :=
  Below w.heap.size w w' ∧ ((od = none ∧ r = .returned (.tuple #[.pointer none, .int .i64 140])) ∨ ∃ D p, od = some D ∧ r = .returned (.tuple #[.pointer (some ⟨p, 0, none⟩), .int .i64 0]) ∧ OrP w' (fun y => y < w'.heap.size) p D ∧ Lat D.1)
theorem kw_start (w : World) : KW w.heap.size (w.heap.size + 1) w.heap.size (w.heap.size + 2) (.slice none 0 0) [] ((w.alloc (.map #[] 0)).alloc (.cells #[.map (some w.heap.size), .slice none 0 0] 76)) := by
  have h1 : ((w.alloc (.map #[] 0)).alloc (.cells #[.map (some w.heap.size), .slice none 0 0] 76)).heap[w.heap.size + 1]? = some (.cells #[.map (some w.heap.size), .slice none 0 0] 76 (0, 0)) := by
    have := new_blk (w.alloc (.map #[] 0)) (.cells #[.map (some w.heap.size), .slice none 0 0] 76)
    rwa [World.size_alloc] at this
  refine ⟨Nat.le_succ _, Nat.le_refl _, by omega, by omega, by omega, by rw [World.size_alloc, World.size_alloc]; omega, h1, ?_, OwnN.nil _ _ _ _ _, TOk.nil⟩
  exact (Ms.made w).on (Below.heap_alloc _ _ _ (by rw [World.size_alloc]; omega))
set_option maxHeartbeats 16000000 in
set_option maxRecDepth 10000 in
theorem orderOf_any (d : Nat) (x : Value) (t : Tn (d + 1)) (w : World) (hx : TyAt w w.heap.size (d + 1) x t) (hN : (flat (d + 1) t).length ≤ 4194304) :
    Calls Tryz.prog 32 #[x] w fun r w' => Hid (OrdPost w (orderD (d + 1) t) r w') := by
  have HX : Hid (TyAt w w.heap.size (d + 1) x t) := hx
  obtain ⟨u, rfl, hn1, hn2, hrow⟩ := hx
  obtain ⟨ad, cap, rfl⟩ := hrow.len
  generalize hk : t.1.1 = k at *
  generalize hn : t.1.2 = n at *
  generalize hm : t.2.length = m at *
  obtain ⟨X, hX⟩ : ∃ X, X = w.heap.size := ⟨_, rfl⟩
  obtain ⟨W, hW⟩ : ∃ W, W = w.alloc (.cells #[.int .i64 k, .string ⟨n.toArray⟩, .slice ad m cap] 24) := ⟨_, rfl⟩
  have hBW : Below X w W := by rw [hW, hX]; exact (Below.refl _ _).alloc (Nat.le_refl _) _
  have hXW : W.heap[X]? = some (.cells #[.int .i64 k, .string ⟨n.toArray⟩, .slice ad m cap] 24 (0, 0)) := by rw [hW, hX]; exact new_blk _ _
  have HTY : Hid (∀ (w2 : World) (B : Nat), Below X w w2 → X ≤ B → TyAt w2 B (d + 1) (.agg #[.int .i64 k, .string ⟨n.toArray⟩, .slice ad m cap]) t) := fun w2 B hb hB => TyAt.below (by rw [← hX]; exact hb) (by rw [← hX]; exact hB) _ _ _ HX.out
  have CG := ground_any d (.agg #[.int .i64 k, .string ⟨n.toArray⟩, .slice ad m cap]) t W (HTY.out W W.heap.size hBW (Nat.le_of_lt (lt_heap hXW))) hN
  have c0 : W.cell? ⟨X, 0, none⟩ = some (.int .i64 k) := heap_cl hXW rfl
  have c1 : W.cell? ⟨X, 1, none⟩ = some (.string ⟨n.toArray⟩) := heap_cl hXW rfl
  have c2 : W.cell? ⟨X, 2, none⟩ = some (.slice ad m cap) := heap_cl hXW rfl
  have HXE : Hid (X = w.heap.size) := hX
  have HXW : Hid (W.heap[X]? = some (.cells #[.int .i64 k, .string ⟨n.toArray⟩, .slice ad m cap] 24 (0, 0))) := hXW
  have HBW : Hid (Below X w W) := hBW
  have HORD : Hid (∀ (w2 : World), wrongT (d + 1) t = 0 → NoVar (flat (d + 1) t) → orderD (d + 1) t = ordD (d + 1) t ∧ OfC 44 (d + 1) t ∧ (flat (d + 1) t).length ≤ 500) := fun w2 h1 h2 => ⟨by unfold orderD; rw [if_pos ⟨h1, noVarB_iff.2 h2⟩], of_any _ _ (form_gnd _ _ (wrong_form h1).1), (wrong_form h1).2⟩
  have HNO : Hid (¬ (wrongT (d + 1) t = 0 ∧ NoVar (flat (d + 1) t)) → orderD (d + 1) t = none) := fun h => by
    show (if _ then _ else _) = _
    rw [if_neg (fun q => h ⟨q.1, noVarB_iff.1 q.2⟩)]
  clear hn1 hn2 hrow hX hBW hXW hk hn hm hN HX
  go_enter Tryz.func32, Tryz.ntmps32
  go_upto_region 1 with fail
  rw [← hW, ← HXE.out]
  clear hW
  by_cases hg : wrongT (d + 1) t = 0 ∧ NoVar (flat (d + 1) t)
  · replace CG : Calls Tryz.prog 43 #[.agg #[.int .i64 k, .string ⟨n.toArray⟩, .slice ad m cap]] W fun r w' => r = .returned (.bool true) ∧ Hid (Below W.heap.size W w') := CG.mono fun r w' ⟨bv, h1, h2, h3⟩ => ⟨by rw [h1, h3.out.2 hg], h2⟩
    obtain ⟨h1, h2, h3⟩ := HORD.out w hg.1 hg.2
    have HEQ : Hid (orderD (d + 1) t = ordD (d + 1) t) := h1
    have HOF : Hid (OfC 44 (d + 1) t) := h2
    have HFL : Hid ((flat (d + 1) t).length ≤ 500) := h3
    clear h1 h2 h3 hg HORD HNO
    go_upto_region 3 with (first | (go_at_call 43; (with_reducible refine Calls.mono CG ?_); rintro e' w2 ⟨rfl, HB2⟩))
    clear c0 c1 c2 CG
    obtain ⟨W3, hW3⟩ : ∃ W3, W3 = (w2.alloc (.map #[] 0)).alloc (.cells #[.map (some w2.heap.size), .slice none 0 0] 76) := ⟨_, rfl⟩
    have HKW : Hid (KW w2.heap.size (w2.heap.size + 1) w2.heap.size (w2.heap.size + 2) (.slice none 0 0) [] W3) := by rw [hW3]; exact kw_start w2
    have hb3 : Below w2.heap.size w2 W3 := by
      rw [hW3]
      exact ((Below.refl _ _).alloc (Nat.le_refl _) _).alloc (by rw [World.size_alloc]; omega) _
    have hXl := lt_heap HXW.out
    have HB3 : Hid (Below X w W3) := (HBW.out.trans (HB2.out.mono (Nat.le_of_lt hXl))).trans (hb3.mono (Nat.le_trans (Nat.le_of_lt hXl) HB2.out.size))
    have hX3 : W3.heap[X]? = some (.cells #[.int .i64 k, .string ⟨n.toArray⟩, .slice ad m cap] 24 (0, 0)) := (hb3.block X (Nat.lt_of_lt_of_le hXl HB2.out.size)).trans ((HB2.out.block X hXl).trans HXW.out)
    have c0 : W3.cell? ⟨X, 0, none⟩ = some (.int .i64 k) := heap_cl hX3 rfl
    have c1 : W3.cell? ⟨X, 1, none⟩ = some (.string ⟨n.toArray⟩) := heap_cl hX3 rfl
    have c2 : W3.cell? ⟨X, 2, none⟩ = some (.slice ad m cap) := heap_cl hX3 rfl
    have CO := HOF.out _ W3 w2.heap.size (w2.heap.size + 1) w2.heap.size (w2.heap.size + 2) (.slice none 0 0) [] (HTY.out W3 w2.heap.size HB3.out (Nat.le_trans (Nat.le_of_lt hXl) HB2.out.size)) HKW.out (by have := HFL.out; simp; omega)
    have HXl : Hid (X ≤ W3.heap.size) := Nat.le_of_lt (lt_heap hX3)
    clear hX3 hb3 hXl HOF HFL
    have hmm := @run_makeMap Tryz.prog
    go_upto_region 4 with fail
    rw [← hW3]
    clear hW3 hmm
    go_upto_region 5 with (first | (go_at_call 44; (with_reducible refine Calls.mono CO ?_); rintro e' w4 ⟨idx, ok, v4, R, rfl, q1, q2, q3, q4, q5⟩))
    clear c0 c1 c2 CO
    rw [List.nil_append] at q1 q4
    have HQ1 : Hid (KW w2.heap.size (w2.heap.size + 1) w2.heap.size (w2.heap.size + 2) v4 R w4) := q1
    have HB4 : Hid (Below X w w4) := HB3.out.trans ((q3.below HKW.out).mono (Nat.le_trans (Nat.le_of_lt (lt_heap HXW.out)) HB2.out.size))
    have HQ4 : Hid (ok = true → valD R idx = ordD (d + 1) t ∧ (ordD (d + 1) t).isSome = true) := q4
    have HQ5 : Hid (ok = false → ordD (d + 1) t = none) := q5
    clear q1 q2 q3 q4 q5
    cases ok with
    | false =>
      have HE : Hid (OrdPost w (orderD (d + 1) t) (.returned (.tuple #[.pointer none, .int .i64 140])) w4) := ⟨by rw [← HXE.out]; exact HB4.out, .inl ⟨by rw [HEQ.out, HQ5.out rfl], rfl⟩⟩
      go_wp2
      refine bodyPost_ret (v := .tuple #[.pointer none, .int .i64 140]) (by simp [results, Tryz.results32, go_sem]) rfl ?_
      exact HE.out
    | true =>
      obtain ⟨hv1, hv2⟩ := HQ4.out rfl
      obtain ⟨D, hD⟩ := Option.isSome_iff_exists.1 hv2
      rw [hD] at hv1
      obtain ⟨g, cp, p, rfl, hcp, hil, _, _, hcell, hor⟩ := HQ1.out.get hv1
      have HE : Hid (OrdPost w (orderD (d + 1) t) (.returned (.tuple #[.pointer (some ⟨p, 0, none⟩), .int .i64 0])) w4) := ⟨by rw [← HXE.out]; exact HB4.out, .inr ⟨D, p, by rw [HEQ.out, hD], rfl, hor.on (Keeps.refl _ _) (fun y hy => by
        rcases hy with hy | hy
        · exact hy.elim
        · exact hy.2.1), HQ1.out.ok.lat hv1⟩⟩
      have j1 : (0 : Int) ≤ (idx : Int) := by omega
      have j2 : (idx : Int) < (R.length : Int) := by omega
      have d1 : w4.cell? ⟨w2.heap.size + 1, 1, none⟩ = some (.slice (some ⟨g, 0, none⟩) R.length cp) := heap_cl HQ1.out.blk rfl
      clear hv1 hv2 hD hor HQ1 HQ4 HQ5
      generalize R.length = rl at *
      go_wp2
      refine bodyPost_ret (v := .tuple #[.pointer (some ⟨p, 0, none⟩), .int .i64 0]) (by simp [results, Tryz.results32, go_sem]) rfl ?_
      exact HE.out
  · replace CG : Calls Tryz.prog 43 #[.agg #[.int .i64 k, .string ⟨n.toArray⟩, .slice ad m cap]] W fun r w' => r = .returned (.bool false) ∧ Hid (Below W.heap.size W w') := CG.mono fun r w' ⟨bv, h1, h2, h3⟩ => ⟨by
        rw [h1]
        cases bv with
        | false => rfl
        | true => exact absurd (h3.out.1 rfl) hg, h2⟩
    have HE : Hid (∀ w2 : World, Below W.heap.size W w2 → OrdPost w (orderD (d + 1) t) (.returned (.tuple #[.pointer none, .int .i64 140])) w2) := fun w2 hb => ⟨by rw [← HXE.out]; exact HBW.out.trans (hb.mono (Nat.le_of_lt (lt_heap HXW.out))), .inl ⟨HNO.out hg, rfl⟩⟩
    clear hg HORD HNO
    go_wp2_with (first | (go_at_call 43; (with_reducible refine Calls.mono CG ?_); rintro e' w2 ⟨rfl, HB2⟩))
    refine bodyPost_ret (v := .tuple #[.pointer none, .int .i64 140]) (by simp [results, Tryz.results32, go_sem]) rfl ?_
    exact HE.out w2 HB2.out
/-- Size, as the document has it. -/
def sizeD (d : Nat) (t : Tn d) : Nat × Int := match orderD d t with
  | some D => (D.1.length, 0)
  | none => (0, 140)
set_option maxHeartbeats 16000000 in
set_option maxRecDepth 10000 in
theorem size_all (d : Nat) (x : Value) (t : Tn (d + 1)) (w : World) (hx : TyAt w w.heap.size (d + 1) x t) (hN : (flat (d + 1) t).length ≤ 4194304) :
    Calls Tryz.prog 12 #[x] w fun r w' => r = .returned (.tuple #[.int .i64 ((sizeD (d + 1) t).1 : Int), .int .i64 (sizeD (d + 1) t).2]) ∧ Hid (Below w.heap.size w w') := by
  have HX : Hid (TyAt w w.heap.size (d + 1) x t) := hx
  obtain ⟨u, rfl, hn1, hn2, hrow⟩ := hx
  obtain ⟨ad, cap, rfl⟩ := hrow.len
  generalize hk : t.1.1 = k at *
  generalize hn : t.1.2 = n at *
  generalize hm : t.2.length = m at *
  obtain ⟨X, hX⟩ : ∃ X, X = w.heap.size := ⟨_, rfl⟩
  obtain ⟨W, hW⟩ : ∃ W, W = w.alloc (.cells #[.int .i64 k, .string ⟨n.toArray⟩, .slice ad m cap] 24) := ⟨_, rfl⟩
  have hBW : Below w.heap.size w W := by rw [hW]; exact (Below.refl _ _).alloc (Nat.le_refl _) _
  have hXW : W.heap[X]? = some (.cells #[.int .i64 k, .string ⟨n.toArray⟩, .slice ad m cap] 24 (0, 0)) := by rw [hW, hX]; exact new_blk _ _
  have CO := orderOf_any d (.agg #[.int .i64 k, .string ⟨n.toArray⟩, .slice ad m cap]) t W (TyAt.below hBW hBW.size _ _ _ HX.out) hN
  have c0 : W.cell? ⟨X, 0, none⟩ = some (.int .i64 k) := heap_cl hXW rfl
  have c1 : W.cell? ⟨X, 1, none⟩ = some (.string ⟨n.toArray⟩) := heap_cl hXW rfl
  have c2 : W.cell? ⟨X, 2, none⟩ = some (.slice ad m cap) := heap_cl hXW rfl
  have HXE : Hid (X = w.heap.size) := hX
  have HBW : Hid (Below w.heap.size w W) := hBW
  have HSZ : Hid (sizeD (d + 1) t = match orderD (d + 1) t with
    | some D => (D.1.length, 0)
    | none => (0, 140)) := rfl
  clear hn1 hn2 hrow hX hBW hXW hk hn hm hN HX
  cases hod : orderD (d + 1) t with
  | none =>
    rw [hod] at CO HSZ
    replace CO : Calls Tryz.prog 32 #[.agg #[.int .i64 k, .string ⟨n.toArray⟩, .slice ad m cap]] W fun r w' => r = .returned (.tuple #[.pointer none, .int .i64 140]) ∧ Hid (Below W.heap.size W w') := CO.mono fun r w' h => by
      obtain ⟨h1, h2⟩ := h.out
      rcases h2 with ⟨_, h2⟩ | ⟨D, p, h2, _⟩
      · exact ⟨h2, h1⟩
      · cases h2
    have HS1 : Hid (sizeD (d + 1) t = (0, 140)) := HSZ
    clear hod HSZ
    go_enter Tryz.func12, Tryz.ntmps12
    go_upto_region 1 with fail
    rw [← hW, ← HXE.out]
    clear hW
    go_wp2_with (first | (go_at_call 32; (with_reducible refine Calls.mono CO ?_); rintro e' w2 ⟨rfl, HB2⟩))
    refine bodyPost_ret (v := .tuple #[.int .i64 0, .int .i64 140]) (by simp [results, Tryz.results12, go_sem]) rfl ?_
    exact ⟨by rw [HS1.out]; rfl, HBW.out.trans (HB2.out.mono HBW.out.size)⟩
  | some D =>
    rw [hod] at CO HSZ
    replace CO : Calls Tryz.prog 32 #[.agg #[.int .i64 k, .string ⟨n.toArray⟩, .slice ad m cap]] W fun r w' => ∃ p, r = .returned (.tuple #[.pointer (some ⟨p, 0, none⟩), .int .i64 0]) ∧ Hid (Below W.heap.size W w') ∧ Hid (AbAt w' (fun y => y < w'.heap.size) p D.1) := CO.mono fun r w' h => by
      obtain ⟨h1, h2⟩ := h.out
      rcases h2 with ⟨h2, _⟩ | ⟨D', p, h2, h3, h4, _⟩
      · cases h2
      · rw [← Option.some.inj h2] at h4
        exact ⟨p, h3, h1, h4.1⟩
    have HS1 : Hid (sizeD (d + 1) t = (D.1.length, 0)) := HSZ
    clear hod HSZ
    go_enter Tryz.func12, Tryz.ntmps12
    go_upto_region 1 with fail
    rw [← hW, ← HXE.out]
    clear hW
    go_upto_region 4 with (first | (go_at_call 32; (with_reducible refine Calls.mono CO ?_); rintro e' w2 ⟨p, rfl, HB2, HA2⟩))
    have CS := size_any HA2.out
    clear c0 c1 c2 CO
    go_wp2_with (first | (go_at_call 33; (with_reducible refine Calls.mono CS ?_); rintro e' w3 ⟨rfl, hw3⟩; subst hw3))
    refine bodyPost_ret (v := .tuple #[.int .i64 (D.1.length : Int), .int .i64 0]) (by simp [results, Tryz.results12, go_sem]) rfl ?_
    exact ⟨by rw [HS1.out], HBW.out.trans (HB2.out.mono HBW.out.size)⟩
end Go.Proofs.YtgdflaapgfpdeaaGreatDoor

namespace Go.Proofs.YtgdflaapgfpdeaaGreatDoor
open Go.RowKit

def intT : Tn 1 := ((1, []), [])
def lstT {d : Nat} (t : Tn d) : Tn (d + 1) := ((4, [76, 105, 115, 116]), [t])
def funT {d : Nat} (a b : Tn d) : Tn (d + 1) := ((3, []), [a, b])
/-- A type, as a value of three parts. -/
def Tv (w : World) (d : Nat) (x : Value) (t : Tn d) : Prop := ∃ k n ad len cap, x = .agg #[.int .i64 k, .string n, .slice ad len cap] ∧ TyAt w w.heap.size d x t
theorem Tv.on {w w' : World} {d : Nat} {x : Value} {t : Tn d} (h : Tv w d x t) (hb : Below w.heap.size w w') : Tv w' d x t := by
  obtain ⟨k, n, ad, len, cap, h1, h2⟩ := h
  exact ⟨k, n, ad, len, cap, h1, TyAt.below hb hb.size _ _ _ h2⟩
theorem Tv.up {w : World} {d : Nat} {x : Value} {t : Tn d} (h : Tv w d x t) : Tv w (d + 1) x (up d t) := by
  obtain ⟨k, n, ad, len, cap, h1, h2⟩ := h
  exact ⟨k, n, ad, len, cap, h1, TyAt.up _ _ _ h2⟩
set_option maxHeartbeats 4000000 in
set_option maxRecDepth 10000 in
theorem int_any {w : World} : Calls Tryz.prog 20 #[] w fun r w' => ∃ x, r = .returned x ∧ Hid (Below w.heap.size w w') ∧ Hid (Tv w' 1 x intT) := by
  obtain ⟨W, hW⟩ : ∃ W, W = w.alloc (.cells #[.int .i64 1, .string ⟨#[]⟩, .slice none 0 0] 24) := ⟨_, rfl⟩
  have HB : Hid (Below w.heap.size w W) := by rw [hW]; exact (Below.refl _ _).alloc (Nat.le_refl _) _
  have hX : W.heap[w.heap.size]? = some (.cells #[.int .i64 1, .string ⟨#[]⟩, .slice none 0 0] 24 (0, 0)) := by rw [hW]; exact new_blk _ _
  have HT : Hid (Tv W 1 (.agg #[.int .i64 1, .string ⟨#[]⟩, .slice none 0 0]) intT) := ⟨1, ⟨#[]⟩, none, 0, 0, rfl, .slice none 0 0, rfl, by decide, by decide, .inl ⟨rfl, none, 0, rfl⟩⟩
  go_enter Tryz.func20, Tryz.ntmps20
  go_wp2
  rw [← hW]
  have s0 : W.cell? ⟨w.heap.size, 0, none⟩ = some (.int .i64 1) := heap_cl hX rfl
  have s1 : W.cell? ⟨w.heap.size, 1, none⟩ = some (.string ⟨#[]⟩) := heap_cl hX rfl
  have s2 : W.cell? ⟨w.heap.size, 2, none⟩ = some (.slice none 0 0) := heap_cl hX rfl
  clear hW hX
  refine bodyPost_ret (v := .agg #[.int .i64 1, .string ⟨#[]⟩, .slice none 0 0]) (by simp [results, Tryz.results20, go_sem, s0, s1, s2]) rfl ?_
  exact ⟨_, rfl, HB.out, HT.out⟩
theorem al1 (w : World) (a b : Obj) : ((w.alloc a).alloc b).heap[w.heap.size + 1]? = some b := by
  have := new_blk (w.alloc a) b
  rwa [World.size_alloc] at this
theorem al2 (w : World) (a b c : Obj) : (((w.alloc a).alloc b).alloc c).heap[w.heap.size + 1 + 1]? = some c := by
  have := new_blk ((w.alloc a).alloc b) c
  rwa [World.size_alloc, World.size_alloc] at this
theorem al3 (w : World) (a b c e : Obj) : ((((w.alloc a).alloc b).alloc c).alloc e).heap[w.heap.size + 1 + 1 + 1]? = some e := by
  have := new_blk (((w.alloc a).alloc b).alloc c) e
  rwa [World.size_alloc, World.size_alloc, World.size_alloc] at this
/-- A row of types in a block. -/
theorem row_of {w : World} {d g : Nat} {cs : List Value} {ts : List (Tn d)} (hg : w.heap[g]? = some (.cells cs.toArray 24 (0, 0))) (h : ∀ j (hj : j < ts.length), ∃ k n u, cs[j * 3]? = some (.int .i64 k) ∧ cs[j * 3 + 1]? = some (.string n) ∧ cs[j * 3 + 2]? = some u ∧ TyAt w w.heap.size d (.agg #[.int .i64 k, .string n, u]) ts[j]) (h0 : ts ≠ []) : RowP w w.heap.size (TyAt w w.heap.size d) (.slice (some ⟨g, 0, none⟩) ts.length ts.length) ts := by
  refine .inr ⟨g, 0, ts.length, rfl, h0, Nat.le_refl _, lt_heap hg, fun j hj => ?_⟩
  obtain ⟨k, n, u, a0, a1, a2, a3⟩ := h j hj
  refine ⟨k, n, u, ?_, ?_, ?_, a3⟩
  · rw [Nat.zero_add]; exact heap_cl hg (by simpa using a0)
  · rw [Nat.zero_add]; exact heap_cl hg (by simpa using a1)
  · rw [Nat.zero_add]; exact heap_cl hg (by simpa using a2)
set_option maxHeartbeats 4000000 in
set_option maxRecDepth 10000 in
theorem fun_mk {w : World} {d : Nat} {x y : Value} {a b : Tn d} (hx : Tv w d x a) (hy : Tv w d y b) : Calls Tryz.prog 19 #[x, y] w fun r w' => ∃ x', r = .returned x' ∧ Hid (Below w.heap.size w w') ∧ Hid (Tv w' (d + 1) x' (funT a b)) := by
  have HX : Hid (Tv w d x a) := hx
  have HY : Hid (Tv w d y b) := hy
  obtain ⟨k, n, ad, len, cap, rfl, _⟩ := hx
  obtain ⟨k2, n2, ad2, len2, cap2, rfl, _⟩ := hy
  go_enter Tryz.func19, Tryz.ntmps19
  go_wp2
  obtain ⟨W, hW⟩ : ∃ W, W = (((w.alloc (.cells #[.int .i64 k, .string n, .slice ad len cap] 24)).alloc (.cells #[.int .i64 k2, .string n2, .slice ad2 len2 cap2] 24)).alloc (.cells #[.int .i64 3, .string ⟨#[]⟩, .slice (some ⟨w.heap.size + 1 + 1 + 1, 0, none⟩) 2 2] 24)).alloc (.cells #[.int .i64 k, .string n, .slice ad len cap, .int .i64 k2, .string n2, .slice ad2 len2 cap2] 24) := ⟨_, rfl⟩
  have hR : W.heap[w.heap.size + 1 + 1]? = some (.cells #[.int .i64 3, .string ⟨#[]⟩, .slice (some ⟨w.heap.size + 1 + 1 + 1, 0, none⟩) 2 2] 24 (0, 0)) := by
    rw [hW]
    exact (Below.heap_alloc _ _ _ (by rw [World.size_alloc, World.size_alloc, World.size_alloc]; omega)).trans (al2 _ _ _ _)
  have hC : W.heap[w.heap.size + 1 + 1 + 1]? = some (.cells [.int .i64 k, .string n, .slice ad len cap, .int .i64 k2, .string n2, .slice ad2 len2 cap2].toArray 24 (0, 0)) := by
    rw [hW]
    exact al3 _ _ _ _ _
  have hB : Below w.heap.size w W := by
    rw [hW]
    exact ((((Below.refl _ _).alloc (Nat.le_refl _) _).alloc (by simp) _).alloc (by simp; omega) _).alloc (by simp; omega) _
  have hT : Tv W (d + 1) (.agg #[.int .i64 3, .string ⟨#[]⟩, .slice (some ⟨w.heap.size + 1 + 1 + 1, 0, none⟩) 2 2]) (funT a b) := by
    refine ⟨_, _, _, _, _, rfl, _, rfl, show (0 : Nat) < 140737488355328 by decide, show (2 : Nat) < 140737488355328 by decide, row_of (ts := [a, b]) hC (fun j hj => ?_) (by simp)⟩
    obtain ⟨_, _, _, _, _, _, q⟩ := (HX.out.on hB)
    obtain ⟨_, _, _, _, _, _, q2⟩ := (HY.out.on hB)
    match j, hj with
    | 0, _ => exact ⟨k, n, _, rfl, rfl, rfl, q⟩
    | 1, _ => exact ⟨k2, n2, _, rfl, rfl, rfl, q2⟩
  rw [← hW]
  have s0 : W.cell? ⟨w.heap.size + 1 + 1, 0, none⟩ = some (.int .i64 3) := heap_cl hR rfl
  have s1 : W.cell? ⟨w.heap.size + 1 + 1, 1, none⟩ = some (.string ⟨#[]⟩) := heap_cl hR rfl
  have s2 : W.cell? ⟨w.heap.size + 1 + 1, 2, none⟩ = some (.slice (some ⟨w.heap.size + 1 + 1 + 1, 0, none⟩) 2 2) := heap_cl hR rfl
  clear hW hR hC HX HY
  refine bodyPost_ret (v := .agg #[.int .i64 3, .string ⟨#[]⟩, .slice (some ⟨w.heap.size + 1 + 1 + 1, 0, none⟩) 2 2]) (by simp [results, Tryz.results19, go_sem, s0, s1, s2]) rfl ?_
  exact ⟨_, rfl, hB, hT⟩
end Go.Proofs.YtgdflaapgfpdeaaGreatDoor
