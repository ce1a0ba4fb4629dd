/- A drawn region whose last operation writes what others read: these may be taken first all the same. -/
import Derived.Test.YtlpnegnpejpdkaaGreatDoorKa
import Derived.Deep.RegionHeldLaw
import Derived.Deep.RegionHeld3
namespace Go.Proofs.YtlpnegnpejpdkaaGreatDoor
open Go
section
variable {P : Program} {ops : Array Oper} {Q : Exit → Act → World → Prop} {md : Region.Mode} {S : World → Prop} {L : Nat}
/-- Whatever order is picked from here on; S holds behind every operation but L. -/
def wpAnyK (P : Program) (md : Region.Mode) (ops : Array Oper) (Q : Exit → Act → World → Prop) (S : World → Prop) (L : Nat) : Nat → Array Bool → Act → World → Prop
  | 0, listed, a, w => Region.ready md ops listed = [] ∧ Q .normal a w
  | fuel + 1, listed, a, w => (Region.ready md ops listed = [] → Q .normal a w) ∧ ∀ i ∈ Region.ready md ops listed, wpOp P ops Q i (fun a' w' => (i ≠ L → S w') ∧ wpAnyK P md ops Q S L fuel (listed.setIfInBounds i true) a' w') a w
theorem wpAny_of_K : ∀ (fuel : Nat) (listed : Array Bool) (a : Act) (w : World), wpAnyK P md ops Q S L fuel listed a w → wpAny P md ops Q fuel listed a w
  | 0, _, _, _, h => h
  | fuel + 1, _, _, _, h => ⟨h.1, fun i hi => wpOp_mono (fun a' w' h' => wpAny_of_K fuel _ a' w' h'.2) (h.2 i hi)⟩
theorem wpAnyK_first {i : Nat} {oi : Oper} {v : Value} (hi : ops[i]? = some oi) (hsel : ∀ (j : Nat) (o : Oper) cs b, ops[j]? = some o → o.op ≠ .select cs b)
    (hQ : ∀ c a w, Q (.panic c) (a.put oi.dst v) w → Q (.panic c) a w) (hL : ∀ oL, ops[L]? = some oL → ∃ e ∈ oL.after, Region.binds md e = true ∧ e.on = i) :
    ∀ (fuel : Nat) (listed : Array Bool) (a : Act) (w : World),
      (∀ j oj, ops[j]? = some oj → j ≠ i → listed.getD j true = false → (∀ e ∈ oj.after, Region.binds md e = true → e.on ≠ i) → oi.apart ops oj = true) →
      i ∈ Region.ready md ops listed → YieldsIf P ops S oi v a → S w →
      wpAnyK P md ops Q S L fuel (listed.setIfInBounds i true) (a.put oi.dst v) w → wpAnyK P md ops Q S L (fuel + 1) listed a w := by
  intro fuel
  induction fuel with
  | zero =>
    intro listed a w _ hr hy hS H
    refine ⟨fun h => (by rw [h] at hr; cases hr), fun j hj => ?_⟩
    by_cases hji : j = i
    · subst hji; exact hy.wpOp hi hS ⟨fun _ => hS, H⟩
    · have := ready_mono hj hji
      rw [H.1] at this
      cases this
  | succ fuel ih =>
    intro listed a w hfree hr hy hS H
    refine ⟨fun h => (by rw [h] at hr; cases hr), fun j hj => ?_⟩
    by_cases hji : j = i
    · subst hji; exact hy.wpOp hi hS ⟨fun _ => hS, H⟩
    · have h1 := H.2 j (ready_mono hj hji)
      obtain ⟨hjun, oj, hoj, hall⟩ := mem_ready.1 hj
      have hnot : ∀ e ∈ oj.after, Region.binds md e = true → e.on ≠ i := fun e he hb heq => by
        have h1 := hall e he hb
        have h0 := (mem_ready.1 hr).1
        rw [heq] at h1
        rcases Nat.lt_or_ge i listed.size with h' | h'
        · simp [h'] at h0 h1; rw [h0] at h1; cases h1
        · simp [Array.getElem?_eq_none h'] at h1
      have hjL : j ≠ L := fun e => by
        subst e
        obtain ⟨e, he, hb, ho⟩ := hL oj hoj
        exact hnot e he hb ho
      have h2 := wpOp_putIf hoj (hfree j oj hoj hji hjun hnot) (fun cs b => hsel i oi cs b hi) (fun cs b => hsel j oj cs b hoj) hQ hy h1
      have hfree' : ∀ k ok, ops[k]? = some ok → k ≠ i → (listed.setIfInBounds j true).getD k true = false →
          (∀ e ∈ ok.after, Region.binds md e = true → e.on ≠ i) → oi.apart ops ok = true := fun k ok hk hki hun hno => by
        refine hfree k ok hk hki ?_ hno
        by_cases hjk : j = k
        · subst hjk; exact hjun
        · rw [getD_set_ne true hjk] at hun; exact hun
      refine wpOp_mono (fun a' w' h3 => ⟨fun _ => h3.2.1 hjL, ih (listed.setIfInBounds j true) a' w' hfree' (ready_mono hr (Ne.symm hji)) h3.1 (h3.2.1 hjL) ?_⟩) h2
      rw [Array.setIfInBounds_comm _ _ hji]
      exact h3.2.2
def waits (md : Region.Mode) (ops : Array Oper) (L i : Nat) : Bool := match ops[L]? with
  | some o => o.after.any fun e => Region.binds md e && e.on == i
  | none => true
theorem wpAnyK_take {i : Nat} {oi : Oper} {v : Value} {fuel : Nat} {listed : Array Bool} {a : Act} {w : World} (hi : ops[i]? = some oi)
    (hs : Region.noSelect ops = true) (hf : Region.free md ops listed i = true) (hr : (Region.ready md ops listed).contains i = true) (hL : waits md ops L i = true)
    (hQ : ∀ c a w, Q (.panic c) (a.put oi.dst v) w → Q (.panic c) a w) (hy : YieldsIf P ops S oi v a) (hS : S w)
    (h : wpAnyK P md ops Q S L fuel (listed.setIfInBounds i true) (a.put oi.dst v) w) : wpAnyK P md ops Q S L (fuel + 1) listed a w :=
  wpAnyK_first hi (Region.noSelect_spec hs) hQ (fun oL ho => by
    unfold waits at hL
    rw [ho] at hL
    obtain ⟨e, he, hb⟩ := Array.any_eq_true'.1 hL
    simp only [Bool.and_eq_true, beq_iff_eq] at hb
    exact ⟨e, he, hb.1, hb.2⟩) fuel listed a w (Region.free_spec hi hf) (by simpa using hr) hy hS h
/-- The first k of n have come up. -/
def lst (k n : Nat) : Array Bool := (List.replicate k true ++ List.replicate (n - k) false).toArray
theorem wpAnyK_next {i n : Nat} {oi : Oper} {v : Value} {fuel : Nat} {a : Act} {w : World} (d : Option Tmp) (hi : ops[i]? = some oi) (hd : oi.dst = d) (hl : (lst i n).setIfInBounds i true = lst (i + 1) n)
    (hs : Region.noSelect ops = true) (hf : Region.free md ops (lst i n) i = true) (hr : (Region.ready md ops (lst i n)).contains i = true) (hL : waits md ops L i = true)
    (hQ : ∀ c a w, Q (.panic c) (a.put d v) w → Q (.panic c) a w) (hy : YieldsIf P ops S oi v a) (hS : S w)
    (h : wpAnyK P md ops Q S L fuel (lst (i + 1) n) (a.put d v) w) : wpAnyK P md ops Q S L (fuel + 1) (lst i n) a w := by
  subst hd
  exact wpAnyK_take hi hs hf hr hL hQ hy hS (by rw [hl]; exact h)
/-- One alone may come up. -/
theorem wpAnyK_one {i n : Nat} {o : Oper} {fuel : Nat} {a : Act} {w : World} (hr : Region.ready md ops (lst i n) = [i]) (ho : ops[i]? = some o) (hl : (lst i n).setIfInBounds i true = lst (i + 1) n)
    (h : ∀ K' : Act → World → Prop, Shut (∀ a w, (i ≠ L → S w) → wpAnyK P md ops Q S L fuel (lst (i + 1) n) a w → K' a w) → if Region.wanted o (yielded ops a.tmps) = true then Oper.wp P o a w K' Q else K' (a.put o.dst undef) w) : wpAnyK P md ops Q S L (fuel + 1) (lst i n) a w := by
  refine ⟨fun h0 => ?_, fun j hj => ?_⟩
  · rw [hr] at h0
    cases h0
  · rw [hr] at hj
    obtain rfl := List.mem_singleton.1 hj
    exact wpOp_step ho fun K' hK => h K' fun a w hS hW => hK a w ⟨hS, by rw [hl]; exact hW⟩
theorem wpAnyK_done {listed : Array Bool} {a : Act} {w : World} (hr : Region.ready md ops listed = []) (h : Q .normal a w) : ∀ fuel, wpAnyK P md ops Q S L fuel listed a w
  | 0 => ⟨hr, h⟩
  | _ + 1 => ⟨fun _ => h, by rw [hr]; simp⟩
theorem wp_region_K {id n : Nat} {a : Act} {w : World} (hm : P.follows .mixedOrders = true) (hn : ops.size = n) (hl : Array.replicate n false = lst 0 n) (h : wpAnyK P .any ops Q S L n (lst 0 n) a w.drew) : (Code.region id ops true).wp P Q a w := by
  subst hn
  exact wp_region_any hm (wpAny_of_K _ _ _ _ (by rw [hl]; exact h))
end
open Go.RowKit
section
variable {P : Program} {ops : Array Oper} {Q : Exit → Act → World → Prop} {md : Region.Mode} {S : World → Prop} {L : Nat}
/-- Those have come up whose bit is set. -/
def lsm (m n : Nat) : Array Bool := ((List.range n).map fun i => m.testBit i).toArray
theorem wpAnyK_go {i n m m' : Nat} {oi : Oper} {v : Value} {fuel : Nat} {a : Act} {w : World} (d : Option Tmp) (hi : ops[i]? = some oi) (hd : oi.dst = d) (hl : (lsm m n).setIfInBounds i true = lsm m' n)
    (hs : Region.noSelect ops = true) (hf : Region.free md ops (lsm m n) i = true) (hr : (Region.ready md ops (lsm m n)).contains i = true) (hL : waits md ops L i = true)
    (hQ : ∀ c a w, Q (.panic c) (a.put d v) w → Q (.panic c) a w) (hy : YieldsIf P ops S oi v a) (hS : S w)
    (h : wpAnyK P md ops Q S L fuel (lsm m' n) (a.put d v) w) : wpAnyK P md ops Q S L (fuel + 1) (lsm m n) a w := by
  subst hd
  exact wpAnyK_take hi hs hf hr hL hQ hy hS (by rw [hl]; exact h)
theorem wpAnyK_only {i n m m' : Nat} {o : Oper} {fuel : Nat} {a : Act} {w : World} (hr : Region.ready md ops (lsm m n) = [i]) (ho : ops[i]? = some o) (hl : (lsm m n).setIfInBounds i true = lsm m' n)
    (h : ∀ K' : Act → World → Prop, Shut (∀ a w, (i ≠ L → S w) → wpAnyK P md ops Q S L fuel (lsm m' n) a w → K' a w) → if Region.wanted o (yielded ops a.tmps) = true then Oper.wp P o a w K' Q else K' (a.put o.dst undef) w) : wpAnyK P md ops Q S L (fuel + 1) (lsm m n) a w := by
  refine ⟨fun h0 => ?_, fun j hj => ?_⟩
  · rw [hr] at h0
    cases h0
  · rw [hr] at hj
    obtain rfl := List.mem_singleton.1 hj
    exact wpOp_step ho fun K' hK => h K' fun a w hS hW => hK a w ⟨hS, by rw [hl]; exact hW⟩
theorem wpAnyK_two {i j n m mi mj : Nat} {oi oj : Oper} {fuel : Nat} {a : Act} {w : World} (hr : Region.ready md ops (lsm m n) = [i, j]) (hoi : ops[i]? = some oi) (hoj : ops[j]? = some oj) (hli : (lsm m n).setIfInBounds i true = lsm mi n) (hlj : (lsm m n).setIfInBounds j true = lsm mj n)
    (h1 : ∀ K' : Act → World → Prop, Shut (∀ a w, (i ≠ L → S w) → wpAnyK P md ops Q S L fuel (lsm mi n) a w → K' a w) → if Region.wanted oi (yielded ops a.tmps) = true then Oper.wp P oi a w K' Q else K' (a.put oi.dst undef) w)
    (h2 : ∀ K' : Act → World → Prop, Shut (∀ a w, (j ≠ L → S w) → wpAnyK P md ops Q S L fuel (lsm mj n) a w → K' a w) → if Region.wanted oj (yielded ops a.tmps) = true then Oper.wp P oj a w K' Q else K' (a.put oj.dst undef) w) : wpAnyK P md ops Q S L (fuel + 1) (lsm m n) a w := by
  refine ⟨fun h0 => ?_, fun k hk => ?_⟩
  · rw [hr] at h0
    cases h0
  · rw [hr] at hk
    rcases List.mem_cons.1 hk with rfl | hk
    · exact wpOp_step hoi fun K' hK => h1 K' fun a w hS hW => hK a w ⟨hS, by rw [hli]; exact hW⟩
    · obtain rfl := List.mem_singleton.1 hk
      exact wpOp_step hoj fun K' hK => h2 K' fun a w hS hW => hK a w ⟨hS, by rw [hlj]; exact hW⟩
theorem wp_region_M {id n : Nat} {a : Act} {w : World} (hm : P.follows .mixedOrders = true) (hn : ops.size = n) (hl : Array.replicate n false = lsm 0 n) (h : wpAnyK P .any ops Q S L n (lsm 0 n) a w.drew) : (Code.region id ops true).wp P Q a w := by
  subst hn
  exact wp_region_any hm (wpAny_of_K _ _ _ _ (by rw [hl]; exact h))
end
/-- append(x, y...) of single cells, at a step of a region that draws its order. -/
theorem step_append_one {e b t : Nat} (T : Ty t e 1 b) {ops : Array Oper} {o : Oper} {a : Act} {K : Act → World → Prop} {Q : Exit → Act → World → Prop} {E : Prop} {w : World} (hgd : o.guard = none) (s x : Operand)
    (ho : o.op = .call { callee := .builtin .append, args := #[s, x], argTypes := #[t, t] }) {base n : Nat} {v : Value} {xs ys : List Value} {ad : Option Addr} {c : Nat} (hs : a.eval s = v) (hown : w.ownsRow base e 1 v n xs) (hx : a.eval x = .slice ad ys.length c)
    (hlie : ys = [] ∨ ∃ g q, ad = some ⟨g, q, none⟩ ∧ ∀ j (h : j < ys.length), w.cell? ⟨g, q + j, none⟩ = some ys[j]) (h1 : ∀ u ∈ ys, u.oneCell' = true) (hl : n + ys.length ≤ 1000000) (hbase : base ≤ w.heap.size)
    (h : ∀ v' w', w'.ownsRow base e 1 v' (n + ys.length) (xs ++ ys) → w.grownBy w' v.ownBlock → (v'.ownBlock = v.ownBlock ∨ ∃ g, v'.ownBlock = some g ∧ w.heap.size ≤ g) → K (a.put o.dst v') w') :
    if Region.wanted o (yielded ops a.tmps) = true then Oper.wp Tryz.prog o a w K Q else E := by
  obtain ⟨i, z, hi, hz, hk, hby, hzs⟩ := T.info
  by_cases h0 : ys = []
  · subst h0
    have hr := append_empty' (t := t) (ty := o.type) T.slice hi hown ad c
    have hw : Region.wanted o (yielded ops a.tmps) = true := by simp [Region.wanted, hgd]
    rw [if_pos hw]
    unfold Oper.wp execOp
    simp only [ho, resolve, invoke, builtin, Sem.run_bind, Sem.run_pure, Result.andThen_ok, List.map_toArray, List.map_cons, List.map_nil, hs, hx, List.length_nil, hr]
    exact h v w (by simpa using hown) ⟨rfl, rfl, rfl, Nat.le_refl _, fun _ _ _ => rfl⟩ (.inl rfl)
  · rcases hlie with hlie | ⟨g, q, rfl, hc⟩
    · exact absurd hlie h0
    · have hsm := T.small
      have hbytes : (n + ys.length) * b ≤ 140737488355328 := by
        have := Nat.mul_le_mul hl hsm
        omega
      refine step_append_lies w hgd s x t ho base e i z 1 b T.slice hi hz hk hby hzs (by decide) v n xs hs hown ⟨g, q, none⟩ ys.length c ys hx (by omega) (fun j u hu => ?_) h1 (List.length_pos_iff.2 h0) (by unfold maxLen; omega) hbytes hbase _ rfl ?_
      · have hj : j < ys.length := by
          rcases Nat.lt_or_ge j ys.length with h | h
          · exact h
          · rw [List.getElem?_eq_none h] at hu; cases hu
        rw [List.getElem?_eq_getElem hj] at hu
        have := hc j hj
        rw [Option.some.inj hu] at this
        by_cases ej : j = 0
        · subst ej
          simpa [Addr.add] using this
        · simpa [Addr.add, ej] using this
      · intro g' cap' w' k1 k2 k3 _
        refine h _ w' k1 k2 ?_
        rcases k3 with k3 | k3
        · exact .inl k3.symm
        · exact .inr ⟨g', rfl, Nat.le_of_eq k3.symm⟩
/-- A row with room, just made. -/
theorem made_own {e : Nat} (w : World) (base : Nat) (hb : base ≤ w.heap.size) (c : Array Value) (n : Nat) (hc : c.size = n) (hn : n ≤ 1000000) : (w.alloc (.cells c e)).ownsRow base e 1 (.slice (some ⟨w.heap.size, 0, none⟩) 0 n) 0 [] := by
  refine ⟨rfl, .inr ⟨w.heap.size, n, c, rfl, hb, new_blk w _, Nat.zero_le _, by unfold maxLen; omega, by omega, by simp⟩⟩
theorem make_one {e b t : Nat} (T : Ty t e 1 b) (w : World) (n : Nat) (hn : n ≤ 1000000) : ∃ c, (Instr.makeSlice t (.int .i64 0) (.int .i64 n)).run Tryz.prog w = .ok (.slice (some ⟨w.heap.size, 0, none⟩) 0 n) (w.alloc (.cells c e)) ∧ c.size = n := by
  obtain ⟨i, z, hi, hz, hk, hby, hzs⟩ := T.info
  have hbn : b * n ≤ 1000 * 1000000 := Nat.mul_le_mul T.small hn
  have hbi : (b : Int) * (n : Int) ≤ 281474976710656 := by
    rw [← Int.natCast_mul]
    omega
  have := run_makeSlice (P := Tryz.prog) w t e i z T.slice hi hz .i64 .i64 0 n (by omega) (by omega) (by rw [hk]; simp; omega) (by rw [hby]; exact hbi) (by omega)
  rw [hk] at this
  refine ⟨_, this, ?_⟩
  simp [madeCells, hzs]
/-- append(x, y), x being made, at a step of a region that draws its order. -/
theorem step_append_N1 {α : Type} {E : Elt α} {ops : Array Oper} {o : Oper} {a : Act} {K : Act → World → Prop} {Q : Exit → Act → World → Prop} {P : Prop} {w1 w2 : World} {S : Nat → Prop} {B t e b : Nat} (T : Ty t e E.k b) (hgd : o.guard = none) (s x : Operand)
    (ho : o.op = .call { callee := .builtin .append, args := #[s, x], argTypes := #[t, t] }) {v : Value} {l : List α} {cs : List Value} {p : α} {cap : Nat} (hs : a.eval s = v) (hown : OwnN E e B S w1 v l) (hS : ∀ y, S y → y < B) (hB : B ≤ w1.heap.size) (hb : Below w1.heap.size w1 w2) (H : Nat) (hx : a.eval x = .slice (some ⟨H, 0, none⟩) 1 cap) (hH : w2.heap.size = H) (hC : E.C w2 (Nwr S B w2 v) cs p) (hl : l.length + 1 ≤ 10000000)
    (h : ∀ g cap' w', OwnN E e B S w' (.slice (some ⟨g, 0, none⟩) (l.length + 1) cap') (l ++ [p]) → Hid (Below B w1 w' ∧ ∀ y, y < w2.heap.size → v.ownBlock ≠ some y → w'.heap[y]? = w2.heap[y]?) → K (a.put o.dst (.slice (some ⟨g, 0, none⟩) (l.length + 1) cap')) w') :
    if Region.wanted o (yielded ops a.tmps) = true then Oper.wp Tryz.prog o a (w2.alloc (.cells cs.toArray e)) K Q else P := by
  subst hH
  obtain ⟨i, z, hi, hz, hk, hby, hzs⟩ := T.info
  have hB2 : B ≤ w2.heap.size := Nat.le_trans hB hb.size
  have hb2 : Below w2.heap.size w2 (w2.alloc (.cells cs.toArray e)) := (Below.refl _ _).alloc (Nat.le_refl _) _
  have hbb : Below w1.heap.size w1 (w2.alloc (.cells cs.toArray e)) := hb.trans (hb2.mono hb.size)
  have h2 := hown.on hS hB hbb
  obtain ⟨css, hcs, hro⟩ := id h2.row
  have hC2 := E.on (Keeps.of hb2 (Nwr.lt hS hB2)) (S' := Nwr S B (w2.alloc (.cells cs.toArray e)) v) (fun y hy => hy.imp id fun h => ⟨h.1, Nat.lt_of_lt_of_le h.2.1 hb2.size, h.2.2⟩) hC
  have hsm := T.small
  have hlen : cs.length = 1 * E.k := by rw [E.len hC, Nat.one_mul]
  have hbytes : (l.length + 1) * b ≤ 140737488355328 := by
    have := Nat.mul_le_mul hl hsm
    omega
  have hnb := new_blk w2 (.cells cs.toArray e)
  refine step_append_lies _ hgd s x t ho B e i z E.k b T.slice hi hz hk hby hzs T.pos v l.length css.flatten hs hro ⟨w2.heap.size, 0, none⟩ 1 cap cs hx hlen (World.news_of_block (cs := cs.toArray) hnb) (E.one hC) (by omega) (by unfold maxLen; omega) hbytes (Nat.le_trans hB2 hb2.size) _ rfl ?_
  intro g' cap' w' h1 h3 h4 h5
  have hSl := Nwr.lt (v := v) hS (Nat.le_trans hB2 hb2.size)
  have hk' : Keeps (Nwr S B (w2.alloc (.cells cs.toArray e)) v) (w2.alloc (.cells cs.toArray e)) w' := fun y hy => h3.block y (hSl y hy) fun e => h2.out y hy e.symm
  have hgB : B ≤ g' := (h1.lt g' rfl).1
  have hbw : Below B w1 w' := ((hb.mono hB).trans (hb2.mono hB2)).grown h3 (Nat.le_trans hB2 hb2.size) fun k hk => (h2.lt k hk).1
  refine h g' cap' w' ?_ ⟨hbw, fun y hy hne => (h3.block y (Nat.lt_of_lt_of_le hy hb2.size) fun e => hne e.symm).trans (hb2.block y hy)⟩
  · refine ⟨⟨css ++ [cs], ?_, ?_⟩, fun y hy e => ?_⟩
    · have hup : ∀ y, Nwr S B (w2.alloc (.cells cs.toArray e)) v y → Nwr S B w' (.slice (some ⟨g', 0, none⟩) (l.length + 1) cap') y := fun y hy => hy.imp id fun h => ⟨h.1, Nat.lt_of_lt_of_le h.2.1 h3.size, fun e => by
        injection e with e
        have e : g' = y := e
        rcases h4 with h4 | h4
        · exact h.2.2 (by rw [h4, e])
        · have := h.2.1
          omega⟩
      exact (hcs.on hk' hup).append (Css.one (E.on hk' hup hC2))
    · rw [List.flatten_append, List.length_append]
      simpa using h1
    · rcases hy with hy | hy
      · injection e with e
        have e : g' = y := e
        have := hS y hy
        omega
      · exact hy.2.2 e
end Go.Proofs.YtlpnegnpejpdkaaGreatDoor
