/- join: a path that leads on; cut: one thing out of a list, others in its place. Rows of numbers that rise: where one stands; without: the rows but for some. cut, of columns. -/
import Derived.Test.YtpdmkhnonbbhnaaMfx
namespace Go.Proofs.Ytpdmkhnonbbhnaa
open Go.RowKit Go.Maps

set_option maxHeartbeats 4000000 in
set_option maxRecDepth 10000 in
theorem join_any (l m : List Value) (ad bd : Option Addr) (cap bcap : Nat) (S : Nat → Prop) (w : World) (hS : ∀ b, S b → b < w.heap.size) (h1 : Vals w S (.slice ad l.length cap) l) (h2 : Vals w S (.slice bd m.length bcap) m) (o1 : ∀ u ∈ l, u.oneCell' = true) (o2 : ∀ u ∈ m, u.oneCell' = true) (hb : l.length + m.length ≤ 100000) :
    Calls Try.prog 49 #[.slice ad l.length cap, .slice bd m.length bcap] w fun r w' => ∃ v, r = .returned v ∧ w'.ownsRow w.heap.size 3 1 v (l.length + m.length) (l ++ m) ∧ Below w.heap.size w w' := by
  have hW : ∃ W, W = w.alloc (Obj.cells #[.slice ad l.length cap, .slice bd m.length bcap] 28) ∧ Below w.heap.size w W ∧ W.heap.size = w.heap.size + 1 ∧ W.cell? ⟨w.heap.size, 0, none⟩ = some (.slice ad l.length cap) ∧ W.cell? ⟨w.heap.size, 1, none⟩ = some (.slice bd m.length bcap) := ⟨_, rfl, (Below.refl _ _).alloc (Nat.le_refl _) _, by simp, heap_cell' (new_block' w _) rfl, heap_cell' (new_block' w _) rfl⟩
  obtain ⟨W, hW, hbW, hsW, d0, d1⟩ := hW
  have hk : Keeps S w W := Keeps.of hbW hS
  have CC := concatI [(.slice ad l.length cap, l), (.slice bd m.length bcap, m)] w.heap.size S W (fun b hb => by have := hS b hb; omega) (by omega) (fun i h => by
    match i, h with
    | 0, _ => exact d0
    | 1, _ => exact d1) (fun x hx => by
    simp only [List.mem_cons, List.not_mem_nil, or_false] at hx
    rcases hx with rfl | rfl
    · exact ⟨h1.on hk, o1⟩
    · exact ⟨h2.on hk, o2⟩) (by simp) (by simp [total]; omega)
  have ht : total [(Value.slice ad l.length cap, l), (.slice bd m.length bcap, m)] = l.length + m.length := by simp [total]
  have hf : [(Value.slice ad l.length cap, l), (.slice bd m.length bcap, m)].flatMap (·.2) = l ++ m := by simp
  rw [ht, hf] at CC
  have HB : Hid (Below w.heap.size w W ∧ W.heap.size = w.heap.size + 1) := ⟨hbW, hsW⟩
  clear ht hf hk d0 d1 hbW hsW h1 h2 hS
  go_enter Try.func49, Try.ntmps49
  go_wp2_with (go_at_call 67; rw [← hW]; (with_reducible refine Calls.mono CC ?_); rintro e' w1 ⟨v, rfl, hown, hb1⟩)
  go_ret
  refine ⟨v, rfl, ?_, HB.out.1.trans (hb1.mono HB.out.1.size)⟩
  exact ⟨hown.1, hown.2.imp_right fun ⟨g, cap, cur, e1, e2, e3⟩ => ⟨g, cap, cur, e1, by have := HB.out.2; omega, e3⟩⟩
theorem vals_take {w : World} {S : Nat → Prop} {ad : Option Addr} {l : List Value} {n cap : Nat} (h : Vals w S (.slice ad l.length cap) l) (hn : n ≤ l.length) : Vals w S (.slice ad n cap) (l.take n) := by
  have hl : (l.take n).length = n := by simp; omega
  by_cases h0 : n = 0
  · subst h0
    exact .inl ⟨by simp, ad, cap, rfl⟩
  · rcases h with ⟨rfl, _⟩ | ⟨g, o, c, e, h1, h2, h3⟩
    · simp at hn; omega
    · obtain ⟨rfl, rfl⟩ : ad = some ⟨g, o, none⟩ ∧ cap = c := by simpa using e
      refine .inr ⟨g, o, cap, by rw [hl], by intro e; rw [e] at hl; simp at hl; omega, by omega, fun j hj => ?_⟩
      rw [List.getElem_take]
      exact h3 j (by omega)
theorem vals_drop {w : World} {S : Nat → Prop} {g o n cap m : Nat} {l : List Value} (h : Vals w S (.slice (some ⟨g, o, none⟩) l.length cap) l) (hn : n ≤ l.length) (hm : m = l.length - n) : Vals w S (.slice (some ⟨g, o + n, none⟩) m (cap - n)) (l.drop n) := by
  have hl : (l.drop n).length = m := by simp; omega
  by_cases h0 : m = 0
  · subst h0
    exact .inl ⟨List.length_eq_zero_iff.1 hl, _, _, rfl⟩
  · rcases h with ⟨rfl, _⟩ | ⟨g', o', c, e, h1, h2, h3⟩
    · simp at hn hm; omega
    · obtain ⟨⟨rfl, rfl⟩, rfl⟩ : (g = g' ∧ o = o') ∧ cap = c := by simpa using e
      refine .inr ⟨g, o + n, cap - n, by rw [hl], by intro e; rw [e] at hl; simp at hl; omega, by omega, fun j hj => ?_⟩
      rw [List.getElem_drop, show o + n + j * 1 = o + (n + j) * 1 by omega]
      exact h3 (n + j) (by omega)
set_option maxHeartbeats 4000000 in
set_option maxRecDepth 10000 in
theorem cutI (l m : List Value) (at' : Nat) (g o : Nat) (bd : Option Addr) (cap bcap : Nat) (S : Nat → Prop) (w : World) (hS : ∀ b, S b → b < w.heap.size) (h1 : Vals w S (.slice (some ⟨g, o, none⟩) l.length cap) l) (hcap : l.length ≤ cap) (h2 : Vals w S (.slice bd m.length bcap) m) (o1 : ∀ u ∈ l, u.oneCell' = true) (o2 : ∀ u ∈ m, u.oneCell' = true) (hb : l.length + m.length ≤ 100000) (ha : at' < l.length) :
    Calls Try.prog 69 #[.slice (some ⟨g, o, none⟩) l.length cap, .int .i64 at', .slice bd m.length bcap] w fun r w' => ∃ v, r = .returned v ∧ w'.ownsRow w.heap.size 3 1 v (at' + m.length + (l.length - (at' + 1))) (l.take at' ++ m ++ l.drop (at' + 1)) ∧ Below w.heap.size w w' := by
  obtain ⟨n3, hn3⟩ : ∃ n3, l.length - (at' + 1) = n3 := ⟨_, rfl⟩
  rw [hn3]
  have v1 := vals_take (n := at') h1 (by omega)
  obtain ⟨A3, hA3⟩ : ∃ A3, A3 = (if cap = at' + 1 then some (⟨g, o, none⟩ : Addr) else some ⟨g, o + (at' + 1), none⟩) := ⟨_, rfl⟩
  have v3 : Vals w S (.slice A3 n3 (cap - (at' + 1))) (l.drop (at' + 1)) := by
    by_cases hc : cap = at' + 1
    · obtain rfl : n3 = 0 := by omega
      exact .inl ⟨List.length_eq_zero_iff.1 (by simp; omega), _, _, rfl⟩
    · rw [hA3, if_neg hc]
      exact vals_drop (n := at' + 1) (m := n3) h1 (by omega) hn3.symm
  have hW : ∃ W, W = w.alloc (Obj.cells #[.slice (some ⟨g, o, none⟩) at' cap, .slice bd m.length bcap, .slice A3 n3 (cap - (at' + 1))] 28) ∧ Below w.heap.size w W ∧ W.heap.size = w.heap.size + 1 ∧ W.cell? ⟨w.heap.size, 0, none⟩ = some (.slice (some ⟨g, o, none⟩) at' cap) ∧ W.cell? ⟨w.heap.size, 1, none⟩ = some (.slice bd m.length bcap) ∧ W.cell? ⟨w.heap.size, 2, none⟩ = some (.slice A3 n3 (cap - (at' + 1))) := ⟨_, rfl, (Below.refl _ _).alloc (Nat.le_refl _) _, by simp, heap_cell' (new_block' w _) rfl, heap_cell' (new_block' w _) rfl, heap_cell' (new_block' w _) rfl⟩
  obtain ⟨W, hW, hbW, hsW, d0, d1, d2⟩ := hW
  have hk : Keeps S w W.drew := fun b hb => hbW.block b (hS b hb)
  have CC := concatI [(.slice (some ⟨g, o, none⟩) at' cap, l.take at'), (.slice bd m.length bcap, m), (.slice A3 n3 (cap - (at' + 1)), l.drop (at' + 1))] w.heap.size S W.drew (fun b hb => by have := hS b hb; show b < W.heap.size; omega) (by show w.heap.size < W.heap.size; omega) (fun i h => by
    match i, h with
    | 0, _ => exact d0
    | 1, _ => exact d1
    | 2, _ => exact d2) (fun x hx => by
    simp only [List.mem_cons, List.not_mem_nil, or_false] at hx
    rcases hx with rfl | rfl | rfl
    · exact ⟨v1.on hk, fun u hu => o1 u (List.mem_of_mem_take hu)⟩
    · exact ⟨h2.on hk, o2⟩
    · exact ⟨v3.on hk, fun u hu => o1 u (List.mem_of_mem_drop hu)⟩) (by simp) (by simp [total]; omega)
  have ht : total [(Value.slice (some ⟨g, o, none⟩) at' cap, l.take at'), (.slice bd m.length bcap, m), (.slice A3 n3 (cap - (at' + 1)), l.drop (at' + 1))] = at' + m.length + n3 := by simp [total]; omega
  have hf : [(Value.slice (some ⟨g, o, none⟩) at' cap, l.take at'), (.slice bd m.length bcap, m), (.slice A3 n3 (cap - (at' + 1)), l.drop (at' + 1))].flatMap (·.2) = l.take at' ++ m ++ l.drop (at' + 1) := by simp
  rw [ht, hf] at CC
  have HB : Hid (Below w.heap.size w W ∧ W.heap.size = w.heap.size + 1) := ⟨hbW, hsW⟩
  have b1 : (0 : Int) ≤ (at' : Int) := by omega
  have b2 : (at' : Int) ≤ (cap : Int) := by omega
  have b3 : IntKind.i64.wrap ((at' : Int) + 1) = (at' : Int) + 1 := by rw [IntKind.wrap_i64]; omega
  have b4 : (at' : Int) + 1 ≤ (l.length : Int) := by omega
  have b5 : (0 : Int) ≤ (at' : Int) + 1 := by omega
  clear ht hf hk d0 d1 d2 hbW hsW h1 h2 hS v1 v3
  by_cases hc : cap = at' + 1
  · rw [if_pos hc] at hA3
    subst hA3
    have hcT : (cap = at' + 1) = True := eq_true hc
    clear hc
    go_enter Try.func69, Try.ntmps69
    go_wp2
    go_region_held3 (fun _ => True) (first | trivial | assumption) (first | (go_at_call 67; rw [← hW]; (with_reducible refine Calls.mono CC ?_); rintro e' w1 ⟨v, rfl, hown, hb1⟩))
    all_goals
      go_wp2
      go_ret
      refine ⟨v, rfl, ?_, HB.out.1.trans ⟨hb1.os, hb1.tape, hb1.output, hb1.size, fun k hk => hb1.block k (Nat.lt_of_lt_of_le hk HB.out.1.size)⟩⟩
      exact ⟨hown.1, hown.2.imp_right fun ⟨g, cap, cur, e1, e2, e3⟩ => ⟨g, cap, cur, e1, Nat.le_trans HB.out.1.size e2, e3⟩⟩
  · rw [if_neg hc] at hA3
    subst hA3
    go_enter Try.func69, Try.ntmps69
    go_wp2
    go_region_held3 (fun _ => True) (first | trivial | assumption) (first | (go_at_call 67; rw [← hW]; (with_reducible refine Calls.mono CC ?_); rintro e' w1 ⟨v, rfl, hown, hb1⟩))
    all_goals
      go_wp2
      go_ret
      refine ⟨v, rfl, ?_, HB.out.1.trans ⟨hb1.os, hb1.tape, hb1.output, hb1.size, fun k hk => hb1.block k (Nat.lt_of_lt_of_le hk HB.out.1.size)⟩⟩
      exact ⟨hown.1, hown.2.imp_right fun ⟨g, cap, cur, e1, e2, e3⟩ => ⟨g, cap, cur, e1, Nat.le_trans HB.out.1.size e2, e3⟩⟩
end Go.Proofs.Ytpdmkhnonbbhnaa

namespace Go.Proofs.Ytpdmkhnonbbhnaa
open Go.RowKit Go.Maps

/-- slices.BinarySearch of a row that rises. -/
theorem search_any {w : World} {S : Nat → Prop} (v : Value) (l : List Nat) (x : Nat) (h : Nats w S v l) (hl : l.length ≤ 1000) (hs : l.Pairwise (· < ·)) :
    Calls Try.prog 66 #[v, .int .i64 x] w fun r w' => r = .returned (.tuple #[.int .i64 (l.countP (· < x) : Nat), .bool (l.contains x)]) ∧ ∃ q, w' = w.drewN q := by
  rcases h with ⟨rfl, ad, cap, rfl⟩ | ⟨g, o, cap, rfl, _, hc, hj⟩
  · have := Any.slices_BinarySearch_int_empty (P := Try.prog) Try.laysNm225 ad cap (x : Int) w
    change Calls Try.prog 66 _ _ _ at this
    exact this.mono fun _ _ ⟨h1, h2⟩ => ⟨by rw [h1]; simp, 0, h2⟩
  · have hz : (l.map (fun (n : Nat) => (n : Int))).take l.length = l.map fun (n : Nat) => (n : Int) := List.take_of_length_le (by simp)
    have := Any.slices_BinarySearch_int (P := Try.prog) Try.laysNm225 g o l.length cap (l.map fun (n : Nat) => (n : Int)) (x : Int) w (by simp) (by omega) (fun j hj' => by
      have hjl : j < l.length := by simpa using hj'
      have h1 := (hj j hjl).2
      rw [Nat.mul_one] at h1
      rw [h1]
      simp [List.getD, hjl]) (by
      rw [hz, List.pairwise_map]
      exact hs.imp fun h => by omega)
    change Calls Try.prog 66 _ _ _ at this
    refine this.mono fun _ _ ⟨h1, h2⟩ => ⟨?_, h2⟩
    have hc1 : (l.map fun (n : Nat) => (n : Int)).countP (· < (x : Int)) = l.countP (· < x) := by
      rw [List.countP_map]
      refine List.countP_congr fun n _ => ?_
      simp
    have hc2 : (l.map fun (n : Nat) => (n : Int)).contains (x : Int) = l.contains x := by
      rw [Bool.eq_iff_iff, List.contains_iff_mem, List.contains_iff_mem, List.mem_map]
      constructor
      · rintro ⟨a, ha, e⟩
        have : a = x := by omega
        rw [← this]
        exact ha
      · exact fun h => ⟨x, h, rfl⟩
    rw [h1, hz, hc1, hc2]
theorem nats_vals {w : World} {S : Nat → Prop} {v : Value} {l : List Nat} (h : Nats w S v l) : Vals w S v (l.map fun (n : Nat) => Value.int .i64 n) := RowP.map (fun (n : Nat) => Value.int .i64 n) (fun _ _ _ h => h) h
theorem own_nats {W : World} {base : Nat} {v : Value} {n : Nat} {l : List Nat} (h : W.ownsRow base 3 1 v n (l.map fun (n : Nat) => Value.int .i64 n)) : n = l.length ∧ Nats W (fun b => base ≤ b ∧ b < W.heap.size) v l := by
  have hn : n = l.length := by have := h.1; simp at this; omega
  subst hn
  refine ⟨rfl, ?_⟩
  have h2 : W.ownsRow base 3 1 v l.length (l.flatMap fun (n : Nat) => [Value.int .i64 n]) := by
    rw [← List.map_eq_flatMap]
    exact h
  exact (own_row h2 (fun _ _ => rfl)).mono fun g o x _ ⟨⟨_, e1, e2⟩, e3⟩ => ⟨⟨e1, e2⟩, e3 0 (by omega)⟩
/-- In a row that rises the count of the lesser ones is where one stands. -/
theorem count_at : ∀ (l : List Nat) (x : Nat), l.Pairwise (· < ·) → x ∈ l → l.countP (· < x) < l.length ∧ l.take (l.countP (· < x)) ++ l.drop (l.countP (· < x) + 1) = l.filter (fun r => r != x)
  | [], x, _, h => by simp at h
  | a :: r, x, hp, h => by
    rw [List.pairwise_cons] at hp
    by_cases e : a = x
    · subst e
      have h0 : r.countP (· < a) = 0 := by
        rw [List.countP_eq_zero]
        intro b hb
        have := hp.1 b hb
        simp; omega
      have h1 : (a :: r).countP (· < a) = 0 := by rw [List.countP_cons, h0]; simp
      rw [h1]
      refine ⟨by simp, ?_⟩
      have h2 : r.filter (fun b => b != a) = r := List.filter_eq_self.2 fun b hb => by have := hp.1 b hb; simp; omega
      simp [h2]
    · have hx : x ∈ r := by rcases List.mem_cons.1 h with h | h; exact absurd h.symm e; exact h
      obtain ⟨h1, h2⟩ := count_at r x hp.2 hx
      have ha : a < x := hp.1 x hx
      have h3 : (a :: r).countP (· < x) = r.countP (· < x) + 1 := by rw [List.countP_cons]; simp [ha]
      rw [h3]
      refine ⟨by simp; omega, ?_⟩
      rw [List.take_succ_cons, List.drop_succ_cons, List.cons_append, h2, List.filter_cons_of_pos (by simpa using e)]
theorem without_snoc (rows : List Nat) (l : List Sp) (i : Nat) (h : i < l.length) : without rows (l.take (i + 1)) = (without rows (l.take i)).filter (fun r => r != l[i].1) := by
  unfold without
  rw [List.filter_filter, List.take_add_one, List.getElem?_eq_getElem h]
  refine List.filter_congr fun r _ => ?_
  simp only [Option.toList_some, List.any_append, List.any_cons, List.any_nil, Bool.or_false, Bool.not_or]
  rw [Bool.and_comm]
  congr 1
  show (!(l[i].1 == r)) = !(r == l[i].1)
  rw [Bool.beq_comm]
set_option maxHeartbeats 4000000 in
set_option maxRecDepth 10000 in
theorem without_any {w : World} {S : Nat → Prop} (rv sv : Value) (rows : List Nat) (spots : List Sp) (hS : ∀ b, S b → b < w.heap.size) (hr : Nats w S rv rows) (hp : Spots w S sv spots) (hl : rows.length ≤ 200) (hb : spots.length ≤ 200) (hs : rows.Pairwise (· < ·)) (hin : ∀ s ∈ spots, s.1 ∈ rows) (hnd : (spots.map (·.1)).Nodup) :
    Calls Try.prog 51 #[rv, sv] w fun r w' => Below w.heap.size w w' ∧ ∃ v, r = .returned v ∧ Nats w' (fun b => S b ∨ (w.heap.size ≤ b ∧ b < w'.heap.size)) v (without rows spots) := by
  obtain ⟨L, hL, hrow2, hpat⟩ := hp.list
  have hlen : L.length ≤ 200 := by rw [← hL, List.length_map] at hb; exact hb
  have HS : Hid (∀ b, S b → b < w.heap.size) := hS
  have HIN : Hid (∀ i (h : i < L.length), L[i].1 ∈ without rows (spots.take i)) := fun i h => by
    have hi : i < spots.length := by rw [← hL, List.length_map]; exact h
    have e : spots[i].1 = L[i].1 := by simp only [← hL, List.getElem_map]; rfl
    unfold without
    rw [List.mem_filter]
    refine ⟨by rw [← e]; exact hin _ (List.getElem_mem hi), ?_⟩
    rw [Bool.not_eq_true', List.any_eq_false]
    intro s hs' hc
    obtain ⟨j, hj, rfl⟩ := List.getElem_of_mem hs'
    rw [List.getElem_take] at hc
    have hj2 : j < i := by rw [List.length_take] at hj; omega
    have hc : spots[j].1 = L[i].1 := by simpa using hc
    rw [← e] at hc
    have hnd2 := List.pairwise_iff_getElem.1 hnd j i (by simp; omega) (by simpa using hi) hj2
    simp only [List.getElem_map] at hnd2
    exact hnd2 hc
  have HSN : Hid (∀ i (h : i < L.length), without rows (spots.take (i + 1)) = (without rows (spots.take i)).filter (fun r => r != L[i].1)) := fun i h => by
    have hi : i < spots.length := by rw [← hL, List.length_map]; exact h
    have e : spots[i].1 = L[i].1 := by simp only [← hL, List.getElem_map]; rfl
    rw [without_snoc rows spots i hi, e]
  have HSO : Hid (∀ i, (without rows (spots.take i)).Pairwise (· < ·) ∧ (without rows (spots.take i)).length ≤ 200) := fun i => ⟨hs.filter _, Nat.le_trans (List.length_filter_le _ _) hl⟩
  have HE : Hid (without rows (spots.take L.length) = without rows spots) := by
    show _ = _
    rw [show L.length = spots.length by rw [← hL, List.length_map], List.take_length]
  have H0 : Hid (Nats w (fun b => S b ∨ (w.heap.size ≤ b ∧ b < w.heap.size)) rv (without rows (spots.take 0))) := by
    have : without rows (spots.take 0) = rows := by simp [without]
    rw [this]
    exact hr.up fun b hb => .inl hb
  obtain ⟨ad, cap, rfl, hrow3⟩ := hrow2.open
  have HROW : Hid (L ≠ [] → ∃ g o, ad = some ⟨g, o, none⟩ ∧ L.length ≤ cap ∧ ∀ j (h : j < L.length), S g ∧ w.cell? ⟨g, o + j * 2, none⟩ = some (.int .i64 L[j].1) ∧ w.cell? ⟨g, o + j * 2 + 1, none⟩ = some (.pointer (some ⟨L[j].2.1, L[j].2.2.1, none⟩))) := hrow3
  clear hrow2 hrow3 hpat hS hL hb hp hr hs hin hnd hl
  go_enter Try.func51, Try.ntmps51
  go_wp2
  go_loopw [0, 11] (fun nv iv wr => ∃ i : Nat, i ≤ L.length ∧ iv = .int .i64 i ∧ Hid (Nats wr (fun b => S b ∨ (w.heap.size ≤ b ∧ b < wr.heap.size)) nv (without rows (spots.take i)) ∧ Below w.heap.size w wr)) (fun _ iv _ => L.length - (intOf iv).toNat)
  case atStart => exact ⟨0, by omega, by go_num, H0.out, Below.refl _ _⟩
  case round =>
    obtain ⟨i, hi, rfl, HO⟩ := hrel
    by_cases hil : i < L.length
    · obtain ⟨g, o, rfl, hc, hr⟩ := HROW.out (fun e => by rw [e] at hil; simp at hil)
      obtain ⟨s0, q1, q2⟩ := hr i hil
      have hk := Keeps.of HO.out.2 HS.out
      have q1 := (hk.cell (p := ⟨g, o + i * 2, none⟩) s0).trans q1
      have q2 := (hk.cell (p := ⟨g, o + i * 2 + 1, none⟩) s0).trans q2
      have hsz := HO.out.2.size
      have i1 : (0 : Int) ≤ (i : Int) := by omega
      have i2 : (i : Int) < (L.length : Int) := by omega
      go_upto_region 4 with fail
      have hW1 : ∃ W1, W1 = wr.alloc (Obj.cells #[.int .i64 L[i].1, .pointer (some ⟨L[i].2.1, L[i].2.2.1, none⟩)] 106) ∧ Below wr.heap.size wr W1 ∧ W1.heap.size = wr.heap.size + 1 ∧ W1.cell? ⟨wr.heap.size, 0, none⟩ = some (.int .i64 L[i].1) := ⟨_, rfl, (Below.refl _ _).alloc (Nat.le_refl _) _, by simp, heap_cell' (new_block' wr _) rfl⟩
      obtain ⟨W1, hW1, hb1, hs1, x0⟩ := hW1
      rw [← hW1]
      clear hW1
      have hT : ∀ b, (S b ∨ (w.heap.size ≤ b ∧ b < wr.heap.size)) → b < wr.heap.size := fun b hb => by
        rcases hb with hb | hb
        · have := HS.out b hb
          omega
        · exact hb.2
      have hN1 := HO.out.1.on (Keeps.of hb1 hT)
      have hin := HIN.out i hil
      have hso := HSO.out i
      have hsn := HSN.out i hil
      obtain ⟨c1, c2⟩ := count_at _ _ hso.1 hin
      have CB := search_any u0 _ L[i].1 hN1 (by omega) hso.1
      obtain ⟨na, nc, hnv, hng⟩ := hN1.open
      obtain ⟨gg, go, hga, hnc, _⟩ := hng (fun e => by rw [e] at hin; simp at hin)
      subst hga
      rw [hnv] at CB hN1
      have CC : ∀ q, Calls Try.prog 69 #[.slice (some ⟨gg, go, none⟩) (without rows (spots.take i)).length nc, .int .i64 ((without rows (spots.take i)).countP (· < L[i].1) : Nat), .slice none 0 0] (W1.drewN q) fun r w' => ∃ v, r = .returned v ∧ Nats w' (fun b => W1.heap.size ≤ b ∧ b < w'.heap.size) v (without rows (spots.take (i + 1))) ∧ Below W1.heap.size (W1.drewN q) w' := fun q => by
        have h1 := nats_vals hN1
        have hkq : Keeps (fun b => S b ∨ (w.heap.size ≤ b ∧ b < wr.heap.size)) W1 (W1.drewN q) := fun _ _ => rfl
        have h1 := h1.on hkq
        have := cutI ((without rows (spots.take i)).map fun (n : Nat) => Value.int .i64 n) [] ((without rows (spots.take i)).countP (· < L[i].1)) gg go none nc 0 _ (W1.drewN q) (fun b hb => by show b < W1.heap.size; have := hT b hb; omega) (by rw [List.length_map]; exact h1) (by rw [List.length_map]; exact hnc) (.inl ⟨rfl, none, 0, rfl⟩) (by intro u hu; obtain ⟨n, _, rfl⟩ := List.mem_map.1 hu; rfl) (by simp) (by simp; omega) (by rw [List.length_map]; exact c1)
        rw [List.length_map] at this
        refine this.mono fun r w' ⟨v, e1, e2, e3⟩ => ⟨v, e1, ?_, e3⟩
        have e4 : (((without rows (spots.take i)).map fun (n : Nat) => Value.int .i64 n).take ((without rows (spots.take i)).countP (· < L[i].1)) ++ [] ++ ((without rows (spots.take i)).map fun (n : Nat) => Value.int .i64 n).drop ((without rows (spots.take i)).countP (· < L[i].1) + 1)) = (without rows (spots.take (i + 1))).map fun (n : Nat) => Value.int .i64 n := by
          rw [List.append_nil, ← List.map_take, ← List.map_drop, ← List.map_append, c2, hsn]
        rw [e4] at e2
        exact (own_nats e2).2
      have hu0 : u0 = .slice (some ⟨gg, go, none⟩) (without rows (spots.take i)).length nc := hnv
      have HB1 : Hid (Below wr.heap.size wr W1 ∧ W1.heap.size = wr.heap.size + 1) := ⟨hb1, hs1⟩
      rename_i hlast
      clear hlast
      clear hnv hs1 hb1 hN1 q1 q2 hk hr hin hso hsn c1 c2 hT hng hnc
      generalize (without rows (spots.take i)).length = rl at CB CC hu0
      generalize ((without rows (spots.take i)).countP (· < L[i].1)) = rc at CB CC
      generalize (without rows (spots.take i)).contains L[i].1 = rb at CB
      subst hu0
      go_wp2_with (first | (go_at_call 66; (with_reducible refine Calls.mono CB ?_); rintro e' w2 ⟨rfl, q, rfl⟩) | (go_at_call 69; (with_reducible refine Calls.mono (CC _) ?_); rintro e' w3 ⟨v3, rfl, hn3, hb3⟩))
      have HN : Hid (Nats w3 (fun b => S b ∨ (w.heap.size ≤ b ∧ b < w3.heap.size)) v3 (without rows (spots.take (i + 1))) ∧ Below w.heap.size w w3) := by
        have h1 := HB1.out.2
        refine ⟨hn3.up fun b hb => .inr ⟨by omega, hb.2⟩, HO.out.2.trans ((HB1.out.1.mono hsz).trans ⟨hb3.os, hb3.tape, hb3.output, hb3.size, fun k hk => hb3.block k (by omega)⟩)⟩
      clear hn3 hb3 CB CC
      go_wp2
      go_roundw
      case rel => exact ⟨i + 1, hil, by go_num, HN.out⟩
      case measure => simp [intOf]; omega
    · obtain rfl : i = L.length := by omega
      have HQ : Hid (Nats wr (fun b => S b ∨ (w.heap.size ≤ b ∧ b < wr.heap.size)) u0 (without rows spots)) := by
        have := HO.out.1
        rwa [HE.out] at this
      go_wp2
      go_ret
      exact ⟨HO.out.2, _, rfl, HQ.out⟩
end Go.Proofs.Ytpdmkhnonbbhnaa

namespace Go.Proofs.Ytpdmkhnonbbhnaa
open Go.RowKit Go.Maps

set_option maxHeartbeats 4000000 in
set_option maxRecDepth 10000 in
theorem cutC (l m : List Value) (at' : Nat) (g o : Nat) (bd : Option Addr) (cap bcap : Nat) (S : Nat → Prop) (w : World) (hS : ∀ b, S b → b < w.heap.size) (h1 : Vals w S (.slice (some ⟨g, o, none⟩) l.length cap) l) (hcap : l.length ≤ cap) (h2 : Vals w S (.slice bd m.length bcap) m) (o1 : ∀ u ∈ l, u.oneCell' = true) (o2 : ∀ u ∈ m, u.oneCell' = true) (hb : l.length + m.length ≤ 100000) (ha : at' < l.length) :
    Calls Try.prog 50 #[.slice (some ⟨g, o, none⟩) l.length cap, .int .i64 at', .slice bd m.length bcap] w fun r w' => ∃ v, r = .returned v ∧ w'.ownsRow w.heap.size 88 1 v (at' + m.length + (l.length - (at' + 1))) (l.take at' ++ m ++ l.drop (at' + 1)) ∧ Below w.heap.size w w' := by
  obtain ⟨n3, hn3⟩ : ∃ n3, l.length - (at' + 1) = n3 := ⟨_, rfl⟩
  rw [hn3]
  have v1 := vals_take (n := at') h1 (by omega)
  obtain ⟨A3, hA3⟩ : ∃ A3, A3 = (if cap = at' + 1 then some (⟨g, o, none⟩ : Addr) else some ⟨g, o + (at' + 1), none⟩) := ⟨_, rfl⟩
  have v3 : Vals w S (.slice A3 n3 (cap - (at' + 1))) (l.drop (at' + 1)) := by
    by_cases hc : cap = at' + 1
    · obtain rfl : n3 = 0 := by omega
      exact .inl ⟨List.length_eq_zero_iff.1 (by simp; omega), _, _, rfl⟩
    · rw [hA3, if_neg hc]
      exact vals_drop (n := at' + 1) (m := n3) h1 (by omega) hn3.symm
  have hW : ∃ W, W = w.alloc (Obj.cells #[.slice (some ⟨g, o, none⟩) at' cap, .slice bd m.length bcap, .slice A3 n3 (cap - (at' + 1))] 61) ∧ Below w.heap.size w W ∧ W.heap.size = w.heap.size + 1 ∧ W.cell? ⟨w.heap.size, 0, none⟩ = some (.slice (some ⟨g, o, none⟩) at' cap) ∧ W.cell? ⟨w.heap.size, 1, none⟩ = some (.slice bd m.length bcap) ∧ W.cell? ⟨w.heap.size, 2, none⟩ = some (.slice A3 n3 (cap - (at' + 1))) := ⟨_, rfl, (Below.refl _ _).alloc (Nat.le_refl _) _, by simp, heap_cell' (new_block' w _) rfl, heap_cell' (new_block' w _) rfl, heap_cell' (new_block' w _) rfl⟩
  obtain ⟨W, hW, hbW, hsW, d0, d1, d2⟩ := hW
  have hk : Keeps S w W.drew := fun b hb => hbW.block b (hS b hb)
  have CC := concatC [(.slice (some ⟨g, o, none⟩) at' cap, l.take at'), (.slice bd m.length bcap, m), (.slice A3 n3 (cap - (at' + 1)), l.drop (at' + 1))] w.heap.size S W.drew (fun b hb => by have := hS b hb; show b < W.heap.size; omega) (by show w.heap.size < W.heap.size; omega) (fun i h => by
    match i, h with
    | 0, _ => exact d0
    | 1, _ => exact d1
    | 2, _ => exact d2) (fun x hx => by
    simp only [List.mem_cons, List.not_mem_nil, or_false] at hx
    rcases hx with rfl | rfl | rfl
    · exact ⟨v1.on hk, fun u hu => o1 u (List.mem_of_mem_take hu)⟩
    · exact ⟨h2.on hk, o2⟩
    · exact ⟨v3.on hk, fun u hu => o1 u (List.mem_of_mem_drop hu)⟩) (by simp) (by simp [total]; omega)
  have ht : total [(Value.slice (some ⟨g, o, none⟩) at' cap, l.take at'), (.slice bd m.length bcap, m), (.slice A3 n3 (cap - (at' + 1)), l.drop (at' + 1))] = at' + m.length + n3 := by simp [total]; omega
  have hf : [(Value.slice (some ⟨g, o, none⟩) at' cap, l.take at'), (.slice bd m.length bcap, m), (.slice A3 n3 (cap - (at' + 1)), l.drop (at' + 1))].flatMap (·.2) = l.take at' ++ m ++ l.drop (at' + 1) := by simp
  rw [ht, hf] at CC
  have HB : Hid (Below w.heap.size w W ∧ W.heap.size = w.heap.size + 1) := ⟨hbW, hsW⟩
  have b1 : (0 : Int) ≤ (at' : Int) := by omega
  have b2 : (at' : Int) ≤ (cap : Int) := by omega
  have b3 : IntKind.i64.wrap ((at' : Int) + 1) = (at' : Int) + 1 := by rw [IntKind.wrap_i64]; omega
  have b4 : (at' : Int) + 1 ≤ (l.length : Int) := by omega
  have b5 : (0 : Int) ≤ (at' : Int) + 1 := by omega
  clear ht hf hk d0 d1 d2 hbW hsW h1 h2 hS v1 v3
  by_cases hc : cap = at' + 1
  · rw [if_pos hc] at hA3
    subst hA3
    have hcT : (cap = at' + 1) = True := eq_true hc
    clear hc
    go_enter Try.func50, Try.ntmps50
    go_wp2
    go_region_held3 (fun _ => True) (first | trivial | assumption) (first | (go_at_call 68; rw [← hW]; (with_reducible refine Calls.mono CC ?_); rintro e' w1 ⟨v, rfl, hown, hb1⟩))
    all_goals
      go_wp2
      go_ret
      refine ⟨v, rfl, ?_, HB.out.1.trans ⟨hb1.os, hb1.tape, hb1.output, hb1.size, fun k hk => hb1.block k (Nat.lt_of_lt_of_le hk HB.out.1.size)⟩⟩
      exact ⟨hown.1, hown.2.imp_right fun ⟨g, cap, cur, e1, e2, e3⟩ => ⟨g, cap, cur, e1, Nat.le_trans HB.out.1.size e2, e3⟩⟩
  · rw [if_neg hc] at hA3
    subst hA3
    go_enter Try.func50, Try.ntmps50
    go_wp2
    go_region_held3 (fun _ => True) (first | trivial | assumption) (first | (go_at_call 68; rw [← hW]; (with_reducible refine Calls.mono CC ?_); rintro e' w1 ⟨v, rfl, hown, hb1⟩))
    all_goals
      go_wp2
      go_ret
      refine ⟨v, rfl, ?_, HB.out.1.trans ⟨hb1.os, hb1.tape, hb1.output, hb1.size, fun k hk => hb1.block k (Nat.lt_of_lt_of_le hk HB.out.1.size)⟩⟩
      exact ⟨hown.1, hown.2.imp_right fun ⟨g, cap, cur, e1, e2, e3⟩ => ⟨g, cap, cur, e1, Nat.le_trans HB.out.1.size e2, e3⟩⟩
end Go.Proofs.Ytpdmkhnonbbhnaa
