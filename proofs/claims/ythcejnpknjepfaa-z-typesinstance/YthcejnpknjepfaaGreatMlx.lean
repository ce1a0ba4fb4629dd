/- meets: the plain side, owned rows of bounds, and its contract at a variable. meets at a new variable. meets: its contract. meets at any types. -/
import Derived.Test.YthcejnpknjepfaaGreatCo
import Derived.Test.YthcejnpknjepfaaGreatBe
namespace Go.Proofs.YthcejnpknjepfaaGreat
open Go.RowKit

/-- Arguments met one behind another, up to the first that does not fit. -/
def meetsArgs {d e : Nat} (f : List Bd → Tn d → Tn e → List Bd × Bool) : List Bd → List (Tn d) → List (Tn e) → List Bd × Bool
  | bs, t :: ts, u :: us => if (f bs t u).2 = true then meetsArgs f (f bs t u).1 ts us else ((f bs t u).1, false)
  | bs, _, _ => (bs, true)
/-- The bounds that make the first tree the second. -/
def meetsT : (d e : Nat) → List Bd → Tn d → Tn e → List Bd × Bool
  | 0, _, bs, _, _ => (bs, false)
  | _ + 1, 0, bs, _, _ => (bs, false)
  | d + 1, e + 1, bs, ((k, n), ts), ((k', n'), us) =>
    if k = 2 then (match bs[idxN (bs.map (·.1)) n]? with
      | some b => (bs, decide (flat b.2.1 b.2.2 = flat (e + 1) ((k', n'), us)))
      | none => (bs ++ [(n, ⟨e + 1, ((k', n'), us)⟩)], true))
    else if k = k' ∧ n = n' ∧ ts.length = us.length then meetsArgs (meetsT d e) bs ts us else (bs, false)
/-- A bound and where its tree is. -/
abbrev Be := Bd × El
def obC (p : Be) : List Value := [.string ⟨p.1.1.toArray⟩, .int .i64 p.2.1, .string p.2.2.1, p.2.2.2]
theorem obC_len : ∀ ps : List Be, (ps.flatMap obC).length = ps.length * 4
  | [] => rfl
  | a :: r => by rw [List.flatMap_cons, List.length_append, obC_len r]; simp [obC]; omega
theorem obC_get : ∀ (ps : List Be) (j i : Nat) (hj : j < ps.length) (_ : i < 4), (ps.flatMap obC)[j * 4 + i]? = (obC ps[j])[i]?
  | [], _, _, h, _ => by simp at h
  | a :: r, 0, i, _, hi => by
    rw [List.flatMap_cons, List.getElem?_append_left (by simp [obC]; omega), Nat.zero_mul, Nat.zero_add]
    rfl
  | a :: r, j + 1, i, h, hi => by
    rw [List.flatMap_cons, List.getElem?_append_right (by simp [obC]; omega)]
    have e2 : (j + 1) * 4 + i - (obC a).length = j * 4 + i := by simp [obC]; omega
    rw [e2, obC_get r j i (by simpa using h) hi]
    rfl
/-- An owned row of bounds: each tree lies in blocks from lo on, none of them the row's own. -/
structure Ob (w : World) (lo : Nat) (v : Value) (ps : List Be) : Prop where
  own : w.ownsRow lo 47 4 v ps.length (ps.flatMap obC)
  each : ∀ j (h : j < ps.length), TyS w (fun g => lo ≤ g ∧ g < w.heap.size ∧ v.ownBlock ≠ some g) ps[j].1.2.1 (elV ps[j].2) ps[j].1.2.2
theorem Ob.nil (w : World) (lo : Nat) : Ob w lo (.slice none 0 0) [] := ⟨World.ownsRow_nil _ _ _ _, fun j h => by simp at h⟩
theorem Ob.on {w w' : World} {lo : Nat} {v : Value} {ps : List Be} (h : Ob w lo v ps) (hs : w.heap.size ≤ w'.heap.size) (hb : ∀ g, lo ≤ g → g < w.heap.size → w'.heap[g]? = w.heap[g]?) : Ob w' lo v ps :=
  ⟨own_move h.own fun k hk => hb k (h.own.lt k hk).1 (h.own.lt k hk).2, fun j hj => TyS.on (fun g q => ⟨q.1, by omega, q.2.2⟩) (fun g q => hb g q.1 q.2.1) _ _ _ (h.each j hj)⟩
/-- The cells of such a row. -/
theorem Ob.cells {w : World} {lo : Nat} {v : Value} {ps : List Be} (h : Ob w lo v ps) (h0 : 0 < ps.length) : ∃ g cap, v = .slice (some ⟨g, 0, none⟩) ps.length cap ∧ lo ≤ g ∧ g < w.heap.size ∧ ps.length ≤ cap ∧ ∀ j (hj : j < ps.length), w.cell? ⟨g, j * 4, none⟩ = some (.string ⟨ps[j].1.1.toArray⟩) ∧ w.cell? ⟨g, j * 4 + 1, none⟩ = some (.int .i64 ps[j].2.1) ∧ w.cell? ⟨g, j * 4 + 2, none⟩ = some (.string ps[j].2.2.1) ∧ w.cell? ⟨g, j * 4 + 3, none⟩ = some ps[j].2.2.2 := by
  rcases id h.own.2 with ⟨_, h1⟩ | ⟨g, cap, cur, hv, hb, hh, hcap, _⟩
  · omega
  · refine ⟨g, cap, hv, hb, heap_lt hh, hcap, fun j hj => ?_⟩
    have hc : ∀ i, i < 4 → ∀ u, (obC ps[j])[i]? = some u → w.cell? ⟨g, j * 4 + i, none⟩ = some u := fun i hi u hu => by
      have := h.own.cells (g := g) (by rw [hv]; rfl) (j * 4 + i) u (by rw [obC_get ps j i hj hi]; exact hu)
      rw [add_zero_addr] at this
      exact this
    exact ⟨hc 0 (by omega) _ rfl, hc 1 (by omega) _ rfl, hc 2 (by omega) _ rfl, hc 3 (by omega) _ rfl⟩
theorem find_ob {w : World} {lo : Nat} {v : Value} {ps : List Be} (x : List UInt8) (h : Ob w lo v ps) (hl : ps.length ≤ 1000) : Calls Tryz.prog 58 #[v, strV x] w fun r w' => r = .returned (.int .i64 (findI (ps.map (·.1.1)) x)) ∧ w' = w := by
  by_cases h0 : 0 < ps.length
  · obtain ⟨g, cap, rfl, _, _, _, hc⟩ := h.cells h0
    have := find_some (ps.map (·.1.1)) x g 0 cap w (by simp; omega) fun j hj => by
      rw [Nat.zero_add, List.getElem_map]
      exact (hc j (by simpa using hj)).1
    rw [List.length_map] at this
    exact this
  · have e : ps = [] := List.length_eq_zero_iff.1 (by omega)
    subst e
    obtain ⟨ad, cap, rfl⟩ : ∃ ad cap, v = .slice ad 0 cap := by
      rcases h.own.2 with ⟨h1, _⟩ | ⟨g, cap, cur, h1, _⟩
      · exact ⟨none, 0, h1⟩
      · exact ⟨_, cap, h1⟩
    exact find_none x ad cap w
/-- What meets leaves. -/
def MtPost (w : World) (lo : Nat) (v : Value) (R : List Bd × Bool) (r : Ending) (w' : World) : Prop :=
  ∃ (ad : Option Addr) (cap : Nat) (ps : List Be), ps.map (·.1) = R.1 ∧ r = .returned (.tuple #[.slice ad ps.length cap, .bool R.2]) ∧ Ob w' lo (.slice ad ps.length cap) ps ∧ w.grownBy w' v.ownBlock ∧ ((Value.slice ad ps.length cap).ownBlock = v.ownBlock ∨ ∃ g, (Value.slice ad ps.length cap).ownBlock = some g ∧ w.heap.size ≤ g)
set_option maxHeartbeats 8000000 in
set_option maxRecDepth 10000 in
theorem meets_old (lo B e : Nat) (v : Value) (ps : List Be) (n : List UInt8) (ad : Option Addr) (len cap : Nat) (k' : Int) (n' : ByteArray) (ad' : Option Addr) (len' cap' : Nat) (u : Tn e) (w : World) (hBl : B ≤ lo) (hlo : lo ≤ w.heap.size) (h : Ob w lo v ps) (hl : ps.length ≤ 500) (hu : TyAt w B e (.agg #[.int .i64 k', .string n', .slice ad' len' cap']) u) (hi : idxN (ps.map (·.1.1)) n < ps.length) :
    Calls Tryz.prog 35 #[v, .agg #[.int .i64 2, strV n, .slice ad len cap], .agg #[.int .i64 k', .string n', .slice ad' len' cap']] w (MtPost w lo v (ps.map (·.1), decide (flat ps[idxN (ps.map (·.1.1)) n].1.2.1 ps[idxN (ps.map (·.1.1)) n].1.2.2 = flat e u))) := by
  obtain ⟨g, c0, rfl, hlg, hg, hc0, hc⟩ := h.cells (by omega)
  have hF : findI (ps.map (·.1.1)) n = (idxN (ps.map (·.1.1)) n : Int) := by rw [findI, if_pos (by simpa using hi)]
  have hEX : ∃ W, W = (w.alloc (Obj.cells #[.int .i64 2, strV n, .slice ad len cap] 25)).alloc (Obj.cells #[.int .i64 k', .string n', .slice ad' len' cap'] 25) := ⟨_, rfl⟩
  obtain ⟨W, hW⟩ := hEX
  have hbW : Below w.heap.size w W := by rw [hW]; exact ((Below.refl _ _).alloc (Nat.le_refl _) _).alloc (by simp) _
  have hOW : Ob W lo (.slice (some ⟨g, 0, none⟩) ps.length c0) ps := h.on hbW.size fun g _ hlt => hbW.block g hlt
  have D := find_ob n hOW (by omega)
  rw [hF] at D
  generalize idxN (ps.map (·.1.1)) n = i at D hi ⊢
  obtain ⟨_, p1, p2, p3⟩ := hc i hi
  have hT := TyS.at (B := W.heap.size) (fun g q => q.2.1) _ _ _ (hOW.each i hi)
  have hUW : TyAt W W.heap.size e (.agg #[.int .i64 k', .string n', .slice ad' len' cap']) u := TyAt.below (hbW.mono (by omega)) (by have := hbW.size; omega) _ _ _ hu
  obtain ⟨sa, sl, sc, hsl⟩ := TyS.slice (h.each i hi)
  have q1 := (hbW.cell (p := ⟨g, i * 4 + 1, none⟩) hg).trans p1
  have q2 := (hbW.cell (p := ⟨g, i * 4 + 2, none⟩) hg).trans p2
  have q3 := (hbW.cell (p := ⟨g, i * 4 + 3, none⟩) hg).trans p3
  have CS : ∀ W', Below W.heap.size W W' → Calls Tryz.prog 9 #[.agg #[.int .i64 ps[i].2.1, .string ps[i].2.2.1, ps[i].2.2.2], .agg #[.int .i64 k', .string n', .slice ad' len' cap']] W' fun r w' => r = .returned (.bool (decide (flat ps[i].1.2.1 ps[i].1.2.2 = flat e u))) ∧ Below W'.heap.size W' w' := fun W' hb => same_any _ _ _ _ _ _ W' W.heap.size hb.size (hT.on hb) (hUW.on hb)
  rw [hsl] at CS q3
  generalize decide (flat ps[i].1.2.1 ps[i].1.2.2 = flat e u) = res at CS ⊢
  generalize ps[i].2.1 = k2 at CS q1
  generalize ps[i].2.2.1 = n2 at CS q2
  have b0 : W.cell? ⟨w.heap.size, 0, none⟩ = some (.int .i64 2) := by rw [hW]; simp
  have b1 : W.cell? ⟨w.heap.size, 1, none⟩ = some (strV n) := by rw [hW]; simp
  have d0 : W.cell? ⟨w.heap.size + 1, 0, none⟩ = some (.int .i64 k') := by rw [hW]; simp
  have d1 : W.cell? ⟨w.heap.size + 1, 1, none⟩ = some (.string n') := by rw [hW]; simp
  have d2 : W.cell? ⟨w.heap.size + 1, 2, none⟩ = some (.slice ad' len' cap') := by rw [hW]; simp
  have HO : Hid (Ob W lo (.slice (some ⟨g, 0, none⟩) ps.length c0) ps) := hOW
  have HB : Hid (Below w.heap.size w W) := hbW
  have i1 : (0 : Int) ≤ (i : Int) := by omega
  have i2 : (i : Int) < (ps.length : Int) := by omega
  have i3 : ¬ (i : Int) < 0 := by omega
  clear hc p1 p2 p3 hOW hbW hF h hT hUW hu hsl
  go_enter Tryz.func35, Tryz.ntmps35
  go_upto_region 1 with fail
  rw [← hW]
  generalize hz : w.heap.size = z at b0 b1 d0 d1 d2 ⊢
  have hzg : z + 1 < W.heap.size ∧ g < W.heap.size := ⟨by rw [hW, ← hz]; simp, by have := HB.out.size; omega⟩
  clear hW hz
  go_upto_region 7 with (go_at_call 58; (with_reducible refine Calls.mono D ?_); rintro e' w' ⟨rfl, hw'⟩; rw [hw']; clear hw' w')
  go_region_held3 (fun w' => (w'.cell? ⟨g, i * 4 + 1, none⟩ = some (.int .i64 k2) ∧ w'.cell? ⟨g, i * 4 + 2, none⟩ = some (.string n2) ∧ w'.cell? ⟨g, i * 4 + 3, none⟩ = some (.slice sa sl sc)) ∧ w'.cell? ⟨z + 1, 0, none⟩ = some (.int .i64 k') ∧ w'.cell? ⟨z + 1, 1, none⟩ = some (.string n') ∧ w'.cell? ⟨z + 1, 2, none⟩ = some (.slice ad' len' cap')) (first | exact ⟨⟨q1, q2, q3⟩, d0, d1, d2⟩ | assumption | (have hk : ∀ p : Addr, p.block < W.heap.size → w1.cell? p = W.cell? p := fun p hp => hb1.cell hp; exact ⟨⟨(hk _ (by simp; omega)).trans q1, (hk _ (by simp; omega)).trans q2, (hk _ (by simp; omega)).trans q3⟩, (hk _ (by simp; omega)).trans d0, (hk _ (by simp; omega)).trans d1, (hk _ (by simp; omega)).trans d2⟩) | go_keep)
    (first | (go_at_call 9; (with_reducible refine Calls.mono (CS _ ?_) ?_); exact (Below.refl _ W).drew; rintro e' w1 ⟨rfl, hb1⟩))
  all_goals
    have hbw : Below W.heap.size W w1 := (Below.refl _ W).drew.trans hb1
    clear hb1 CS q1 q2 q3 d0 d1 d2 b0 b1 D
    go_wp2
    go_ret2
    refine ⟨some ⟨g, 0, none⟩, c0, ps, rfl, rfl, HO.out.on hbw.size fun g _ hlt => hbw.block g hlt, below_grown (HB.out.trans (hbw.mono HB.out.size)) _, .inl rfl⟩
end Go.Proofs.YthcejnpknjepfaaGreat

namespace Go.Proofs.YthcejnpknjepfaaGreat
open Go.RowKit

theorem obC_snoc (ps : List Be) (p : Be) : (ps ++ [p]).flatMap obC = ps.flatMap obC ++ obC p := by simp
set_option maxHeartbeats 8000000 in
set_option maxRecDepth 10000 in
theorem meets_new (lo B e : Nat) (v : Value) (ps : List Be) (n : List UInt8) (ad : Option Addr) (len cap : Nat) (k' : Int) (n' : ByteArray) (ad' : Option Addr) (len' cap' : Nat) (u : Tn e) (w : World) (hBl : B ≤ lo) (hlo : lo ≤ w.heap.size) (h : Ob w lo v ps) (hl : ps.length ≤ 500) (hu : TyAt w B e (.agg #[.int .i64 k', .string n', .slice ad' len' cap']) u) (hN : (flat e u).length ≤ 4194304) (hi : ¬ idxN (ps.map (·.1.1)) n < ps.length) :
    Calls Tryz.prog 35 #[v, .agg #[.int .i64 2, strV n, .slice ad len cap], .agg #[.int .i64 k', .string n', .slice ad' len' cap']] w (MtPost w lo v (ps.map (·.1) ++ [(n, ⟨e, u⟩)], true)) := by
  have hF : findI (ps.map (·.1.1)) n = -1 := by rw [findI, if_neg (by simpa using hi)]
  obtain ⟨va, vc, hv⟩ : ∃ va vc, v = .slice va ps.length vc := by
    rcases h.own.2 with ⟨h1, h2⟩ | ⟨g', cap', cur, h1, _⟩
    · exact ⟨none, 0, by rw [h1, h2]⟩
    · exact ⟨_, _, h1⟩
  subst hv
  have hEX : ∃ W, W = (w.alloc (Obj.cells #[.int .i64 2, strV n, .slice ad len cap] 25)).alloc (Obj.cells #[.int .i64 k', .string n', .slice ad' len' cap'] 25) := ⟨_, rfl⟩
  obtain ⟨W, hW⟩ := hEX
  have hbW : Below w.heap.size w W := by rw [hW]; exact ((Below.refl _ _).alloc (Nat.le_refl _) _).alloc (by simp) _
  have hsW : W.heap.size = w.heap.size + 2 := by rw [hW]; simp
  have hOW : Ob W lo (.slice va ps.length vc) ps := h.on hbW.size fun g _ hlt => hbW.block g hlt
  have D := find_ob n hOW (by omega)
  rw [hF] at D
  have hUW : TyAt W W.heap.size e (.agg #[.int .i64 k', .string n', .slice ad' len' cap']) u := TyAt.below (hbW.mono (by omega)) (by have := hbW.size; omega) _ _ _ hu
  have CC := copy_any _ _ _ W W.heap.size (Nat.le_refl _) hUW hN
  have b0 : W.cell? ⟨w.heap.size, 0, none⟩ = some (.int .i64 2) := by rw [hW]; simp
  have b1 : W.cell? ⟨w.heap.size, 1, none⟩ = some (strV n) := by rw [hW]; simp
  have d0 : W.cell? ⟨w.heap.size + 1, 0, none⟩ = some (.int .i64 k') := by rw [hW]; simp
  have d1 : W.cell? ⟨w.heap.size + 1, 1, none⟩ = some (.string n') := by rw [hW]; simp
  have d2 : W.cell? ⟨w.heap.size + 1, 2, none⟩ = some (.slice ad' len' cap') := by rw [hW]; simp
  have HO : Hid (Ob W lo (.slice va ps.length vc) ps) := hOW
  have HB : Hid (Below w.heap.size w W) := hbW
  have HLo : Hid (lo ≤ w.heap.size) := hlo
  have HS : Hid (W.heap.size = w.heap.size + 2) := hsW
  have HVL : Hid (∀ k, (Value.slice va ps.length vc).ownBlock = some k → lo ≤ k ∧ k < w.heap.size) := h.own.lt
  obtain ⟨i0, hi0, hz0, hz1, hz2⟩ := info_parts Tryz.infoB47
  clear hOW hbW hF h hUW hu hi hsW hlo hBl hN
  go_enter Tryz.func35, Tryz.ntmps35
  go_upto_region 1 with fail
  rw [← hW]
  generalize hz : w.heap.size = z at b0 b1 d0 d1 d2 ⊢
  have HZ : Hid (w.heap.size = z) := hz
  clear hW hz
  go_upto_region 5 with (first
    | (go_at_call 58; (with_reducible refine Calls.mono D ?_); rintro e' w' ⟨rfl, hw'⟩; rw [hw']; clear hw' w')
    | (go_at_call 59; (with_reducible refine Calls.mono CC ?_); intro e' w1 hpost; obtain ⟨hb1, kd, nm, ad2, len2, cap2, rfl, hT1⟩ := hpost))
  obtain ⟨U, hU, hbU, hsU, c0', c1', c2'⟩ := cells_box w1 (.int .i64 kd) (.string nm) (.slice ad2 len2 cap2) 25
  rw [← hU]
  have hs1 := hb1.size
  have hbWU : Below W.heap.size W U := hb1.trans (hbU.mono hs1)
  have a1 := (hbWU.cell (p := ⟨z, 1, none⟩) (by have := HS.out; have := HZ.out; simp; omega)).trans b1
  have OU : Ob U lo (.slice va ps.length vc) ps := HO.out.on hbWU.size fun g _ hlt => hbWU.block g hlt
  have ownU := OU.own
  have HOU : Hid (Ob U lo (.slice va ps.length vc) ps) := OU
  have HTU : Hid (TyS U (fun g => W.heap.size ≤ g ∧ g < w1.heap.size) e (.agg #[.int .i64 kd, .string nm, .slice ad2 len2 cap2]) u) := TyS.on (fun _ q => q) (fun g q => hbU.block g q.2) _ _ _ hT1
  have HBU : Hid (Below W.heap.size W U) := hbWU
  have HSU : Hid (U.heap.size = w1.heap.size + 1 ∧ W.heap.size ≤ w1.heap.size) := ⟨hsU, hs1⟩
  have hloU : lo ≤ U.heap.size := by have := HLo.out; have := HS.out; omega
  generalize hq1 : w1.heap.size = q1 at c0' c1' c2' ⊢
  clear hU hbU CC D b0 b1 d0 d1 d2 hq1 hs1 hsU hb1 hT1 OU hbWU
  go_wp2_with (at_builtin; refine wpList_append_lies _ rfl _ _ 36 rfl lo 47 i0 _ 4 64 Tryz.underlying36 hi0 hz0 hz1 hz2 rfl (by decide) (.slice va ps.length vc) ps.length (ps.flatMap obC) rfl (ownU.alloc _) ⟨U.heap.size, 0, none⟩ 1 1 [.string ⟨n.toArray⟩, .int .i64 kd, .string nm, .slice ad2 len2 cap2] rfl rfl (World.news_of_block (cs := #[.string ⟨n.toArray⟩, .int .i64 kd, .string nm, .slice ad2 len2 cap2]) (t := 47) (fr := (0, 0)) (heap_alloc_new U _)) (by simp [Value.oneCell']) (by omega) (by unfold maxLen; omega) (by omega) (by simp; omega) (U.heap.size + 1) (by simp) ?_; intro g cap'' w5 hown5 hgrow hat hlt5)
  go_ret2
  have hzz := HZ.out
  have hss := HS.out
  have hsu := HSU.out
  have hs5 : U.heap.size + 1 ≤ w5.heap.size := by have := hgrow.size; simp at this; omega
  have hlen : (ps ++ [((n, (⟨e, u⟩ : Sigma Tn)), (kd, nm, Value.slice ad2 len2 cap2))]).length = ps.length + 1 := by simp
  have h5 : ∀ b, b < U.heap.size → (Value.slice va ps.length vc).ownBlock ≠ some b → w5.heap[b]? = U.heap[b]? := fun b hb hne => by
    rw [hgrow.block b (by simp; omega) fun e => hne e.symm]
    exact Below.heap_alloc _ _ _ hb
  have hvb : (Value.slice (some ⟨g, 0, none⟩) (ps.length + 1) cap'').ownBlock = (Value.slice va ps.length vc).ownBlock ∨ ∃ g', (Value.slice (some ⟨g, 0, none⟩) (ps.length + 1) cap'').ownBlock = some g' ∧ U.heap.size ≤ g' := by
    rcases hat with h | h
    · exact .inl h.symm
    · exact .inr ⟨g, rfl, by omega⟩
  have side : ∀ b, b < U.heap.size → (Value.slice va ps.length vc).ownBlock ≠ some b → (Value.slice (some ⟨g, 0, none⟩) (ps.length + 1) cap'').ownBlock ≠ some b := fun b hb hne e => by
    rcases hvb with h | ⟨g', h, h'⟩
    · exact hne (h ▸ e)
    · rw [h] at e; have := Option.some.inj e; omega
  refine ⟨some ⟨g, 0, none⟩, cap'', ps ++ [((n, ⟨e, u⟩), (kd, nm, .slice ad2 len2 cap2))], by simp, by rw [hlen]; rfl, ?_, ?_, ?_⟩
  · rw [hlen]
    refine ⟨by rw [hlen, obC_snoc]; exact hown5, fun j hj => ?_⟩
    by_cases hlt : j < ps.length
    · rw [List.getElem_append_left hlt]
      exact TyS.on (S := fun g => lo ≤ g ∧ g < U.heap.size ∧ (Value.slice va ps.length vc).ownBlock ≠ some g) (fun b q => ⟨q.1, by omega, side b q.2.1 q.2.2⟩) (fun b q => h5 b q.2.1 q.2.2) _ _ _ (HOU.out.each j hlt)
    · have hje : j = ps.length := by simp at hj; omega
      subst hje
      rw [List.getElem_concat_length rfl]
      have hne : ∀ b, W.heap.size ≤ b → (Value.slice va ps.length vc).ownBlock ≠ some b := fun b hb e => by have := (HVL.out b e).2; omega
      exact TyS.on (S := fun g => W.heap.size ≤ g ∧ g < w1.heap.size) (fun b q => ⟨by have := HLo.out; omega, by omega, side b (by omega) (hne b q.1)⟩) (fun b q => h5 b (by omega) (hne b q.1)) _ _ _ HTU.out
  · refine ⟨?_, ?_, ?_, ?_, fun b hb hne => ?_⟩
    · rw [hgrow.os]; exact HBU.out.os.trans HB.out.os
    · rw [hgrow.tape]; exact HBU.out.tape.trans HB.out.tape
    · rw [hgrow.output]; exact HBU.out.output.trans HB.out.output
    · omega
    · rw [h5 b (by omega) fun e => hne e.symm, HBU.out.block b (by omega)]
      exact HB.out.block b hb
  · rw [hlen]
    rcases hvb with h | ⟨g', h, h'⟩
    · exact .inl h
    · exact .inr ⟨g', h, by omega⟩
end Go.Proofs.YthcejnpknjepfaaGreat

namespace Go.Proofs.YthcejnpknjepfaaGreat
open Go.RowKit

theorem meetsArgs_len {d e : Nat} (f : List Bd → Tn d → Tn e → List Bd × Bool) (hf : ∀ bs t u, (f bs t u).1.length ≤ bs.length + (flat d t).length) : ∀ (ts : List (Tn d)) (us : List (Tn e)) bs, (meetsArgs f bs ts us).1.length ≤ bs.length + (flats d ts).length
  | [], us, bs => by cases us <;> simp [meetsArgs]
  | t :: ts, [], bs => by simp [meetsArgs]
  | t :: ts, u :: us, bs => by
    rw [meetsArgs, flats_cons, List.length_append]
    have h2 := hf bs t u
    split
    · have h1 := meetsArgs_len f hf ts us (f bs t u).1
      omega
    · show (f bs t u).1.length ≤ _
      omega
theorem meetsT_len : ∀ (d e : Nat) (bs : List Bd) (t : Tn d) (u : Tn e), (meetsT d e bs t u).1.length ≤ bs.length + (flat d t).length
  | 0, _, _, t, _ => t.elim
  | d + 1, 0, bs, _, u => u.elim
  | d + 1, e + 1, bs, ((k, n), ts), ((k', n'), us) => by
    have hfl : (flat (d + 1) ((k, n), ts)).length = (flats d ts).length + 1 := by rw [flat_succ]; simp
    rw [meetsT, hfl]
    split
    · split
      · show bs.length ≤ _; omega
      · show (bs ++ [_]).length ≤ _
        rw [List.length_append, List.length_singleton]
        omega
    · split
      · have := meetsArgs_len (meetsT d e) (meetsT_len d e) ts us bs
        omega
      · show bs.length ≤ _; omega
/-- What is asked of meets at depth d. -/
def MeetsC (d : Nat) : Prop := ∀ (e : Nat) (v x y : Value) (t : Tn d) (u : Tn e) (ps : List Be) (w : World) (B lo : Nat), B ≤ lo → lo ≤ w.heap.size → TyAt w B d x t → TyAt w B e y u → Ob w lo v ps → ps.length + (flat d t).length ≤ 501 → (flat e u).length ≤ 4194304 → Calls Tryz.prog 35 #[v, x, y] w (MtPost w lo v (meetsT d e (ps.map (·.1)) t u))
set_option maxHeartbeats 8000000 in
set_option maxRecDepth 10000 in
theorem meets_heads (lo : Nat) (v : Value) (ps : List Be) (k k' : Int) (n n' : List UInt8) (ad ad' : Option Addr) (len len' cap cap' : Nat) (w : World) (hk : ¬ k = 2) (h : ¬ (k = k' ∧ n = n' ∧ len = len')) (hO : Ob w lo v ps) :
    Calls Tryz.prog 35 #[v, .agg #[.int .i64 k, .string ⟨n.toArray⟩, .slice ad len cap], .agg #[.int .i64 k', .string ⟨n'.toArray⟩, .slice ad' len' cap']] w (MtPost w lo v (ps.map (·.1), false)) := by
  obtain ⟨va, vc, rfl⟩ : ∃ va vc, v = .slice va ps.length vc := by
    rcases hO.own.2 with ⟨h1, h2⟩ | ⟨g', cap', cur, h1, _⟩
    · exact ⟨none, 0, by rw [h1, h2]⟩
    · exact ⟨_, _, h1⟩
  have fin : ∀ o o', MtPost w lo (.slice va ps.length vc) (ps.map (·.1), false) (.returned (.tuple #[.slice va ps.length vc, .bool false])) ((w.alloc o).alloc o') := fun o o' => by
    have hb : Below w.heap.size w ((w.alloc o).alloc o') := ((Below.refl _ _).alloc (Nat.le_refl _) o).alloc (by simp) o'
    exact ⟨va, vc, ps, rfl, rfl, hO.on hb.size fun g _ hlt => hb.block g hlt, below_grown hb _, .inl rfl⟩
  have FIN : Hid (∀ o o', MtPost w lo (.slice va ps.length vc) (ps.map (·.1), false) (.returned (.tuple #[.slice va ps.length vc, .bool false])) ((w.alloc o).alloc o')) := fin
  have hkb : (k == 2) = false := by simpa using hk
  clear fin hO
  by_cases hkk : k = k'
  · subst hkk
    by_cases hn : n = n'
    · subst hn
      have hne : ¬ (len : Int) = (len' : Int) := fun e => h ⟨rfl, rfl, by omega⟩
      clear h
      go_enter Tryz.func35, Tryz.ntmps35
      go_wp2
      go_ret2
      exact FIN.out _ _
    · have hne : ¬ ((⟨n.toArray⟩ : ByteArray) = ⟨n'.toArray⟩) := fun e => hn (bytes_eq.1 e)
      clear h
      go_enter Tryz.func35, Tryz.ntmps35
      go_wp2
      go_ret2
      exact FIN.out _ _
  · clear h
    go_enter Tryz.func35, Tryz.ntmps35
    go_wp2
    go_ret2
    exact FIN.out _ _
/-- Between the rounds of meets. -/
structure MtW (w wr : World) (z lo d e : Nat) (av1 av2 : Value × Value × Value) (row0 : Option Nat) (ts : List (Tn d)) (us : List (Tn e)) (R : List Bd × Bool) (j : Nat) (v : Value) (ps : List Be) : Prop where
  gr : w.grownBy wr row0
  arg1 : wr.heap[z]? = some (.cells #[av1.1, av1.2.1, av1.2.2] 25 (0, 0))
  arg2 : wr.heap[z + 1]? = some (.cells #[av2.1, av2.2.1, av2.2.2] 25 (0, 0))
  ob : Ob wr lo v ps
  vb : v.ownBlock = row0 ∨ ∃ g, v.ownBlock = some g ∧ z + 2 ≤ g
  eq : meetsArgs (meetsT d e) (ps.map (·.1)) (ts.drop j) (us.drop j) = R
  num : ps.length + (flats d (ts.drop j)).length ≤ 500
set_option maxHeartbeats 8000000 in
set_option maxRecDepth 10000 in
theorem meets_row (d e : Nat) (IH : MeetsC d) (v : Value) (k : Int) (n : List UInt8) (ts : List (Tn d)) (us : List (Tn e)) (ad ad' : Option Addr) (cap cap' : Nat) (ps : List Be) (w : World) (B lo : Nat) (hBl : B ≤ lo) (hlo : lo ≤ w.heap.size) (hk : ¬ k = 2) (hl : ts.length = us.length) (hlt0 : ts.length < 140737488355328)
    (hrow : ts ≠ [] → ∃ g o, ad = some ⟨g, o, none⟩ ∧ ts.length ≤ cap ∧ g < B ∧ ∀ j (h : j < ts.length), ∃ k n ad' len' cap', (∀ w', Below B w w' → w'.cell? ⟨g, o + j * 3, none⟩ = some (.int .i64 k) ∧ w'.cell? ⟨g, o + j * 3 + 1, none⟩ = some (.string n) ∧ w'.cell? ⟨g, o + j * 3 + 2, none⟩ = some (.slice ad' len' cap')) ∧ TyAt w B d (.agg #[.int .i64 k, .string n, .slice ad' len' cap']) ts[j])
    (hrow' : us ≠ [] → ∃ g o, ad' = some ⟨g, o, none⟩ ∧ us.length ≤ cap' ∧ g < B ∧ ∀ j (h : j < us.length), ∃ k n ad' len' cap', (∀ w', Below B w w' → w'.cell? ⟨g, o + j * 3, none⟩ = some (.int .i64 k) ∧ w'.cell? ⟨g, o + j * 3 + 1, none⟩ = some (.string n) ∧ w'.cell? ⟨g, o + j * 3 + 2, none⟩ = some (.slice ad' len' cap')) ∧ TyAt w B e (.agg #[.int .i64 k, .string n, .slice ad' len' cap']) us[j])
    (h : Ob w lo v ps) (hN : ps.length + (flats d ts).length ≤ 500) (hM : (flats e us).length ≤ 4194304) :
    Calls Tryz.prog 35 #[v, .agg #[.int .i64 k, strV n, .slice ad ts.length cap], .agg #[.int .i64 k, strV n, .slice ad' us.length cap']] w (MtPost w lo v (meetsArgs (meetsT d e) (ps.map (·.1)) ts us)) := by
  generalize hR : meetsArgs (meetsT d e) (ps.map (·.1)) ts us = R
  rw [← hl]
  have T0 : MtW w ((w.alloc (Obj.cells #[.int .i64 k, strV n, .slice ad ts.length cap] 25)).alloc (Obj.cells #[.int .i64 k, strV n, .slice ad' ts.length cap'] 25)) w.heap.size lo d e (.int .i64 k, strV n, .slice ad ts.length cap) (.int .i64 k, strV n, .slice ad' ts.length cap') v.ownBlock ts us R 0 v ps := by
    have hb : ∀ o o', Below w.heap.size w ((w.alloc o).alloc o') := fun o o' => ((Below.refl _ _).alloc (Nat.le_refl _) o).alloc (by simp) o'
    refine ⟨below_grown (hb _ _) _, ?_, ?_, h.on (hb _ _).size fun g _ hlt => (hb _ _).block g hlt, .inl rfl, hR, hN⟩
    · rw [Below.heap_alloc _ _ _ (by simp)]
      show (w.heap.push _)[w.heap.size]? = _
      simp
    · show ((w.heap.push _).push _)[w.heap.size + 1]? = _
      rw [Array.getElem?_push, if_pos (by simp)]
  have HR1 : Hid _ := hrow
  have HR2 : Hid _ := hrow'
  have HL : Hid (B ≤ lo ∧ lo ≤ w.heap.size ∧ ts.length = us.length ∧ (flats e us).length ≤ 4194304) := ⟨hBl, hlo, hl, hM⟩
  have H0 : Hid (∀ g, v.ownBlock = some g → g < w.heap.size ∧ lo ≤ g) := fun g hg => ⟨(h.own.lt g hg).2, (h.own.lt g hg).1⟩
  have hkb : (k == 2) = false := by simpa using hk
  have qn : (n != n) = false := by simp
  have HI : Hid (MeetsC d) := IH
  clear hrow hrow' hR hBl hlo hl hM h IH hN
  go_enter Tryz.func35, Tryz.ntmps35
  go_wp2
  generalize hz : w.heap.size = z at T0 ⊢
  have HZ : Hid (w.heap.size = z) := hz
  generalize (w.alloc (Obj.cells #[.int .i64 k, strV n, .slice ad ts.length cap] 25)).alloc (Obj.cells #[.int .i64 k, strV n, .slice ad' ts.length cap'] 25) = W0 at T0 ⊢
  clear hz
  go_loopw [0, 11] (fun l i wr => ∃ (j : Nat) (qs : List Be), j ≤ ts.length ∧ i = .int .i64 j ∧ Hid (MtW w wr z lo d e (.int .i64 k, strV n, .slice ad ts.length cap) (.int .i64 k, strV n, .slice ad' ts.length cap') v.ownBlock ts us R j l qs)) (fun _ i _ => ts.length - (intOf i).toNat)
  case atStart => exact ⟨0, ps, by omega, by go_num, T0⟩
  case round =>
    obtain ⟨j, qs, hj, rfl, HT⟩ := hrel
    have T := HT.out
    obtain ⟨x0, x1, x2⟩ := heap_cells T.arg1
    obtain ⟨y0, y1, y2⟩ := heap_cells T.arg2
    have hbz := heap_lt T.arg2
    obtain ⟨va, vc, hu0⟩ : ∃ va vc, u0 = .slice va qs.length vc := by
      rcases T.ob.own.2 with ⟨h1, h2⟩ | ⟨g', cap', cur, h1, _⟩
      · exact ⟨none, 0, by rw [h1, h2]⟩
      · exact ⟨_, _, h1⟩
    subst hu0
    have hL := HL.out
    by_cases hlt : j < ts.length
    · have hlu : j < us.length := by omega
      obtain ⟨g, o, had, _, hgB, hels⟩ := HR1.out (by intro e; rw [e] at hlt; simp at hlt)
      obtain ⟨g', o', had', _, hgB', hels'⟩ := HR2.out (by intro e; rw [e] at hlu; simp at hlu)
      obtain ⟨k1, n1, ad1, l1, cp1, hcel, T1⟩ := hels j hlt
      obtain ⟨k2, n2, ad2, l2, cp2, hcel', T2⟩ := hels' j hlu
      have hbB : Below B w wr := grown_below T.gr (by omega) fun b hb => by have := (H0.out b hb).2; omega
      obtain ⟨p0, p1, p2⟩ := hcel wr hbB
      obtain ⟨q0, q1, q2⟩ := hcel' wr hbB
      have x2 : wr.cell? ⟨z, 2, none⟩ = some (.slice (some ⟨g, o, none⟩) ts.length cap) := by rw [← had]; exact x2
      have y2 : wr.cell? ⟨z + 1, 2, none⟩ = some (.slice (some ⟨g', o', none⟩) ts.length cap') := by rw [← had']; exact y2
      have hwr : lo ≤ wr.heap.size := by have := T.gr.size; omega
      have hdr : (flats d (ts.drop j)).length = (flat d ts[j]).length + (flats d (ts.drop (j + 1))).length := by rw [List.drop_eq_getElem_cons hlt, flats_cons, List.length_append]
      have hnum := T.num
      have CJ' : ∀ W', Below wr.heap.size wr W' → Calls Tryz.prog 35 #[.slice va qs.length vc, .agg #[.int .i64 k1, .string n1, .slice ad1 l1 cp1], .agg #[.int .i64 k2, .string n2, .slice ad2 l2 cp2]] W' (MtPost W' lo (.slice va qs.length vc) (meetsT d e (qs.map (·.1)) ts[j] us[j])) := fun W' hb =>
        HI.out e _ _ _ ts[j] us[j] qs W' B lo hL.1 (by have := hb.size; omega) (T1.on (hbB.trans (hb.mono (by omega)))) (T2.on (hbB.trans (hb.mono (by omega)))) (T.ob.on hb.size fun g _ hlt => hb.block g hlt) (by omega) (by have := flat_le hlu; omega)
      have hlen1 := meetsT_len d e (qs.map (·.1)) ts[j] us[j]
      have heq := T.eq
      rw [List.drop_eq_getElem_cons hlt, List.drop_eq_getElem_cons hlu, meetsArgs] at heq
      generalize meetsT d e (qs.map (·.1)) ts[j] us[j] = R1 at CJ' hlen1 heq
      obtain ⟨bs1, ok1⟩ := R1
      have CJ : ∀ W', Below wr.heap.size wr W' → Calls Tryz.prog 35 #[.slice va qs.length vc, .agg #[.int .i64 k1, .string n1, .slice ad1 l1 cp1], .agg #[.int .i64 k2, .string n2, .slice ad2 l2 cp2]] W' fun r w1 => ∃ (a1 : Option Addr) (c1 : Nat) (ps1 : List Be), Hid (ps1.map (·.1) = bs1) ∧ r = .returned (.tuple #[.slice a1 ps1.length c1, .bool ok1]) ∧ Hid (Ob w1 lo (.slice a1 ps1.length c1) ps1) ∧ Hid (W'.grownBy w1 (Value.slice va qs.length vc).ownBlock) ∧ Hid ((Value.slice a1 ps1.length c1).ownBlock = (Value.slice va qs.length vc).ownBlock ∨ ∃ g, (Value.slice a1 ps1.length c1).ownBlock = some g ∧ W'.heap.size ≤ g) := CJ'
      have HQ : Hid ((if ok1 = true then meetsArgs (meetsT d e) bs1 (ts.drop (j + 1)) (us.drop (j + 1)) else (bs1, false)) = R) := heq
      have HL1 : Hid (bs1.length + (flats d (ts.drop (j + 1))).length ≤ 500) := by
        show bs1.length + _ ≤ 500
        simp at hlen1
        omega
      have HVb : Hid (∀ b, (Value.slice va qs.length vc).ownBlock = some b → lo ≤ b ∧ b ≠ z ∧ b ≠ z + 1) := fun b hb => by
        refine ⟨(T.ob.own.lt b hb).1, ?_⟩
        rcases T.vb with q | ⟨g', q, q'⟩
        · have := (H0.out b (q ▸ hb)).1; have := HZ.out; omega
        · rw [q] at hb; have := Option.some.inj hb; omega
      have hgw : g < wr.heap.size ∧ g' < wr.heap.size := by omega
      have i1 : (0 : Int) ≤ (j : Int) := by omega
      have i2 : (j : Int) < (ts.length : Int) := by omega
      have hjl : j + 1 ≤ ts.length := hlt
      have HLL : Hid (g < lo ∧ g' < lo ∧ z + 1 < wr.heap.size) := ⟨by omega, by omega, hbz⟩
      have KP : Hid (∀ w', wr.drew.grownBy w' (Value.slice va qs.length vc).ownBlock → (w'.cell? ⟨z, 2, none⟩ = some (.slice (some ⟨g, o, none⟩) ts.length cap) ∧ w'.cell? ⟨z + 1, 2, none⟩ = some (.slice (some ⟨g', o', none⟩) ts.length cap')) ∧ (w'.cell? ⟨g, o + j * 3, none⟩ = some (.int .i64 k1) ∧ w'.cell? ⟨g, o + j * 3 + 1, none⟩ = some (.string n1) ∧ w'.cell? ⟨g, o + j * 3 + 2, none⟩ = some (.slice ad1 l1 cp1)) ∧ w'.cell? ⟨g', o' + j * 3, none⟩ = some (.int .i64 k2) ∧ w'.cell? ⟨g', o' + j * 3 + 1, none⟩ = some (.string n2) ∧ w'.cell? ⟨g', o' + j * 3 + 2, none⟩ = some (.slice ad2 l2 cp2)) := by
        intro w1 hgr1
        have hk : ∀ p : Addr, p.block < wr.heap.size → (Value.slice va qs.length vc).ownBlock ≠ some p.block → w1.cell? p = wr.cell? p := fun p hp hne => World.cell?_of_block (w := wr) (hgr1.block p.block hp fun e => hne e.symm)
        have hgg := HLL.out
        have v1 : ∀ b, b < lo → (Value.slice va qs.length vc).ownBlock ≠ some b := fun b hb e => by have := (HVb.out b e).1; omega
        have v2 : (Value.slice va qs.length vc).ownBlock ≠ some z := fun e => (HVb.out z e).2.1 rfl
        have v3 : (Value.slice va qs.length vc).ownBlock ≠ some (z + 1) := fun e => (HVb.out _ e).2.2 rfl
        exact ⟨⟨(hk ⟨z, 2, none⟩ (by simp; omega) v2).trans x2, (hk ⟨z + 1, 2, none⟩ (by simp; omega) v3).trans y2⟩, ⟨(hk ⟨g, _, none⟩ hgw.1 (v1 _ hgg.1)).trans p0, (hk ⟨g, _, none⟩ hgw.1 (v1 _ hgg.1)).trans p1, (hk ⟨g, _, none⟩ hgw.1 (v1 _ hgg.1)).trans p2⟩, (hk ⟨g', _, none⟩ hgw.2 (v1 _ hgg.2.1)).trans q0, (hk ⟨g', _, none⟩ hgw.2 (v1 _ hgg.2.1)).trans q1, (hk ⟨g', _, none⟩ hgw.2 (v1 _ hgg.2.1)).trans q2⟩
      clear CJ' heq hlen1 T1 T2 T hels hels' hcel hcel' T0 had had' hbB hL hwr hdr hnum x0 x1 y0 y1
      go_wp2
      go_region_held3 (fun w' => (w'.cell? ⟨z, 2, none⟩ = some (.slice (some ⟨g, o, none⟩) ts.length cap) ∧ w'.cell? ⟨z + 1, 2, none⟩ = some (.slice (some ⟨g', o', none⟩) ts.length cap')) ∧ (w'.cell? ⟨g, o + j * 3, none⟩ = some (.int .i64 k1) ∧ w'.cell? ⟨g, o + j * 3 + 1, none⟩ = some (.string n1) ∧ w'.cell? ⟨g, o + j * 3 + 2, none⟩ = some (.slice ad1 l1 cp1)) ∧ w'.cell? ⟨g', o' + j * 3, none⟩ = some (.int .i64 k2) ∧ w'.cell? ⟨g', o' + j * 3 + 1, none⟩ = some (.string n2) ∧ w'.cell? ⟨g', o' + j * 3 + 2, none⟩ = some (.slice ad2 l2 cp2)) (first | exact ⟨⟨x2, y2⟩, ⟨p0, p1, p2⟩, q0, q1, q2⟩ | assumption | exact KP.out _ hgr1.out | go_keep)
        (first | (go_at_call 35; (with_reducible refine Calls.mono (CJ _ ?_) ?_); exact (Below.refl _ wr).drew; intro e' w1 hpost; obtain ⟨a1, c1, ps1, hps1, rfl, hob1, hgr1, hvb1⟩ := hpost))
      all_goals
        have hgr2 : wr.grownBy w1 (Value.slice va qs.length vc).ownBlock := ⟨hgr1.out.os, hgr1.out.tape, hgr1.out.output, hgr1.out.size, hgr1.out.block⟩
        have T := HT.out
        have hgl := HLL.out
        have GR : Hid (w.grownBy w1 v.ownBlock) := ⟨hgr2.os.trans T.gr.os, hgr2.tape.trans T.gr.tape, hgr2.output.trans T.gr.output, Nat.le_trans T.gr.size hgr2.size, fun b hb hne => (hgr2.block b (by have := T.gr.size; omega) fun e => by
          rcases T.vb with q | ⟨g', q, q'⟩
          · exact hne (e.trans q)
          · rw [q] at e; have := Option.some.inj e; have := HZ.out; omega).trans (T.gr.block b hb hne)⟩
        have VB : Hid ((Value.slice a1 ps1.length c1).ownBlock = v.ownBlock ∨ ∃ g, (Value.slice a1 ps1.length c1).ownBlock = some g ∧ z + 2 ≤ g) := by
          rcases hvb1.out with q | ⟨g', q, q'⟩
          · rw [q]; exact T.vb
          · have q' : wr.heap.size ≤ g' := q'
            exact .inr ⟨g', q, by omega⟩
        have A1 : Hid (w1.heap[z]? = _) := (hgr2.block z (by omega) fun e => (HVb.out z e.symm).2.1 rfl).trans T.arg1
        have A2 : Hid (w1.heap[z + 1]? = _) := (hgr2.block (z + 1) (by omega) fun e => (HVb.out _ e.symm).2.2 rfl).trans T.arg2
        clear T hgl hgr2 CJ x2 y2 p0 p1 p2 q0 q1 q2 KP
        cases ok1 with
        | true =>
          have T2 : MtW w w1 z lo d e (.int .i64 k, strV n, .slice ad ts.length cap) (.int .i64 k, strV n, .slice ad' ts.length cap') v.ownBlock ts us R (j + 1) (.slice a1 ps1.length c1) ps1 := ⟨GR.out, A1.out, A2.out, hob1.out, VB.out, by rw [hps1.out]; exact HQ.out, by have := HL1.out; have e := congrArg List.length hps1.out; simp at e; omega⟩
          have HT2 : Hid (MtW w w1 z lo d e (.int .i64 k, strV n, .slice ad ts.length cap) (.int .i64 k, strV n, .slice ad' ts.length cap') v.ownBlock ts us R (j + 1) (.slice a1 ps1.length c1) ps1) := T2
          clear T2
          go_wp2
          go_roundw
          case rel => exact ⟨j + 1, ps1, hjl, by go_num, HT2⟩
          case measure => simp [intOf]; omega
        | false =>
          have HQ2 : Hid (R = (bs1, false)) := HQ.out.symm
          go_wp2
          go_ret2
          refine ⟨a1, c1, ps1, by rw [HQ2.out]; exact hps1.out, by rw [HQ2.out]; rfl, hob1.out, GR.out, ?_⟩
          rcases VB.out with q | ⟨g', q, q'⟩
          · exact .inl q
          · exact .inr ⟨g', q, by have := HZ.out; omega⟩
    · have HQ2 : Hid (R = (qs.map (·.1), true)) := by
        show R = _
        rw [← T.eq, List.drop_eq_nil_of_le (by omega)]
        cases us.drop j <;> rfl
      have i2 : ¬ (j : Int) < (ts.length : Int) := by omega
      clear T T0 hL
      go_wp2
      go_ret2
      have T := HT.out
      refine ⟨va, vc, qs, by rw [HQ2.out], by rw [HQ2.out]; rfl, T.ob, T.gr, ?_⟩
      rcases T.vb with q | ⟨g', q, q'⟩
      · exact .inl q
      · exact .inr ⟨g', q, by have := HZ.out; omega⟩
end Go.Proofs.YthcejnpknjepfaaGreat

namespace Go.Proofs.YthcejnpknjepfaaGreat
open Go.RowKit

theorem meets_any : ∀ d, MeetsC d
  | 0 => fun _ _ _ _ _ _ _ _ _ _ _ _ h => h.elim
  | d + 1 => fun e v x y t u ps w B lo hBl hlo h h' hO hN hM => by
    cases e with
    | zero => exact h'.elim
    | succ e =>
      have hU := h'
      obtain ⟨v1, hx, h1, h2, hr⟩ := h
      obtain ⟨v2, hy, h1', h2', hr'⟩ := h'
      obtain ⟨ad, cap, rfl, hrow⟩ := hr.cells
      obtain ⟨ad', cap', rfl, hrow'⟩ := hr'.cells
      obtain ⟨⟨k, n⟩, ts⟩ := t
      obtain ⟨⟨k', n'⟩, us⟩ := u
      simp only at hx hy h1 h2 h1' h2' hrow hrow'
      subst hx hy
      have hN' : ps.length + ((flats d ts).length + 1) ≤ 501 := hN
      have hM' : (flats e us).length + 1 ≤ 4194304 := hM
      have hmm : (ps.map (·.1)).map (·.1) = ps.map (·.1.1) := by simp
      rw [meetsT, hmm]
      by_cases hk : k = 2
      · subst hk
        rw [if_pos rfl]
        by_cases hi : idxN (ps.map (·.1.1)) n < ps.length
        · have hg : (ps.map (·.1))[idxN (ps.map (·.1.1)) n]? = some ps[idxN (ps.map (·.1.1)) n].1 := by rw [List.getElem?_map, List.getElem?_eq_getElem hi]; rfl
          rw [hg]
          exact meets_old lo B (e + 1) v ps n ad ts.length cap k' ⟨n'.toArray⟩ ad' us.length cap' _ w hBl hlo hO (by omega) hU hi
        · have hg : (ps.map (·.1))[idxN (ps.map (·.1.1)) n]? = none := by rw [List.getElem?_eq_none]; simp; omega
          rw [hg]
          exact meets_new lo B (e + 1) v ps n ad ts.length cap k' ⟨n'.toArray⟩ ad' us.length cap' _ w hBl hlo hO (by omega) hU hM hi
      · rw [if_neg hk]
        by_cases hh : k = k' ∧ n = n' ∧ ts.length = us.length
        · rw [if_pos hh]
          obtain ⟨rfl, rfl, hl⟩ := hh
          exact meets_row d e (meets_any d) v k n ts us ad ad' cap cap' ps w B lo hBl hlo hk hl h2 hrow hrow' hO (by omega) (by omega)
        · rw [if_neg hh]
          exact meets_heads lo v ps k k' n n' ad ad' ts.length us.length cap cap' w hk hh hO
end Go.Proofs.YthcejnpknjepfaaGreat
