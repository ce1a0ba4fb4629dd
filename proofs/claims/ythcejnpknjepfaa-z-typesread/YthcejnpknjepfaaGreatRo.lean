/- Rows of types that are their owner's, made one by one. -/
import Derived.Test.YthcejnpknjepfaaGreatTo
import Derived.Test.YthcejnpknjepfaaGreatRa
namespace Go.Proofs.YthcejnpknjepfaaGreat
open Go.RowKit

theorem TyO.mono {w : World} {lo lo' : Nat} (hl : lo ≤ lo') : ∀ (d : Nat) (x : Value) (t : Tn d) (rws : List (Value × Nat)), TyO w lo' d x t rws → TyO w lo d x t rws
  | 0, _, _, _, h => h
  | d + 1, x, t, rws, ⟨v, hx, h1, h2, h⟩ => by
    refine ⟨v, hx, h1, h2, ?_⟩
    rcases h with h | ⟨h0, es, rss, k1, k2, hown, hr, hj⟩
    · exact .inl h
    · exact .inr ⟨h0, es, rss, k1, k2, hown.mono hl, hr, fun j a b c => TyO.mono hl d _ _ _ (hj j a b c)⟩
/-- A row that is made one by one, and what lies in it: each element's lists lie in blocks of their own. -/
structure RowO (w : World) (lo d : Nat) (v : Value) (es : List El) (ts : List (Tn d)) (rss : List (List (Value × Nat))) : Prop where
  own : w.ownsRow lo 25 3 v es.length (es.flatMap elCells)
  len : es.length = ts.length
  rlen : rss.length = ts.length
  each : ∀ j (h : j < ts.length) (h1 : j < es.length) (h2 : j < rss.length), TyO w lo d (elV es[j]) ts[j] rss[j]
  sep : SepB lo w.heap.size rss.flatten
  away : ∀ p ∈ rss.flatten, p.1.ownBlock ≠ v.ownBlock
theorem RowO.nil (w : World) (lo d : Nat) : RowO w lo d (.slice none 0 0) [] [] [] := ⟨World.ownsRow_nil _ _ _ _, rfl, rfl, fun j h => by simp at h, ⟨fun p hp => by simp at hp, by simp⟩, fun p hp => by simp at hp⟩
theorem RowO.on {w w' : World} {lo d : Nat} {v : Value} {es : List El} {ts : List (Tn d)} {rss : List (List (Value × Nat))} (h : RowO w lo d v es ts rss) (hs : w.heap.size ≤ w'.heap.size) (hb : ∀ g, lo ≤ g → g < w.heap.size → w'.heap[g]? = w.heap[g]?) : RowO w' lo d v es ts rss := by
  refine ⟨own_keep h.own fun k hk => hb k (h.own.lt k hk).1 (h.own.lt k hk).2, h.len, h.rlen, fun j a b c => TyO.on _ _ _ _ (fun p hp g hg => ?_) (h.each j a b c), ⟨fun p hp => ?_, h.sep.2⟩, h.away⟩
  · obtain ⟨g', e, h1, h2⟩ := h.sep.1 p (List.mem_flatten.2 ⟨_, List.getElem_mem c, hp⟩)
    rw [hg] at e
    have := Option.some.inj e
    exact hb g (by omega) (by omega)
  · obtain ⟨g', e, h1, h2⟩ := h.sep.1 p hp
    exact ⟨g', e, h1, by omega⟩
theorem elV_own {w : World} {lo d : Nat} {x : Value} {t : Tn d} {rws : List (Value × Nat)} (h : TyO w lo d x t rws) : ∃ k n ad len cap, x = .agg #[.int .i64 k, .string n, .slice ad len cap] := by
  cases d with
  | zero => exact h.elim
  | succ d =>
    obtain ⟨v, hx, _, _, h⟩ := h
    rcases h with ⟨_, ⟨ad, cap, rfl⟩, _⟩ | ⟨_, es, rss, k1, k2, hown, _⟩
    · exact ⟨_, _, ad, 0, cap, hx⟩
    · rcases hown.2 with ⟨rfl, h0⟩ | ⟨g, cap, _, rfl, _⟩
      · exact ⟨_, _, _, _, _, hx⟩
      · exact ⟨_, _, _, _, _, hx⟩
/-- One more. -/
theorem RowO.snoc {w w' : World} {lo lo' d : Nat} {v v' : Value} {es : List El} {ts : List (Tn d)} {rss : List (List (Value × Nat))} {e : El} {t : Tn d} {rws : List (Value × Nat)} (h : RowO w lo d v es ts rss) (hl : lo ≤ lo') (he : TyO w lo' d (elV e) t rws) (hS : SepB lo' w.heap.size rws) (hlw : lo' ≤ w.heap.size) (hA : SepB lo lo' rss.flatten) (hv : ∀ k, v.ownBlock = some k → k < lo')
    (hown : w'.ownsRow lo 25 3 v' (es.length + 1) (es.flatMap elCells ++ elCells e)) (hs : w.heap.size ≤ w'.heap.size) (hg : ∀ k, k < w.heap.size → some k ≠ v.ownBlock → w'.heap[k]? = w.heap[k]?) (hv' : v'.ownBlock = v.ownBlock ∨ ∃ g, v'.ownBlock = some g ∧ w.heap.size ≤ g) : RowO w' lo d v' (es ++ [e]) (ts ++ [t]) (rss ++ [rws]) := by
  have hfl : (rss ++ [rws]).flatten = rss.flatten ++ rws := by simp
  have hSep : SepB lo w.heap.size (rss.flatten ++ rws) := hA.append hS hl (Nat.le_refl _) hlw
  have hlt : ∀ p ∈ rss.flatten ++ rws, ∃ g, p.1.ownBlock = some g ∧ g < w.heap.size ∧ p.1.ownBlock ≠ v.ownBlock := fun p hp => by
    obtain ⟨g, e1, _, e2⟩ := hSep.1 p hp
    refine ⟨g, e1, e2, ?_⟩
    rcases List.mem_append.1 hp with hp | hp
    · exact h.away p hp
    · obtain ⟨g', e3, e4, _⟩ := hS.1 p hp
      intro e5
      have := hv g' (by rw [← e5, e3])
      omega
  have keep : ∀ p ∈ rss.flatten ++ rws, ∀ g, p.1.ownBlock = some g → w'.heap[g]? = w.heap[g]? := fun p hp g hpg => by
    obtain ⟨g', e1, e2, e3⟩ := hlt p hp
    rw [hpg] at e1
    have e1 := Option.some.inj e1
    exact hg g (by omega) (by rw [← hpg]; exact e3)
  refine ⟨by simpa using hown, by simp [h.len], by simp [h.rlen], fun j hj hj1 hj2 => ?_, ?_, ?_⟩
  · have l1 := h.len
    have l2 := h.rlen
    by_cases hlt : j < ts.length
    · rw [List.getElem_append_left hlt, List.getElem_append_left (by omega), List.getElem_append_left (by omega)]
      exact TyO.on _ _ _ _ (fun p hp => keep p (List.mem_append.2 (.inl (List.mem_flatten.2 ⟨_, List.getElem_mem _, hp⟩)))) (h.each j hlt (by omega) (by omega))
    · have e1 : j = ts.length := by simp at hj; omega
      subst e1
      have k1 : (ts ++ [t])[ts.length] = t := List.getElem_concat_length rfl _
      have k2 : (es ++ [e])[ts.length] = e := List.getElem_concat_length l1.symm _
      have k3 : (rss ++ [rws])[ts.length] = rws := List.getElem_concat_length l2.symm _
      rw [k1, k2, k3]
      exact TyO.mono hl _ _ _ _ (TyO.on _ _ _ _ (fun p hp => keep p (List.mem_append.2 (.inr hp))) he)
  · rw [hfl]
    exact ⟨fun p hp => by
      obtain ⟨g, e1, e2, e3⟩ := hSep.1 p hp
      exact ⟨g, e1, e2, by omega⟩, hSep.2⟩
  · rw [hfl]
    intro p hp e0
    obtain ⟨g, e1, e2, e3⟩ := hlt p hp
    rcases hv' with hv' | ⟨g', hv', hge⟩
    · exact e3 (e0.trans hv')
    · rw [e1, hv'] at e0
      have := Option.some.inj e0
      omega
/-- The tree whose arguments are such a row. -/
theorem RowO.tree {w : World} {lo d : Nat} {v : Value} {es : List El} {ts : List (Tn d)} {rss : List (List (Value × Nat))} (h : RowO w lo d v es ts rss) (h0 : ts ≠ []) (k : Int) (n : List UInt8) (hn : n.length < 140737488355328) (hl : ts.length < 140737488355328) :
    TyO w lo (d + 1) (.agg #[.int .i64 k, .string ⟨n.toArray⟩, v]) ((k, n), ts) ((v, ts.length) :: rss.flatten) ∧ SepB lo w.heap.size ((v, ts.length) :: rss.flatten) := by
  refine ⟨⟨v, rfl, hn, hl, .inr ⟨h0, es, rss, h.len, h.rlen, by show w.ownsRow lo 25 3 v ts.length _; rw [← h.len]; exact h.own, rfl, fun j a b c => h.each j a b c⟩⟩, ?_⟩
  have hpos : 0 < es.length := by rw [h.len]; exact List.length_pos_iff.2 h0
  obtain ⟨g, cap, hv, hg, hlt⟩ := h.own.form hpos
  have hvb : v.ownBlock = some g := by rw [hv]; rfl
  refine ⟨fun p hp => ?_, ?_⟩
  · rcases List.mem_cons.1 hp with rfl | hp
    · exact ⟨g, hvb, hg, hlt⟩
    · exact h.sep.1 p hp
  · rw [List.map_cons, List.nodup_cons]
    refine ⟨fun hm => ?_, h.sep.2⟩
    obtain ⟨p, hp, e⟩ := List.mem_map.1 hm
    exact h.away p hp e
end Go.Proofs.YthcejnpknjepfaaGreat
