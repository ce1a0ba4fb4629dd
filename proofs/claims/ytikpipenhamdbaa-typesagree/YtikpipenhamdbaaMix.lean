/- Rows of types that are their owner's, made one by one. The program's reader: the contract of args, if part reads as it should. Rows of bounds that are their owner's, made one by one. Small facts on rows. The program's nodesOf. -/
import Derived.Test.YtikpipenhamdbaaMex
import Derived.Test.YtikpipenhamdbaaMhx
import Derived.Test.YtikpipenhamdbaaMdx
namespace Go.Proofs.Ytikpipenhamdbaa
open Go.RowKit

theorem TyO.mono {w : World} {lo lo' : Nat} (hl : lo ≤ lo') : ∀ (d : Nat) (x : Value) (t : Tn d) (rws : List (Value × Nat)), TyO w lo' d x t rws → TyO w lo d x t rws
  | 0, _, _, _, h => h
  | d + 1, x, t, rws, ⟨v, hx, h1, h2, h⟩ => by
    refine ⟨v, hx, h1, h2, ?_⟩
    rcases h with h | ⟨h0, es, rss, k1, k2, hown, hr, hj⟩
    · exact .inl h
    · exact .inr ⟨h0, es, rss, k1, k2, hown.mono hl, hr, fun j a b c => TyO.mono hl d _ _ _ (hj j a b c)⟩
/-- A row that is made one by one, and what lies in it: each element's lists lie in blocks of their own. -/
structure RowO (w : World) (lo d : Nat) (v : Value) (es : List El) (ts : List (Tn d)) (rss : List (List (Value × Nat))) : Prop where
  own : w.ownsRow lo 31 3 v es.length (es.flatMap elCells)
  len : es.length = ts.length
  rlen : rss.length = ts.length
  each : ∀ j (h : j < ts.length) (h1 : j < es.length) (h2 : j < rss.length), TyO w lo d (elV es[j]) ts[j] rss[j]
  sep : SepB lo w.heap.size rss.flatten
  away : ∀ p ∈ rss.flatten, p.1.ownBlock ≠ v.ownBlock
theorem RowO.nil (w : World) (lo d : Nat) : RowO w lo d (.slice none 0 0) [] [] [] := ⟨World.ownsRow_nil _ _ _ _, rfl, rfl, fun j h => by simp at h, ⟨fun p hp => by simp at hp, by simp⟩, fun p hp => by simp at hp⟩
theorem RowO.on {w w' : World} {lo d : Nat} {v : Value} {es : List El} {ts : List (Tn d)} {rss : List (List (Value × Nat))} (h : RowO w lo d v es ts rss) (hs : w.heap.size ≤ w'.heap.size) (hb : ∀ g, lo ≤ g → g < w.heap.size → w'.heap[g]? = w.heap[g]?) : RowO w' lo d v es ts rss := by
  refine ⟨own_keep h.own fun k hk => hb k (h.own.lt k hk).1 (h.own.lt k hk).2, h.len, h.rlen, fun j a b c => TyO.on _ _ _ _ (fun p hp g hg => ?_) (h.each j a b c), ⟨fun p hp => ?_, h.sep.2⟩, h.away⟩
  · obtain ⟨g', e, h1, h2⟩ := h.sep.1 p (List.mem_flatten.2 ⟨_, List.getElem_mem c, hp⟩)
    rw [hg] at e
    have := Option.some.inj e
    exact hb g (by omega) (by omega)
  · obtain ⟨g', e, h1, h2⟩ := h.sep.1 p hp
    exact ⟨g', e, h1, by omega⟩
theorem elV_own {w : World} {lo d : Nat} {x : Value} {t : Tn d} {rws : List (Value × Nat)} (h : TyO w lo d x t rws) : ∃ k n ad len cap, x = .agg #[.int .i64 k, .string n, .slice ad len cap] := by
  cases d with
  | zero => exact h.elim
  | succ d =>
    obtain ⟨v, hx, _, _, h⟩ := h
    rcases h with ⟨_, ⟨ad, cap, rfl⟩, _⟩ | ⟨_, es, rss, k1, k2, hown, _⟩
    · exact ⟨_, _, ad, 0, cap, hx⟩
    · rcases hown.2 with ⟨rfl, h0⟩ | ⟨g, cap, _, rfl, _⟩
      · exact ⟨_, _, _, _, _, hx⟩
      · exact ⟨_, _, _, _, _, hx⟩
/-- One more. -/
theorem RowO.snoc {w w' : World} {lo lo' d : Nat} {v v' : Value} {es : List El} {ts : List (Tn d)} {rss : List (List (Value × Nat))} {e : El} {t : Tn d} {rws : List (Value × Nat)} (h : RowO w lo d v es ts rss) (hl : lo ≤ lo') (he : TyO w lo' d (elV e) t rws) (hS : SepB lo' w.heap.size rws) (hlw : lo' ≤ w.heap.size) (hA : SepB lo lo' rss.flatten) (hv : ∀ k, v.ownBlock = some k → k < lo')
    (hown : w'.ownsRow lo 31 3 v' (es.length + 1) (es.flatMap elCells ++ elCells e)) (hs : w.heap.size ≤ w'.heap.size) (hg : ∀ k, k < w.heap.size → some k ≠ v.ownBlock → w'.heap[k]? = w.heap[k]?) (hv' : v'.ownBlock = v.ownBlock ∨ ∃ g, v'.ownBlock = some g ∧ w.heap.size ≤ g) : RowO w' lo d v' (es ++ [e]) (ts ++ [t]) (rss ++ [rws]) := by
  have hfl : (rss ++ [rws]).flatten = rss.flatten ++ rws := by simp
  have hSep : SepB lo w.heap.size (rss.flatten ++ rws) := hA.append hS hl (Nat.le_refl _) hlw
  have hlt : ∀ p ∈ rss.flatten ++ rws, ∃ g, p.1.ownBlock = some g ∧ g < w.heap.size ∧ p.1.ownBlock ≠ v.ownBlock := fun p hp => by
    obtain ⟨g, e1, _, e2⟩ := hSep.1 p hp
    refine ⟨g, e1, e2, ?_⟩
    rcases List.mem_append.1 hp with hp | hp
    · exact h.away p hp
    · obtain ⟨g', e3, e4, _⟩ := hS.1 p hp
      intro e5
      have := hv g' (by rw [← e5, e3])
      omega
  have keep : ∀ p ∈ rss.flatten ++ rws, ∀ g, p.1.ownBlock = some g → w'.heap[g]? = w.heap[g]? := fun p hp g hpg => by
    obtain ⟨g', e1, e2, e3⟩ := hlt p hp
    rw [hpg] at e1
    have e1 := Option.some.inj e1
    exact hg g (by omega) (by rw [← hpg]; exact e3)
  refine ⟨by simpa using hown, by simp [h.len], by simp [h.rlen], fun j hj hj1 hj2 => ?_, ?_, ?_⟩
  · have l1 := h.len
    have l2 := h.rlen
    by_cases hlt : j < ts.length
    · rw [List.getElem_append_left hlt, List.getElem_append_left (by omega), List.getElem_append_left (by omega)]
      exact TyO.on _ _ _ _ (fun p hp => keep p (List.mem_append.2 (.inl (List.mem_flatten.2 ⟨_, List.getElem_mem _, hp⟩)))) (h.each j hlt (by omega) (by omega))
    · have e1 : j = ts.length := by simp at hj; omega
      subst e1
      have k1 : (ts ++ [t])[ts.length] = t := List.getElem_concat_length rfl _
      have k2 : (es ++ [e])[ts.length] = e := List.getElem_concat_length l1.symm _
      have k3 : (rss ++ [rws])[ts.length] = rws := List.getElem_concat_length l2.symm _
      rw [k1, k2, k3]
      exact TyO.mono hl _ _ _ _ (TyO.on _ _ _ _ (fun p hp => keep p (List.mem_append.2 (.inr hp))) he)
  · rw [hfl]
    exact ⟨fun p hp => by
      obtain ⟨g, e1, e2, e3⟩ := hSep.1 p hp
      exact ⟨g, e1, e2, by omega⟩, hSep.2⟩
  · rw [hfl]
    intro p hp e0
    obtain ⟨g, e1, e2, e3⟩ := hlt p hp
    rcases hv' with hv' | ⟨g', hv', hge⟩
    · exact e3 (e0.trans hv')
    · rw [e1, hv'] at e0
      have := Option.some.inj e0
      omega
/-- The tree whose arguments are such a row. -/
theorem RowO.tree {w : World} {lo d : Nat} {v : Value} {es : List El} {ts : List (Tn d)} {rss : List (List (Value × Nat))} (h : RowO w lo d v es ts rss) (h0 : ts ≠ []) (k : Int) (n : List UInt8) (hn : n.length < 140737488355328) (hl : ts.length < 140737488355328) :
    TyO w lo (d + 1) (.agg #[.int .i64 k, .string ⟨n.toArray⟩, v]) ((k, n), ts) ((v, ts.length) :: rss.flatten) ∧ SepB lo w.heap.size ((v, ts.length) :: rss.flatten) := by
  refine ⟨⟨v, rfl, hn, hl, .inr ⟨h0, es, rss, h.len, h.rlen, by show w.ownsRow lo 31 3 v ts.length _; rw [← h.len]; exact h.own, rfl, fun j a b c => h.each j a b c⟩⟩, ?_⟩
  have hpos : 0 < es.length := by rw [h.len]; exact List.length_pos_iff.2 h0
  obtain ⟨g, cap, hv, hg, hlt⟩ := h.own.form hpos
  have hvb : v.ownBlock = some g := by rw [hv]; rfl
  refine ⟨fun p hp => ?_, ?_⟩
  · rcases List.mem_cons.1 hp with rfl | hp
    · exact ⟨g, hvb, hg, hlt⟩
    · exact h.sep.1 p hp
  · rw [List.map_cons, List.nodup_cons]
    refine ⟨fun hm => ?_, h.sep.2⟩
    obtain ⟨p, hp, e⟩ := List.mem_map.1 hm
    exact h.away p hp e
end Go.Proofs.Ytikpipenhamdbaa

namespace Go.Proofs.Ytikpipenhamdbaa
open Go.RowKit

/-- What part answers. -/
def PartPost (w : World) (q : Nat) (l : List UInt8) (m : Nat) (r : Ending) (w' : World) : Prop :=
  ∃ (k : Int) (n : ByteArray) (ad : Option Addr) (len cap : Nat) (t : Tn m) (rws : List (Value × Nat)) (l' : List UInt8), r = .returned (.agg #[.int .i64 k, .string n, .slice ad len cap]) ∧ RdS w w' q l' ∧ PartOk l m t l' ∧
    l'.length + (flat m t).length ≤ l.length + 1 ∧ l'.length ≤ l.length ∧ TyO w' w.heap.size m (.agg #[.int .i64 k, .string n, .slice ad len cap]) t rws ∧ SepB w.heap.size w'.heap.size rws
def Parts (m : Nat) : Prop := ∀ (l : List UInt8) (q : Nat) (w : World), RdAt w q l → l.length < m → l.length ≤ 65536 → Calls Try.prog 27 #[.pointer (some ⟨q, 0, none⟩)] w (PartPost w q l m)
/-- What args answers. -/
def ArgsPost (w : World) (q : Nat) (l : List UInt8) (m : Nat) (r : Ending) (w' : World) : Prop :=
  ∃ (ad : Option Addr) (cap : Nat) (es : List El) (ts : List (Tn m)) (rss : List (List (Value × Nat))) (l' : List UInt8), r = .returned (.slice ad ts.length cap) ∧ RdS w w' q l' ∧ ArgsOk l m ts l' ∧ begB [32] l' = false ∧
    l'.length + (flats m ts).length ≤ l.length ∧ RowO w' w.heap.size m (.slice ad ts.length cap) es ts rss
theorem flats_pos (m : Nat) (ts : List (Tn m)) : ts.length ≤ (flats m ts).length := by
  induction ts with
  | nil => simp
  | cons t ts ih =>
    rw [flats_cons, List.length_append, List.length_cons]
    have := flat_pos m t
    omega
theorem flats_app (m : Nat) (a b : List (Tn m)) : flats m (a ++ b) = flats m a ++ flats m b := by simp [flats]
theorem RdS.trans {w w1 w2 : World} {q : Nat} {l1 l2 : List UInt8} (h1 : RdS w w1 q l1) (h2 : RdS w1 w2 q l2) : RdS w w2 q l2 :=
  ⟨⟨h2.grow.os.trans h1.grow.os, h2.grow.tape.trans h1.grow.tape, h2.grow.output.trans h1.grow.output, Nat.le_trans h1.grow.size h2.grow.size, fun k hk hne => (h2.grow.block k (Nat.lt_of_lt_of_le hk h1.grow.size) hne).trans (h1.grow.block k hk hne)⟩, h2.at'⟩
/-- Between the rounds of args. -/
structure ArW (w : World) (q : Nat) (l : List UInt8) (m : Nat) (wr : World) (v : Value) (es : List El) (ts : List (Tn m)) (rss : List (List (Value × Nat))) (c : List UInt8) : Prop where
  rd : RdS w wr q c
  ok : ArgsOk l m ts c
  num : c.length + (flats m ts).length ≤ l.length
  row : RowO wr w.heap.size m v es ts rss
  qlt : q < w.heap.size
/-- The row and the reader behind a skip. -/
theorem ArW.skip {w : World} {q : Nat} {l : List UInt8} {m : Nat} {wr w1 : World} {v : Value} {es : List El} {ts : List (Tn m)} {rss : List (List (Value × Nat))} {c c' : List UInt8} (h : ArW w q l m wr v es ts rss c) (h1 : RdS wr w1 q c') : RdS w w1 q c' ∧ RowO w1 w.heap.size m v es ts rss :=
  ⟨h.rd.trans h1, h.row.on h1.grow.size fun g hg hlt => h1.grow.block g hlt (by intro e; have := Option.some.inj e; have := h.qlt; omega)⟩
theorem row_form {w : World} {lo d : Nat} {v : Value} {es : List El} {ts : List (Tn d)} {rss : List (List (Value × Nat))} (h : RowO w lo d v es ts rss) : ∃ ad cap, v = .slice ad ts.length cap := by
  rcases h.own.2 with ⟨h0, h1⟩ | ⟨g, cap, _, h1, _⟩
  · exact ⟨none, 0, by rw [h0, ← h.len, h1]⟩
  · exact ⟨_, cap, by rw [h1, h.len]⟩
set_option maxHeartbeats 16000000 in
set_option maxRecDepth 10000 in
theorem args_any (m : Nat) (IH : Parts m) (l : List UInt8) (q : Nat) (w : World) (h : RdAt w q l) (hl : l.length ≤ m) (h6 : l.length ≤ 65536) : Calls Try.prog 45 #[.pointer (some ⟨q, 0, none⟩)] w (ArgsPost w q l m) := by
  have hq := lt_of_heap h
  have H0 : Hid (ArW w q l m w (.slice none 0 0) [] [] [] l) := ⟨⟨⟨rfl, rfl, rfl, Nat.le_refl _, fun _ _ _ => rfl⟩, h⟩, ArgsOk.nil l m, by simp [flats], RowO.nil _ _ _, hq⟩
  have HIH : Hid (Parts m) := IH
  clear IH h hq
  obtain ⟨i0, hi, hz0, hz1, hz2⟩ := info_parts Try.info31
  go_enter Try.func45, Try.ntmps45
  go_wp2
  go_loopg [3] l.length (fun g v wr => ∃ (es : List El) (ts : List (Tn m)) (rss : List (List (Value × Nat))) (c : List UInt8), c.length ≤ g ∧ ArW w q l m wr v es ts rss c)
  case atStart => exact ⟨[], [], [], l, Nat.le_refl _, H0.out⟩
  case round =>
    obtain ⟨es, ts, rss, c, hcg, hA⟩ := hrel
    obtain ⟨ad, cap, rfl⟩ := row_form hA.row
    have HA : Hid (ArW w q l m wr (.slice ad ts.length cap) es ts rss c) := hA
    have C1 := skip_any c [32] q wr hA.rd.at'
    have hnum := hA.num
    clear H0 hA
    cases hb : begB [32] c with
    | false =>
      rw [hb] at C1
      have C1 : Calls Try.prog 43 #[.pointer (some ⟨q, 0, none⟩), .string ⟨#[32]⟩] wr fun e w' => e = .returned (.bool false) ∧ w'.heap.size = wr.heap.size ∧ RdS wr w' q c := C1
      clear hi hz0 hz1 hz2
      go_wp2_with (go_at_call 43; (with_reducible refine Calls.mono C1 ?_); rintro e' w1 ⟨rfl, hs1, hr1⟩)
      go_ret
      obtain ⟨k1, k2⟩ := HA.out.skip hr1
      exact ⟨ad, cap, es, ts, rss, c, rfl, k1, HA.out.ok, hb, HA.out.num, k2⟩
    | true =>
      obtain ⟨c2, rfl⟩ := beg_one hb
      rw [hb] at C1
      have C1 : Calls Try.prog 43 #[.pointer (some ⟨q, 0, none⟩), .string ⟨#[32]⟩] wr fun e w' => e = .returned (.bool true) ∧ w'.heap.size = wr.heap.size ∧ RdS wr w' q c2 := C1
      rw [List.length_cons] at hnum hcg
      have hfp := flats_pos m ts
      have CP : ∀ w1, RdS wr w1 q c2 → Calls Try.prog 27 #[.pointer (some ⟨q, 0, none⟩)] w1 (PartPost w1 q c2 m) := fun w1 h1 => HIH.out c2 q w1 h1.at' (by omega) (by omega)
      have HX : Hid (∀ w1 w2 l', RdS wr w1 q c2 → RdS w1 w2 q l' → RdS w w2 q l' ∧ RowO w2 w.heap.size m (.slice ad ts.length cap) es ts rss ∧ RowO w1 w.heap.size m (.slice ad ts.length cap) es ts rss ∧ w.heap.size ≤ w1.heap.size ∧ w1.heap.size ≤ w2.heap.size) := fun w1 w2 l' h1 h2 => ⟨(HA.out.skip (h1.trans h2)).1, (HA.out.skip (h1.trans h2)).2, (HA.out.skip h1).2, (HA.out.skip h1).1.grow.size, h2.grow.size⟩
      have hel : es.length = ts.length := HA.out.row.len
      have hts : ts.length ≤ 65536 := by omega
      go_wp2_with (first
        | (go_at_call 43; (with_reducible refine Calls.mono C1 ?_); rintro e' w1 ⟨rfl, hs1, hr1⟩)
        | (go_at_call 27; (with_reducible refine Calls.mono (CP w1 hr1) ?_); intro e' w2 hp; obtain ⟨k2, n2, ad2, len2, cap2, t2, rws2, l2, rfl, hr2, hok2, hn2, hle2, hT2, hS2⟩ := hp; obtain ⟨rd2, row2, row1, hz1w, hz12⟩ := HX.out _ _ _ hr1 hr2; have own2 : w2.ownsRow w.heap.size 31 3 (.slice ad ts.length cap) ts.length (es.flatMap elCells) := by have h := row2.own; rw [hel] at h; exact h)
        | (at_builtin; refine wpList_append_lies _ rfl _ _ 29 rfl w.heap.size 31 i0 _ 3 48 Try.underlying29 hi hz0 hz1 hz2 rfl (by decide) (.slice ad ts.length cap) ts.length (es.flatMap elCells) rfl (own2.alloc _) ⟨w2.heap.size, 0, none⟩ 1 1 [.int .i64 k2, .string n2, .slice ad2 len2 cap2] rfl rfl (World.news_of_block (cs := #[.int .i64 k2, .string n2, .slice ad2 len2 cap2]) (t := 31) (fr := (0, 0)) (heap_alloc_new w2 _)) (by simp [Value.oneCell']) (by omega) (by unfold maxLen; omega) (by omega) (by simp; omega) (w2.heap.size + 1) (by simp) ?_; intro g cap3 w3 hown3 hgrow hat hlt3))
      have HN : Hid (ArW w q l m w3 (.slice (some ⟨g, 0, none⟩) (ts.length + 1) cap3) (es ++ [(k2, n2, .slice ad2 len2 cap2)]) (ts ++ [t2]) (rss ++ [rws2]) l2) := by
        have hA := HA.out
        have hbl : ∀ k, k < w2.heap.size → some k ≠ (Value.slice ad ts.length cap).ownBlock → w3.heap[k]? = w2.heap[k]? := fun k hk hne => by
          rw [hgrow.block k (by simp; omega) hne]
          exact Below.heap_alloc _ _ _ hk
        have hsz3 : w2.heap.size ≤ w3.heap.size := by have := hgrow.size; simp at this; omega
        have hqn : ∀ k, (Value.slice ad ts.length cap).ownBlock = some k → w.heap.size ≤ k ∧ k < w1.heap.size := fun k hk => row1.own.lt k hk
        refine ⟨⟨⟨hgrow.os.trans rd2.grow.os, hgrow.tape.trans rd2.grow.tape, hgrow.output.trans rd2.grow.output, Nat.le_trans rd2.grow.size hsz3, fun k hk hne => ?_⟩, ?_⟩, hA.ok.snoc hok2, ?_, ?_, hA.qlt⟩
        · rw [hbl k (Nat.lt_of_lt_of_le hk rd2.grow.size) (fun e => by have := hqn k e.symm; omega), rd2.grow.block k hk hne]
        · show w3.heap[q]? = _
          rw [hbl q (lt_of_heap rd2.at') (fun e => by have := hqn q e.symm; have := hA.qlt; omega)]
          exact rd2.at'
        · rw [flats_app, List.length_append, flats_cons, flats_nil, List.append_nil]
          omega
        · refine row2.snoc hz1w hT2 hS2 hz12 ⟨fun p hp => ?_, row2.sep.2⟩ (fun k hk => (hqn k hk).2) ?_ hsz3 hbl ?_
          · obtain ⟨g', e1, e2, e3⟩ := row1.sep.1 p hp
            exact ⟨g', e1, e2, e3⟩
          · rw [hel]
            exact hown3
          · rcases hat with hat | hat
            · exact .inl hat.symm
            · exact .inr ⟨g, rfl, by omega⟩
      clear hown3 hgrow hat hlt3 own2 row1 row2 rd2 hT2 hS2 hok2 hr1 hr2 HX CP C1 HA HIH
      go_roundg l2.length
      case measure => omega
      case rel => exact ⟨_, ts ++ [t2], _, l2, Nat.le_refl _, by simpa using HN.out⟩
end Go.Proofs.Ytikpipenhamdbaa

namespace Go.Proofs.Ytikpipenhamdbaa
open Go.RowKit

/-- A bound in cells: its name, its type's parts. -/
abbrev Bl4 := List UInt8 × El
def bCells (e : Bl4) : List Value := .string ⟨e.1.toArray⟩ :: elCells e.2
theorem bCells_get (es : List Bl4) (j i : Nat) (hj : j < es.length) (hi : i < 4) : (es.flatMap bCells)[j * 4 + i]? = (bCells es[j])[i]? := by
  induction es generalizing j with
  | nil => simp at hj
  | cons t r ih =>
    rw [List.flatMap_cons]
    have hl : (bCells t).length = 4 := rfl
    cases j with
    | zero =>
      rw [List.getElem?_append_left (by omega), Nat.zero_mul, Nat.zero_add]
      rfl
    | succ j =>
      rw [List.getElem?_append_right (by omega), hl, show (j + 1) * 4 + i - 4 = j * 4 + i by omega, ih j (by simpa using hj)]
      rfl
/-- A row of bounds that is made one by one, and what lies in it: each type's lists lie in blocks of their own. -/
structure RowB (w : World) (lo : Nat) (v : Value) (es : List Bl4) (bs : List Bd) (rss : List (List (Value × Nat))) : Prop where
  own : w.ownsRow lo 46 4 v es.length (es.flatMap bCells)
  len : es.length = bs.length
  rlen : rss.length = bs.length
  name : ∀ j (h : j < bs.length) (h1 : j < es.length), es[j].1 = bs[j].1 ∧ bs[j].1.length < 140737488355328
  each : ∀ j (h : j < bs.length) (h1 : j < es.length) (h2 : j < rss.length), TyO w lo bs[j].2.1 (elV es[j].2) bs[j].2.2 rss[j]
  sep : SepB lo w.heap.size rss.flatten
  away : ∀ p ∈ rss.flatten, p.1.ownBlock ≠ v.ownBlock
theorem RowB.nil (w : World) (lo : Nat) : RowB w lo (.slice none 0 0) [] [] [] := ⟨World.ownsRow_nil _ _ _ _, rfl, rfl, fun j h => by simp at h, fun j h => by simp at h, ⟨fun p hp => by simp at hp, by simp⟩, fun p hp => by simp at hp⟩
theorem RowB.on {w w' : World} {lo : Nat} {v : Value} {es : List Bl4} {bs : List Bd} {rss : List (List (Value × Nat))} (h : RowB w lo v es bs rss) (hs : w.heap.size ≤ w'.heap.size) (hb : ∀ g, lo ≤ g → g < w.heap.size → w'.heap[g]? = w.heap[g]?) : RowB w' lo v es bs rss := by
  refine ⟨own_keep h.own fun k hk => hb k (h.own.lt k hk).1 (h.own.lt k hk).2, h.len, h.rlen, h.name, fun j a b c => TyO.on _ _ _ _ (fun p hp g hg => ?_) (h.each j a b c), ⟨fun p hp => ?_, h.sep.2⟩, h.away⟩
  · obtain ⟨g', e, h1, h2⟩ := h.sep.1 p (List.mem_flatten.2 ⟨_, List.getElem_mem c, hp⟩)
    rw [hg] at e
    have := Option.some.inj e
    exact hb g (by omega) (by omega)
  · obtain ⟨g', e, h1, h2⟩ := h.sep.1 p hp
    exact ⟨g', e, h1, by omega⟩
/-- One more. -/
theorem RowB.snoc {w w' : World} {lo lo' : Nat} {v v' : Value} {es : List Bl4} {bs : List Bd} {rss : List (List (Value × Nat))} {e : Bl4} {t : Bd} {rws : List (Value × Nat)} (h : RowB w lo v es bs rss) (hl : lo ≤ lo') (he : TyO w lo' t.2.1 (elV e.2) t.2.2 rws) (hnm : e.1 = t.1 ∧ t.1.length < 140737488355328) (hS : SepB lo' w.heap.size rws) (hlw : lo' ≤ w.heap.size) (hA : SepB lo lo' rss.flatten) (hv : ∀ k, v.ownBlock = some k → k < lo')
    (hown : w'.ownsRow lo 46 4 v' (es.length + 1) (es.flatMap bCells ++ bCells e)) (hs : w.heap.size ≤ w'.heap.size) (hg : ∀ k, k < w.heap.size → some k ≠ v.ownBlock → w'.heap[k]? = w.heap[k]?) (hv' : v'.ownBlock = v.ownBlock ∨ ∃ g, v'.ownBlock = some g ∧ w.heap.size ≤ g) : RowB w' lo v' (es ++ [e]) (bs ++ [t]) (rss ++ [rws]) := by
  have hfl : (rss ++ [rws]).flatten = rss.flatten ++ rws := by simp
  have hSep : SepB lo w.heap.size (rss.flatten ++ rws) := hA.append hS hl (Nat.le_refl _) hlw
  have hlt : ∀ p ∈ rss.flatten ++ rws, ∃ g, p.1.ownBlock = some g ∧ g < w.heap.size ∧ p.1.ownBlock ≠ v.ownBlock := fun p hp => by
    obtain ⟨g, e1, _, e2⟩ := hSep.1 p hp
    refine ⟨g, e1, e2, ?_⟩
    rcases List.mem_append.1 hp with hp | hp
    · exact h.away p hp
    · obtain ⟨g', e3, e4, _⟩ := hS.1 p hp
      intro e5
      have := hv g' (by rw [← e5, e3])
      omega
  have keep : ∀ p ∈ rss.flatten ++ rws, ∀ g, p.1.ownBlock = some g → w'.heap[g]? = w.heap[g]? := fun p hp g hpg => by
    obtain ⟨g', e1, e2, e3⟩ := hlt p hp
    rw [hpg] at e1
    have e1 := Option.some.inj e1
    exact hg g (by omega) (by rw [← hpg]; exact e3)
  refine ⟨by simpa using hown, by simp [h.len], by simp [h.rlen], fun j hj hj1 => ?_, fun j hj hj1 hj2 => ?_, ?_, ?_⟩
  · have l1 := h.len
    by_cases hlt : j < bs.length
    · rw [List.getElem_append_left hlt, List.getElem_append_left (by omega)]
      exact h.name j hlt (by omega)
    · have e1 : j = bs.length := by simp at hj; omega
      subst e1
      rw [List.getElem_concat_length rfl, List.getElem_concat_length l1.symm]
      exact hnm
  · have l1 := h.len
    have l2 := h.rlen
    by_cases hlt : j < bs.length
    · rw [List.getElem_append_left hlt, List.getElem_append_left (by omega), List.getElem_append_left (by omega)]
      exact TyO.on _ _ _ _ (fun p hp => keep p (List.mem_append.2 (.inl (List.mem_flatten.2 ⟨_, List.getElem_mem _, hp⟩)))) (h.each j hlt (by omega) (by omega))
    · have e1 : j = bs.length := by simp at hj; omega
      subst e1
      have k1 : (bs ++ [t])[bs.length] = t := List.getElem_concat_length rfl _
      have k2 : (es ++ [e])[bs.length] = e := List.getElem_concat_length l1.symm _
      have k3 : (rss ++ [rws])[bs.length] = rws := List.getElem_concat_length l2.symm _
      rw [k1, k2, k3]
      exact TyO.mono hl _ _ _ _ (TyO.on _ _ _ _ (fun p hp => keep p (List.mem_append.2 (.inr hp))) he)
  · rw [hfl]
    exact ⟨fun p hp => by
      obtain ⟨g, e1, e2, e3⟩ := hSep.1 p hp
      exact ⟨g, e1, e2, by omega⟩, hSep.2⟩
  · rw [hfl]
    intro p hp e0
    obtain ⟨g, e1, e2, e3⟩ := hlt p hp
    rcases hv' with hv' | ⟨g', hv', hge⟩
    · exact e3 (e0.trans hv')
    · rw [e1, hv'] at e0
      have := Option.some.inj e0
      omega
/-- What can be read of it. -/
theorem RowB.at {w : World} {lo : Nat} {v : Value} {es : List Bl4} {bs : List Bd} {rss : List (List (Value × Nat))} (h : RowB w lo v es bs rss) (hn : bs.length < 140737488355328) : BdAt w w.heap.size v bs := by
  have hl := h.len
  have hr := h.rlen
  rcases id h.own.2 with ⟨hv, h0⟩ | ⟨g, cap, cur, hv, hg, hh, hcap, _⟩
  · have e0 : bs = [] := List.length_eq_zero_iff.1 (by omega)
    subst e0
    exact ⟨none, 0, hv, by simp, fun h => absurd rfl h⟩
  · refine ⟨_, cap, by rw [hv, hl], hn, fun _ => ⟨g, 0, rfl, by omega, lt_of_heap hh, fun j hj => ?_⟩⟩
    obtain ⟨k, n, ad, len, cp, e0⟩ := elV_own (h.each j hj (by omega) (by omega))
    have e1 : es[j].2 = (k, n, .slice ad len cp) := by
      simp only [Value.agg.injEq, Array.mk.injEq, List.cons.injEq, Value.int.injEq, Value.string.injEq, true_and, and_true] at e0
      obtain ⟨a1, a2, a3⟩ := e0
      exact Prod.ext a1 (Prod.ext a2 a3)
    have hc : ∀ i, i < 4 → ∀ u, (bCells es[j])[i]? = some u → w.cell? ⟨g, 0 + j * 4 + i, none⟩ = some u := by
      intro i hi u hu
      have := h.own.cells (g := g) (by rw [hv]; rfl) (j * 4 + i) u (by rw [bCells_get es j i (by omega) hi]; exact hu)
      rw [Nat.zero_add]
      rw [show (⟨g, 0, none⟩ : Addr).add (j * 4 + i) = ⟨g, j * 4 + i, none⟩ from by unfold Addr.add; split <;> simp_all] at this
      exact this
    have hb4 : bCells es[j] = [.string ⟨bs[j].1.toArray⟩, .int .i64 k, .string n, .slice ad len cp] := by
      rw [bCells, (h.name j hj (by omega)).1, e1]
      rfl
    rw [hb4] at hc
    have hglt := lt_of_heap hh
    refine ⟨(h.name j hj (by omega)).2, k, n, ad, len, cp, fun w' hb => ⟨(hb.cell (p := ⟨g, 0 + j * 4, none⟩) hglt).trans (hc 0 (by omega) _ rfl), (hb.cell (p := ⟨g, 0 + j * 4 + 1, none⟩) hglt).trans (hc 1 (by omega) _ rfl), (hb.cell (p := ⟨g, 0 + j * 4 + 2, none⟩) hglt).trans (hc 2 (by omega) _ rfl), (hb.cell (p := ⟨g, 0 + j * 4 + 3, none⟩) hglt).trans (hc 3 (by omega) _ rfl)⟩, ?_⟩
    have hT := h.each j hj (by omega) (by omega)
    rw [e1] at hT
    exact TyO.at _ _ _ _ (fun p hp g' hg' => h.sep.lt (Nat.le_refl _) p (List.mem_flatten.2 ⟨_, List.getElem_mem _, hp⟩) g' hg') hT
end Go.Proofs.Ytikpipenhamdbaa

namespace Go.Proofs.Ytikpipenhamdbaa
open Go.RowKit

theorem add_zero_addr (g i : Nat) : (⟨g, 0, none⟩ : Addr).add i = ⟨g, i, none⟩ := by
  unfold Addr.add
  split
  · rename_i h0; rw [h0]
  · simp
theorem own_move {w w' : World} {lo e size n : Nat} {v : Value} {xs : List Value} (h : w.ownsRow lo e size v n xs) (hb : ∀ k, v.ownBlock = some k → w'.heap[k]? = w.heap[k]?) : w'.ownsRow lo e size v n xs := by
  obtain ⟨h1, h2⟩ := h
  refine ⟨h1, ?_⟩
  rcases h2 with h2 | ⟨g, cap, cur, hv, hg, hh, r⟩
  · exact .inl h2
  · refine .inr ⟨g, cap, cur, hv, hg, ?_, r⟩
    rw [hb g (by rw [hv]; rfl)]
    exact hh
theorem flats_take {d : Nat} : ∀ (ts : List (Tn d)) (j : Nat) (h : j < ts.length), (flats d (ts.take j)).length + (flat d ts[j]).length ≤ (flats d ts).length
  | [], _, h => by simp at h
  | t :: ts, 0, _ => by rw [flats_cons, List.length_append]; simp [flats_nil]
  | t :: ts, j + 1, h => by
    have hj : j < ts.length := by simpa using h
    have := flats_take ts j hj
    rw [List.take_succ_cons, flats_cons, flats_cons, List.length_append, List.length_append]
    show _ + (flat d ts[j]).length ≤ _
    omega
theorem take_next {α : Type} : ∀ (l : List α) (j : Nat) (h : j < l.length), l.take (j + 1) = l.take j ++ [l[j]]
  | [], _, h => by simp at h
  | a :: r, 0, _ => by simp
  | a :: r, j + 1, h => by
    have hj : j < r.length := by simpa using h
    rw [List.take_succ_cons, take_next r j hj]
    rfl
theorem below_grown {w w' : World} (h : Below w.heap.size w w') (row : Option Nat) : w.grownBy w' row := ⟨h.os, h.tape, h.output, h.size, fun k hk _ => h.block k hk⟩
theorem Try.infoB47 : (Try.prog.info? 46).map (fun i => (i.zero, i.size, i.bytes)) = some (some (.agg #[.string ⟨#[]⟩, .int .i64 0, .string ⟨#[]⟩, .slice none 0 0]), 4, 64) := by kernel_rfl
theorem grown_below {w w' : World} {B : Nat} {row : Option Nat} (h : w.grownBy w' row) (hB : B ≤ w.heap.size) (hr : ∀ g, row = some g → B ≤ g) : Below B w w' := ⟨h.os, h.tape, h.output, h.size, fun k hk => h.block k (by omega) fun e => by have := hr k e.symm; omega⟩
end Go.Proofs.Ytikpipenhamdbaa

namespace Go.Proofs.Ytikpipenhamdbaa
open Go.RowKit

set_option maxHeartbeats 8000000 in
set_option maxRecDepth 10000 in
theorem nodesOf_any : ∀ (d : Nat) (x : Value) (t : Tn d) (w : World) (B : Nat), B ≤ w.heap.size → TyAt w B d x t → (flat d t).length ≤ 4194304 →
    Calls Try.prog 38 #[x] w fun r w' => r = .returned (.int .i64 (flat d t).length) ∧ Below w.heap.size w w'
  | 0, _, _, _, _, _, h, _ => h.elim
  | d + 1, x, ((k, n), ts), w, B, hB, ⟨v, hx, _, h2, hr⟩, hl => by
    have IH := fun (x : Value) (t : Tn d) (W : World) => nodesOf_any d x t W B
    simp only at hx h2 hr
    subst hx
    obtain ⟨ad, cap, hv, hcl⟩ := hr.cells
    subst hv
    have hfl : (flat (d + 1) ((k, n), ts)).length = (flats d ts).length + 1 := by rw [flat_succ, List.length_cons]
    rw [hfl] at hl ⊢
    have HCL : Hid (ts ≠ [] → ∃ g o, ad = some ⟨g, o, none⟩ ∧ ts.length ≤ cap ∧ g < B ∧ ∀ j (h : j < ts.length), ∃ k n ad' len' cap', (∀ w', Below B w w' → w'.cell? ⟨g, o + j * 3, none⟩ = some (.int .i64 k) ∧ w'.cell? ⟨g, o + j * 3 + 1, none⟩ = some (.string n) ∧ w'.cell? ⟨g, o + j * 3 + 2, none⟩ = some (.slice ad' len' cap')) ∧ TyAt w B d (.agg #[.int .i64 k, .string n, .slice ad' len' cap']) ts[j]) := hcl
    have HIH : Hid (∀ (x : Value) (t : Tn d) (W : World), B ≤ W.heap.size → TyAt W B d x t → (flat d t).length ≤ 4194304 → Calls Try.prog 38 #[x] W fun r w' => r = .returned (.int .i64 (flat d t).length) ∧ Below W.heap.size W w') := IH
    have H0 : Hid (Below w.heap.size w (w.alloc (Obj.cells #[.int .i64 k, .string ⟨n.toArray⟩, .slice ad ts.length cap] 31))) := (Below.refl _ _).alloc (Nat.le_refl _) _
    have HL : Hid ((flats d ts).length + 1 ≤ 4194304) := hl
    clear hcl IH hr hfl hl
    go_enter Try.func38, Try.ntmps38
    go_wp2
    go_loopw [3, 9] (fun c i wr => ∃ j : Nat, j ≤ ts.length ∧ i = .int .i64 j ∧ c = .int .i64 (((flats d (ts.take j)).length + 1 : Nat)) ∧ Hid (Below w.heap.size w wr)) (fun _ i _ => ts.length - (intOf i).toNat)
    case atStart => exact ⟨0, by omega, by go_num, by simp [flats], H0.out⟩
    case round =>
      obtain ⟨j, hj, rfl, rfl, HP⟩ := hrel
      by_cases hlt : j < ts.length
      · have hlt' : (j : Int) < (ts.length : Int) := by omega
        obtain ⟨g0, o0, hadr, hcapt, hgB, hel⟩ := HCL.out (by intro e; rw [e] at hlt; simp at hlt)
        subst hadr
        obtain ⟨k1, n1, ad1, l1, cp1, hcel, T1⟩ := hel j hlt
        have hbw := HP.out
        obtain ⟨p0, p1, p2⟩ := hcel wr (hbw.mono hB)
        have hbU : Below wr.heap.size wr (wr.alloc (Obj.cells #[.int .i64 k1, .string n1, .slice ad1 l1 cp1] 31)) := (Below.refl _ _).alloc (Nat.le_refl _) _
        have hb2 := hbw.trans (hbU.mono hbw.size)
        have ht := flats_take ts j hlt
        have hle : (flat d ts[j]).length ≤ 4194304 := by have := HL.out; omega
        have CJ := HIH.out _ ts[j] _ (Nat.le_trans hB hb2.size) (T1.on (hb2.mono hB)) hle
        have hsum : (flats d (ts.take (j + 1))).length + 1 = ((flats d (ts.take j)).length + 1) + (flat d ts[j]).length := by
          rw [List.take_succ_eq_append_getElem hlt, flats_app, List.length_append, flats_cons, flats_nil, List.append_nil]
          omega
        have hbd : ((flats d (ts.take j)).length + 1) + (flat d ts[j]).length ≤ 4194304 := by have := HL.out; omega
        have HB2 : Hid (Below w.heap.size w (wr.alloc (Obj.cells #[.int .i64 k1, .string n1, .slice ad1 l1 cp1] 31))) := hb2
        have HSUM : Hid ((flats d (ts.take (j + 1))).length + 1 = ((flats d (ts.take j)).length + 1) + (flat d ts[j]).length) := hsum
        generalize (flats d (ts.take j)).length + 1 = c0 at *
        generalize (flat d ts[j]).length = c1 at *
        clear hel hcel T1 HP hbw hbU hb2 HCL HIH H0 HL ht hsum hle
        go_wp2_with (go_at_call 38; (with_reducible refine Calls.mono CJ ?_); rintro e' w2 ⟨rfl, hb3⟩)
        go_roundw
        case rel => exact ⟨j + 1, by omega, by go_num, by rw [HSUM.out]; simp, HB2.out.trans (hb3.mono HB2.out.size)⟩
        case measure => simp [intOf]; omega
      · have h1 : ¬ (j : Int) < (ts.length : Int) := by omega
        have HE : Hid (ts.take j = ts) := List.take_of_length_le (by omega)
        have HF := HP
        clear HCL HIH H0 HP
        go_wp2
        go_ret
        exact ⟨by rw [HE.out]; rfl, HF.out⟩
end Go.Proofs.Ytikpipenhamdbaa
