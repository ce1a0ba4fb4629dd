/- Rows of types that are their owner's, made one by one. The program's reader: the contract of args, if part reads as it should. The program's reader: the contract of part. Read answers as the document says, and what it answers is its owner's. Rows of bounds that are their owner's, made one by one. Small facts on rows. -/
import Derived.Test.YtikpipenhamdbaaGreatMafx
import Derived.Test.YtikpipenhamdbaaGreatMahx
import Derived.Test.YtikpipenhamdbaaGreatMadx
namespace Go.Proofs.YtikpipenhamdbaaGreat
open Go.RowKit

theorem TyO.mono {w : World} {lo lo' : Nat} (hl : lo ≤ lo') : ∀ (d : Nat) (x : Value) (t : Tn d) (rws : List (Value × Nat)), TyO w lo' d x t rws → TyO w lo d x t rws
 | 0, _, _, _, h => h
 | d + 1, x, t, rws, ⟨v, hx, h1, h2, h⟩ => by
  refine ⟨v, hx, h1, h2, ?_⟩
  rcases h with h | ⟨h0, es, rss, k1, k2, hown, hr, hj⟩
  ·exact .inl h
  ·exact .inr ⟨h0, es, rss, k1, k2, hown.mono hl, hr, fun j a b c => TyO.mono hl d _ _ _ (hj j a b c)⟩
/-- A row that is made one by one, and what lies in it: each element's lists lie in blocks of their own. -/
structure RowO (w : World) (lo d : Nat) (v : Value) (es : List El) (ts : List (Tn d)) (rss : List (List (Value × Nat))) : Prop where
 own : w.ownsRow lo 29 3 v es.length (es.flatMap elCells)
 len : es.length = ts.length
 rlen : rss.length = ts.length
 each : ∀ j (h : j < ts.length) (h1 : j < es.length) (h2 : j < rss.length), TyO w lo d (elV es[j]) ts[j] rss[j]
 sep : SepB lo w.heap.size rss.flatten
 away : ∀ p ∈ rss.flatten, p.1.ownBlock ≠ v.ownBlock
theorem RowO.nil (w : World) (lo d : Nat) : RowO w lo d (.slice none 0 0) [] [] [] := ⟨World.ownsRow_nil _ _ _ _, rfl, rfl, fun j h => by simp at h, ⟨fun p hp => by simp at hp, by simp⟩, fun p hp => by simp at hp⟩
theorem RowO.on {w w' : World} {lo d : Nat} {v : Value} {es : List El} {ts : List (Tn d)} {rss : List (List (Value × Nat))} (h : RowO w lo d v es ts rss) (hs : w.heap.size ≤ w'.heap.size) (hb : ∀ g, lo ≤ g → g < w.heap.size → w'.heap[g]? = w.heap[g]?) : RowO w' lo d v es ts rss := by
 refine ⟨own_keep h.own fun k hk => hb k (h.own.lt k hk).1 (h.own.lt k hk).2, h.len, h.rlen, fun j a b c => TyO.on _ _ _ _ (fun p hp g hg => ?_) (h.each j a b c), ⟨fun p hp => ?_, h.sep.2⟩, h.away⟩
 ·obtain ⟨g', e, h1, h2⟩ := h.sep.1 p (List.mem_flatten.2 ⟨_, List.getElem_mem c, hp⟩)
  rw [hg] at e
  have := Option.some.inj e
  exact hb g (by omega) (by omega)
 ·obtain ⟨g', e, h1, h2⟩ := h.sep.1 p hp
  exact ⟨g', e, h1, by omega⟩
theorem elV_own {w : World} {lo d : Nat} {x : Value} {t : Tn d} {rws : List (Value × Nat)} (h : TyO w lo d x t rws) : ∃ k n ad len cap, x = .agg #[.int .i64 k, .string n, .slice ad len cap] := by
 cases d with
 | zero => exact h.elim
 | succ d =>
  obtain ⟨v, hx, _, _, h⟩ := h
  rcases h with ⟨_, ⟨ad, cap, rfl⟩, _⟩ | ⟨_, es, rss, k1, k2, hown, _⟩
  ·exact ⟨_, _, ad, 0, cap, hx⟩
  ·rcases hown.2 with ⟨rfl, h0⟩ | ⟨g, cap, _, rfl, _⟩
   ·exact ⟨_, _, _, _, _, hx⟩
   ·exact ⟨_, _, _, _, _, hx⟩
/-- One more. -/
theorem RowO.snoc {w w' : World} {lo lo' d : Nat} {v v' : Value} {es : List El} {ts : List (Tn d)} {rss : List (List (Value × Nat))} {e : El} {t : Tn d} {rws : List (Value × Nat)} (h : RowO w lo d v es ts rss) (hl : lo ≤ lo') (he : TyO w lo' d (elV e) t rws) (hS : SepB lo' w.heap.size rws) (hlw : lo' ≤ w.heap.size) (hA : SepB lo lo' rss.flatten) (hv : ∀ k, v.ownBlock = some k → k < lo')
  (hown : w'.ownsRow lo 29 3 v' (es.length + 1) (es.flatMap elCells ++ elCells e)) (hs : w.heap.size ≤ w'.heap.size) (hg : ∀ k, k < w.heap.size → some k ≠ v.ownBlock → w'.heap[k]? = w.heap[k]?) (hv' : v'.ownBlock = v.ownBlock ∨ ∃ g, v'.ownBlock = some g ∧ w.heap.size ≤ g) : RowO w' lo d v' (es ++ [e]) (ts ++ [t]) (rss ++ [rws]) := by
 have hfl : (rss ++ [rws]).flatten = rss.flatten ++ rws := by simp
 have hSep : SepB lo w.heap.size (rss.flatten ++ rws) := hA.append hS hl (Nat.le_refl _) hlw
 have hlt : ∀ p ∈ rss.flatten ++ rws, ∃ g, p.1.ownBlock = some g ∧ g < w.heap.size ∧ p.1.ownBlock ≠ v.ownBlock := fun p hp => by
  obtain ⟨g, e1, _, e2⟩ := hSep.1 p hp
  refine ⟨g, e1, e2, ?_⟩
  rcases List.mem_append.1 hp with hp | hp
  ·exact h.away p hp
  ·obtain ⟨g', e3, e4, _⟩ := hS.1 p hp
   intro e5
   have := hv g' (by rw [← e5, e3])
   omega
 have keep : ∀ p ∈ rss.flatten ++ rws, ∀ g, p.1.ownBlock = some g → w'.heap[g]? = w.heap[g]? := fun p hp g hpg => by
  obtain ⟨g', e1, e2, e3⟩ := hlt p hp
  rw [hpg] at e1
  have e1 := Option.some.inj e1
  exact hg g (by omega) (by rw [← hpg]; exact e3)
 refine ⟨by simpa using hown, by simp [h.len], by simp [h.rlen], fun j hj hj1 hj2 => ?_, ?_, ?_⟩
 ·have l1 := h.len
  have l2 := h.rlen
  by_cases hlt : j < ts.length
  ·rw [List.getElem_append_left hlt, List.getElem_append_left (by omega), List.getElem_append_left (by omega)]
   exact TyO.on _ _ _ _ (fun p hp => keep p (List.mem_append.2 (.inl (List.mem_flatten.2 ⟨_, List.getElem_mem _, hp⟩)))) (h.each j hlt (by omega) (by omega))
  ·have e1 : j = ts.length := by simp at hj; omega
   subst e1
   have k1 : (ts ++ [t])[ts.length] = t := List.getElem_concat_length rfl _
   have k2 : (es ++ [e])[ts.length] = e := List.getElem_concat_length l1.symm _
   have k3 : (rss ++ [rws])[ts.length] = rws := List.getElem_concat_length l2.symm _
   rw [k1, k2, k3]
   exact TyO.mono hl _ _ _ _ (TyO.on _ _ _ _ (fun p hp => keep p (List.mem_append.2 (.inr hp))) he)
 ·rw [hfl]
  exact ⟨fun p hp => by
   obtain ⟨g, e1, e2, e3⟩ := hSep.1 p hp
   exact ⟨g, e1, e2, by omega⟩, hSep.2⟩
 ·rw [hfl]
  intro p hp e0
  obtain ⟨g, e1, e2, e3⟩ := hlt p hp
  rcases hv' with hv' | ⟨g', hv', hge⟩
  ·exact e3 (e0.trans hv')
  ·rw [e1, hv'] at e0
   have := Option.some.inj e0
   omega
/-- The tree whose arguments are such a row. -/
theorem RowO.tree {w : World} {lo d : Nat} {v : Value} {es : List El} {ts : List (Tn d)} {rss : List (List (Value × Nat))} (h : RowO w lo d v es ts rss) (h0 : ts ≠ []) (k : Int) (n : List UInt8) (hn : n.length < 140737488355328) (hl : ts.length < 140737488355328) :
  TyO w lo (d + 1) (.agg #[.int .i64 k, .string ⟨n.toArray⟩, v]) ((k, n), ts) ((v, ts.length) :: rss.flatten) ∧ SepB lo w.heap.size ((v, ts.length) :: rss.flatten) := by
 refine ⟨⟨v, rfl, hn, hl, .inr ⟨h0, es, rss, h.len, h.rlen, by show w.ownsRow lo 29 3 v ts.length _; rw [← h.len]; exact h.own, rfl, fun j a b c => h.each j a b c⟩⟩, ?_⟩
 have hpos : 0 < es.length := by rw [h.len]; exact List.length_pos_iff.2 h0
 obtain ⟨g, cap, hv, hg, hlt⟩ := h.own.form hpos
 have hvb : v.ownBlock = some g := by rw [hv]; rfl
 refine ⟨fun p hp => ?_, ?_⟩
 ·rcases List.mem_cons.1 hp with rfl | hp
  ·exact ⟨g, hvb, hg, hlt⟩
  ·exact h.sep.1 p hp
 ·rw [List.map_cons, List.nodup_cons]
  refine ⟨fun hm => ?_, h.sep.2⟩
  obtain ⟨p, hp, e⟩ := List.mem_map.1 hm
  exact h.away p hp e
end Go.Proofs.YtikpipenhamdbaaGreat

namespace Go.Proofs.YtikpipenhamdbaaGreat
open Go.RowKit

/-- What part answers. -/
def PartPost (w : World) (q : Nat) (l : List UInt8) (m : Nat) (r : Ending) (w' : World) : Prop :=
 ∃ (k : Int) (n : ByteArray) (ad : Option Addr) (len cap : Nat) (t : Tn m) (rws : List (Value × Nat)) (l' : List UInt8), r = .returned (.agg #[.int .i64 k, .string n, .slice ad len cap]) ∧ RdS w w' q l' ∧ PartOk l m t l' ∧
  l'.length + (flat m t).length ≤ l.length + 1 ∧ l'.length ≤ l.length ∧ TyO w' w.heap.size m (.agg #[.int .i64 k, .string n, .slice ad len cap]) t rws ∧ SepB w.heap.size w'.heap.size rws
def Parts (m : Nat) : Prop := ∀ (l : List UInt8) (q : Nat) (w : World), RdAt w q l → l.length < m → l.length ≤ 65536 → Calls Tryz.prog 40 #[.pointer (some ⟨q, 0, none⟩)] w (PartPost w q l m)
/-- What args answers. -/
def ArgsPost (w : World) (q : Nat) (l : List UInt8) (m : Nat) (r : Ending) (w' : World) : Prop :=
 ∃ (ad : Option Addr) (cap : Nat) (es : List El) (ts : List (Tn m)) (rss : List (List (Value × Nat))) (l' : List UInt8), r = .returned (.slice ad ts.length cap) ∧ RdS w w' q l' ∧ ArgsOk l m ts l' ∧ begB [32] l' = false ∧
  l'.length + (flats m ts).length ≤ l.length ∧ RowO w' w.heap.size m (.slice ad ts.length cap) es ts rss
theorem flats_pos (m : Nat) (ts : List (Tn m)) : ts.length ≤ (flats m ts).length := by
 induction ts with
 | nil => simp
 | cons t ts ih =>
  rw [flats_cons, List.length_append, List.length_cons]
  have := flat_pos m t
  omega
theorem flats_app (m : Nat) (a b : List (Tn m)) : flats m (a ++ b) = flats m a ++ flats m b := by simp [flats]
theorem RdS.trans {w w1 w2 : World} {q : Nat} {l1 l2 : List UInt8} (h1 : RdS w w1 q l1) (h2 : RdS w1 w2 q l2) : RdS w w2 q l2 :=
 ⟨⟨h2.grow.os.trans h1.grow.os, h2.grow.tape.trans h1.grow.tape, h2.grow.output.trans h1.grow.output, Nat.le_trans h1.grow.size h2.grow.size, fun k hk hne => (h2.grow.block k (Nat.lt_of_lt_of_le hk h1.grow.size) hne).trans (h1.grow.block k hk hne)⟩, h2.at'⟩
/-- Between the rounds of args. -/
structure ArW (w : World) (q : Nat) (l : List UInt8) (m : Nat) (wr : World) (v : Value) (es : List El) (ts : List (Tn m)) (rss : List (List (Value × Nat))) (c : List UInt8) : Prop where
 rd : RdS w wr q c
 ok : ArgsOk l m ts c
 num : c.length + (flats m ts).length ≤ l.length
 row : RowO wr w.heap.size m v es ts rss
 qlt : q < w.heap.size
/-- The row and the reader behind a skip. -/
theorem ArW.skip {w : World} {q : Nat} {l : List UInt8} {m : Nat} {wr w1 : World} {v : Value} {es : List El} {ts : List (Tn m)} {rss : List (List (Value × Nat))} {c c' : List UInt8} (h : ArW w q l m wr v es ts rss c) (h1 : RdS wr w1 q c') : RdS w w1 q c' ∧ RowO w1 w.heap.size m v es ts rss :=
 ⟨h.rd.trans h1, h.row.on h1.grow.size fun g hg hlt => h1.grow.block g hlt (by intro e; have := Option.some.inj e; have := h.qlt; omega)⟩
theorem row_form {w : World} {lo d : Nat} {v : Value} {es : List El} {ts : List (Tn d)} {rss : List (List (Value × Nat))} (h : RowO w lo d v es ts rss) : ∃ ad cap, v = .slice ad ts.length cap := by
 rcases h.own.2 with ⟨h0, h1⟩ | ⟨g, cap, _, h1, _⟩
 ·exact ⟨none, 0, by rw [h0, ← h.len, h1]⟩
 ·exact ⟨_, cap, by rw [h1, h.len]⟩
set_option maxHeartbeats 16000000 in
set_option maxRecDepth 10000 in
theorem args_any (m : Nat) (IH : Parts m) (l : List UInt8) (q : Nat) (w : World) (h : RdAt w q l) (hl : l.length ≤ m) (h6 : l.length ≤ 65536) : Calls Tryz.prog 64 #[.pointer (some ⟨q, 0, none⟩)] w (ArgsPost w q l m) := by
 have hq := lt_of_heap h
 have H0 : Hid (ArW w q l m w (.slice none 0 0) [] [] [] l) := ⟨⟨⟨rfl, rfl, rfl, Nat.le_refl _, fun _ _ _ => rfl⟩, h⟩, ArgsOk.nil l m, by simp [flats], RowO.nil _ _ _, hq⟩
 have HIH : Hid (Parts m) := IH
 clear IH h hq
 obtain ⟨i0, hi, hz0, hz1, hz2⟩ := info_parts Tryz.info29
 go_enter Tryz.func64, Tryz.ntmps64
 go_wp2
 go_loopg [3] l.length (fun g v wr => ∃ (es : List El) (ts : List (Tn m)) (rss : List (List (Value × Nat))) (c : List UInt8), c.length ≤ g ∧ ArW w q l m wr v es ts rss c)
 case atStart => exact ⟨[], [], [], l, Nat.le_refl _, H0.out⟩
 case round =>
  obtain ⟨es, ts, rss, c, hcg, hA⟩ := hrel
  obtain ⟨ad, cap, rfl⟩ := row_form hA.row
  have HA : Hid (ArW w q l m wr (.slice ad ts.length cap) es ts rss c) := hA
  have C1 := skip_any c [32] q wr hA.rd.at'
  have hnum := hA.num
  clear H0 hA
  cases hb : begB [32] c with
  | false =>
   rw [hb] at C1
   have C1 : Calls Tryz.prog 62 #[.pointer (some ⟨q, 0, none⟩), .string ⟨#[32]⟩] wr fun e w' => e = .returned (.bool false) ∧ w'.heap.size = wr.heap.size ∧ RdS wr w' q c := C1
   clear hi hz0 hz1 hz2
   go_wp2_with (go_at_call 62; (with_reducible refine Calls.mono C1 ?_); rintro e' w1 ⟨rfl, hs1, hr1⟩)
   go_ret
   obtain ⟨k1, k2⟩ := HA.out.skip hr1
   exact ⟨ad, cap, es, ts, rss, c, rfl, k1, HA.out.ok, hb, HA.out.num, k2⟩
  | true =>
   obtain ⟨c2, rfl⟩ := beg_one hb
   rw [hb] at C1
   have C1 : Calls Tryz.prog 62 #[.pointer (some ⟨q, 0, none⟩), .string ⟨#[32]⟩] wr fun e w' => e = .returned (.bool true) ∧ w'.heap.size = wr.heap.size ∧ RdS wr w' q c2 := C1
   rw [List.length_cons] at hnum hcg
   have hfp := flats_pos m ts
   have CP : ∀ w1, RdS wr w1 q c2 → Calls Tryz.prog 40 #[.pointer (some ⟨q, 0, none⟩)] w1 (PartPost w1 q c2 m) := fun w1 h1 => HIH.out c2 q w1 h1.at' (by omega) (by omega)
   have HX : Hid (∀ w1 w2 l', RdS wr w1 q c2 → RdS w1 w2 q l' → RdS w w2 q l' ∧ RowO w2 w.heap.size m (.slice ad ts.length cap) es ts rss ∧ RowO w1 w.heap.size m (.slice ad ts.length cap) es ts rss ∧ w.heap.size ≤ w1.heap.size ∧ w1.heap.size ≤ w2.heap.size) := fun w1 w2 l' h1 h2 => ⟨(HA.out.skip (h1.trans h2)).1, (HA.out.skip (h1.trans h2)).2, (HA.out.skip h1).2, (HA.out.skip h1).1.grow.size, h2.grow.size⟩
   have hel : es.length = ts.length := HA.out.row.len
   have hts : ts.length ≤ 65536 := by omega
   go_wp2_with (first
    | (go_at_call 62; (with_reducible refine Calls.mono C1 ?_); rintro e' w1 ⟨rfl, hs1, hr1⟩)
    | (go_at_call 40; (with_reducible refine Calls.mono (CP w1 hr1) ?_); intro e' w2 hp; obtain ⟨k2, n2, ad2, len2, cap2, t2, rws2, l2, rfl, hr2, hok2, hn2, hle2, hT2, hS2⟩ := hp; obtain ⟨rd2, row2, row1, hz1w, hz12⟩ := HX.out _ _ _ hr1 hr2; have own2 : w2.ownsRow w.heap.size 29 3 (.slice ad ts.length cap) ts.length (es.flatMap elCells) := by have h := row2.own; rw [hel] at h; exact h)
    | (at_builtin; refine wpList_append_lies _ rfl _ _ 27 rfl w.heap.size 29 i0 _ 3 48 Tryz.underlying27 hi hz0 hz1 hz2 rfl (by decide) (.slice ad ts.length cap) ts.length (es.flatMap elCells) rfl (own2.alloc _) ⟨w2.heap.size, 0, none⟩ 1 1 [.int .i64 k2, .string n2, .slice ad2 len2 cap2] rfl rfl (World.news_of_block (cs := #[.int .i64 k2, .string n2, .slice ad2 len2 cap2]) (t := 29) (fr := (0, 0)) (heap_alloc_new w2 _)) (by simp [Value.oneCell']) (by omega) (by unfold maxLen; omega) (by omega) (by simp; omega) (w2.heap.size + 1) (by simp) ?_; intro g cap3 w3 hown3 hgrow hat hlt3))
   have HN : Hid (ArW w q l m w3 (.slice (some ⟨g, 0, none⟩) (ts.length + 1) cap3) (es ++ [(k2, n2, .slice ad2 len2 cap2)]) (ts ++ [t2]) (rss ++ [rws2]) l2) := by
    have hA := HA.out
    have hbl : ∀ k, k < w2.heap.size → some k ≠ (Value.slice ad ts.length cap).ownBlock → w3.heap[k]? = w2.heap[k]? := fun k hk hne => by
     rw [hgrow.block k (by simp; omega) hne]
     exact Below.heap_alloc _ _ _ hk
    have hsz3 : w2.heap.size ≤ w3.heap.size := by have := hgrow.size; simp at this; omega
    have hqn : ∀ k, (Value.slice ad ts.length cap).ownBlock = some k → w.heap.size ≤ k ∧ k < w1.heap.size := fun k hk => row1.own.lt k hk
    refine ⟨⟨⟨hgrow.os.trans rd2.grow.os, hgrow.tape.trans rd2.grow.tape, hgrow.output.trans rd2.grow.output, Nat.le_trans rd2.grow.size hsz3, fun k hk hne => ?_⟩, ?_⟩, hA.ok.snoc hok2, ?_, ?_, hA.qlt⟩
    ·rw [hbl k (Nat.lt_of_lt_of_le hk rd2.grow.size) (fun e => by have := hqn k e.symm; omega), rd2.grow.block k hk hne]
    ·show w3.heap[q]? = _
     rw [hbl q (lt_of_heap rd2.at') (fun e => by have := hqn q e.symm; have := hA.qlt; omega)]
     exact rd2.at'
    ·rw [flats_app, List.length_append, flats_cons, flats_nil, List.append_nil]
     omega
    ·refine row2.snoc hz1w hT2 hS2 hz12 ⟨fun p hp => ?_, row2.sep.2⟩ (fun k hk => (hqn k hk).2) ?_ hsz3 hbl ?_
     ·obtain ⟨g', e1, e2, e3⟩ := row1.sep.1 p hp
      exact ⟨g', e1, e2, e3⟩
     ·rw [hel]
      exact hown3
     ·rcases hat with hat | hat
      ·exact .inl hat.symm
      ·exact .inr ⟨g, rfl, by omega⟩
   clear hown3 hgrow hat hlt3 own2 row1 row2 rd2 hT2 hS2 hok2 hr1 hr2 HX CP C1 HA HIH
   go_roundg l2.length
   case measure => omega
   case rel => exact ⟨_, ts ++ [t2], _, l2, Nat.le_refl _, by simpa using HN.out⟩
end Go.Proofs.YtikpipenhamdbaaGreat

namespace Go.Proofs.YtikpipenhamdbaaGreat
open Go.RowKit

theorem word_form (n : List UInt8) (hn : n.length < 140737488355328) : (wordT n).2.length < 140737488355328 := by
 unfold wordT
 split
 ·simp
 ·split <;> exact hn
/-- The answer is the word. -/
theorem part_leaf {w w' : World} {q : Nat} {l : List UInt8} {m : Nat} (hb : begB [40] l = false) (h6 : l.length ≤ 65536) (h : RdS w w' q (l.drop (wordL l).length)) : PartPost w q l (m + 1) (.returned (.agg #[.int .i64 (wordT (wordL l)).1, strV (wordT (wordL l)).2, .slice none 0 0])) w' := by
 refine ⟨_, _, none, 0, 0, (wordT (wordL l), []), [], l.drop (wordL l).length, rfl, h, PartOk.leaf hb, ?_, by simp, ?_, ⟨fun p hp => by simp at hp, by simp⟩⟩
 ·rw [show (flat (m + 1) (wordT (wordL l), [])).length = 1 from rfl, List.length_drop]
  omega
 ·refine ⟨.slice none 0 0, rfl, word_form _ ?_, by simp, .inl ⟨rfl, ⟨none, 0, rfl⟩, rfl⟩⟩
  obtain ⟨r, h1, _⟩ := word_split l
  have := congrArg List.length h1
  rw [List.length_append] at this
  omega
/-- The answer is nothing. -/
theorem part_zero {w w' : World} {q : Nat} {l l' : List UInt8} {m : Nat} (h : RdS w w' q l') (hl : l'.length ≤ l.length) (hp : PartOk l (m + 1) ((0, []), []) l') : PartPost w q l (m + 1) (.returned (.agg #[.int .i64 0, .string ⟨#[]⟩, .slice none 0 0])) w' := by
 refine ⟨0, ⟨#[]⟩, none, 0, 0, ((0, []), []), [], l', rfl, h, hp, ?_, hl, ⟨.slice none 0 0, rfl, by simp, by simp, .inl ⟨rfl, ⟨none, 0, rfl⟩, rfl⟩⟩, ⟨fun p hp => by simp at hp, by simp⟩⟩
 rw [show (flat (m + 1) ((0, []), [])).length = 1 from rfl]
 omega
/-- The reader and the boxes: from w the reader's world U, in which z is the answer's box. -/
structure PtW (w U : World) (q z : Nat) (c : List UInt8) : Prop where
 rd : RdS w U q c
 qlt : q < w.heap.size
 zle : w.heap.size ≤ z
 box : U.heap[z]? = some (.cells #[.int .i64 0, .string ⟨#[]⟩, .slice none 0 0] 29 (0, 0))
theorem PtW.step {w U U' : World} {q z : Nat} {c c' : List UInt8} (h : PtW w U q z c) (h1 : RdS U U' q c') : PtW w U' q z c' :=
 ⟨h.rd.trans h1, h.qlt, h.zle, (h1.grow.block z (lt_of_heap h.box) (by intro e; have := Option.some.inj e; have := h.qlt; have := h.zle; omega)).trans h.box⟩
theorem RdS.undrew {w w' : World} {q : Nat} {l : List UInt8} (h : RdS w.drew w' q l) : RdS w w' q l := ⟨⟨h.grow.os, h.grow.tape, h.grow.output, h.grow.size, h.grow.block⟩, h.at'⟩
theorem rd_alloc {w : World} {q : Nat} {c : List UInt8} (h : RdAt w q c) (o : Obj) : RdS w (w.alloc o) q c := by
 have hb := (Below.refl w.heap.size w).alloc (Nat.le_refl _) o
 exact ⟨⟨hb.os, hb.tape, hb.output, hb.size, fun k hk _ => hb.block k hk⟩, (hb.block q (lt_of_heap h)).trans h⟩
/-- The answer, put into its box. -/
theorem PtW.put {w U : World} {q z : Nat} {c : List UInt8} (h : PtW w U q z c) (a b d : Value) : ∃ W, W = ((U.setCell ⟨z, 0, none⟩ a).setCell ⟨z, 1, none⟩ b).setCell ⟨z, 2, none⟩ d ∧ W.heap[z]? = some (.cells #[a, b, d] 29 (0, 0)) ∧ RdS w W q c ∧ (∀ g, g ≠ z → W.heap[g]? = U.heap[g]?) ∧ W.heap.size = U.heap.size := by
 obtain ⟨W, hW, k1, k2, k3, k4⟩ := store3 h.box a b d
 have h1 := h.qlt
 have h2 := h.zle
 refine ⟨W, hW, k1, ⟨⟨k4.os.trans h.rd.grow.os, k4.tape.trans h.rd.grow.tape, k4.output.trans h.rd.grow.output, by rw [k3]; exact h.rd.grow.size, fun g hg hne => ?_⟩, ?_⟩, k2, k3⟩
 ·rw [k2 g (by omega)]
  exact h.rd.grow.block g hg hne
 ·show W.heap[q]? = _
  rw [k2 q (by omega)]
  exact h.rd.at'
/-- A box beside the answer's is written. -/
theorem PtW.beside {w U V : World} {q z y : Nat} {c : List UInt8} (h : PtW w U q z c) (hzy : z < y) (hs : U.heap.size ≤ V.heap.size) (ho : V.os = U.os ∧ V.tape = U.tape ∧ V.output = U.output) (hb : ∀ g, g ≠ y → g < U.heap.size → V.heap[g]? = U.heap[g]?) : PtW w V q z c := by
 have hq := h.qlt
 have hz := h.zle
 refine ⟨⟨⟨ho.1.trans h.rd.grow.os, ho.2.1.trans h.rd.grow.tape, ho.2.2.trans h.rd.grow.output, Nat.le_trans h.rd.grow.size hs, fun g hg hne => ?_⟩, ?_⟩, hq, hz, ?_⟩
 ·rw [hb g (by omega) (Nat.lt_of_lt_of_le hg h.rd.grow.size)]
  exact h.rd.grow.block g hg hne
 ·show V.heap[q]? = _
  rw [hb q (by omega) (lt_of_heap h.rd.at')]
  exact h.rd.at'
 ·rw [hb z (by omega) (lt_of_heap h.box)]
  exact h.box
/-- A function's row, and the box that leads to it. -/
theorem fun_row {w w4 : World} {q z y lo1 lo2 m : Nat} {r2 : List UInt8} {a b c : Value} (P4 : PtW w w4 q z r2) (hzy : z < y) (hy4 : w4.heap[y]? = some (.cells #[a, b, c] 29 (0, 0))) (e1 e2 : El) {t1 t2 : Tn m} {rws1 rws2 : List (Value × Nat)} (h1 : TyO w4 lo1 m (elV e1) t1 rws1) (s1 : SepB lo1 y rws1) (h2 : TyO w4 lo2 m (elV e2) t2 rws2) (s2 : SepB lo2 w4.heap.size rws2) (hl1 : z + 1 ≤ lo1) (hl1y : lo1 ≤ y) (hl2 : y < lo2) :
  ∃ V, V = (((w4.setCell ⟨y, 0, none⟩ (.int .i64 3)).setCell ⟨y, 1, none⟩ (.string ⟨#[]⟩)).setCell ⟨y, 2, none⟩ (.slice (some ⟨w4.heap.size, 0, none⟩) 2 2)).alloc (Obj.cells #[.int .i64 e1.1, .string e1.2.1, e1.2.2, .int .i64 e2.1, .string e2.2.1, e2.2.2] 29) ∧ PtW w V q z r2 ∧ V.heap[y]? = some (.cells #[.int .i64 3, .string ⟨#[]⟩, .slice (some ⟨w4.heap.size, 0, none⟩) 2 2] 29 (0, 0)) ∧ RowO V (z + 1) m (.slice (some ⟨w4.heap.size, 0, none⟩) 2 2) [e1, e2] [t1, t2] [rws1, rws2] := by
 obtain ⟨V0, hV0, k1, k2, k3, k4⟩ := store3 hy4 (.int .i64 3) (.string ⟨#[]⟩) (.slice (some ⟨w4.heap.size, 0, none⟩) 2 2)
 have hyl := lt_of_heap hy4
 generalize hO : Obj.cells #[.int .i64 e1.1, .string e1.2.1, e1.2.2, .int .i64 e2.1, .string e2.2.1, e2.2.2] 29 = O
 rw [← hV0]
 have hb := (Below.refl V0.heap.size V0).alloc (Nat.le_refl _) O
 have kb : ∀ g, g ≠ y → g < w4.heap.size → (V0.alloc O).heap[g]? = w4.heap[g]? := fun g hg hlt => by
  rw [hb.block g (by omega), k2 g hg]
 have hsV : (V0.alloc O).heap.size = w4.heap.size + 1 := by simp [k3]
 refine ⟨_, rfl, P4.beside hzy (by omega) ⟨hb.os.trans k4.os, hb.tape.trans k4.tape, hb.output.trans k4.output⟩ kb, ?_, ?_⟩
 ·rw [hb.block y (by omega)]
  exact k1
 ·have kp1 : ∀ p ∈ rws1, ∀ g, p.1.ownBlock = some g → (V0.alloc O).heap[g]? = w4.heap[g]? := fun p hp g hg => by
   obtain ⟨g', e, q1, q2⟩ := s1.1 p hp
   rw [hg] at e
   have := Option.some.inj e
   exact kb g (by omega) (by omega)
  have kp2 : ∀ p ∈ rws2, ∀ g, p.1.ownBlock = some g → (V0.alloc O).heap[g]? = w4.heap[g]? := fun p hp g hg => by
   obtain ⟨g', e, q1, q2⟩ := s2.1 p hp
   rw [hg] at e
   have := Option.some.inj e
   exact kb g (by omega) (by omega)
  have sep : SepB lo1 w4.heap.size (rws1 ++ rws2) := s1.append s2 (by omega) (by omega) (by omega)
  have hfl : [rws1, rws2].flatten = rws1 ++ rws2 := by simp
  refine ⟨?_, rfl, rfl, fun j a b c => ?_, ?_, ?_⟩
  ·have := World.ownsRow_lit (base := z + 1) (e := 29) (size := 3) V0 #[.int .i64 e1.1, .string e1.2.1, e1.2.2, .int .i64 e2.1, .string e2.2.1, e2.2.2] 2 (by omega) (by decide) rfl
   rw [hO, k3] at this
   exact this
  ·match j with
   | 0 => exact TyO.mono hl1 _ _ _ _ (TyO.on _ _ _ _ kp1 h1)
   | 1 => exact TyO.mono (by omega) _ _ _ _ (TyO.on _ _ _ _ kp2 h2)
  ·rw [hfl]
   exact ⟨fun p hp => by
    obtain ⟨g, e, q1, q2⟩ := sep.1 p hp
    exact ⟨g, e, by omega, by omega⟩, sep.2⟩
  ·rw [hfl]
   intro p hp e0
   obtain ⟨g, e, q1, q2⟩ := sep.1 p hp
   rw [e] at e0
   have := Option.some.inj e0
   simp at this
   omega
theorem RowO.mono {w : World} {lo lo' d : Nat} {v : Value} {es : List El} {ts : List (Tn d)} {rss : List (List (Value × Nat))} (h : RowO w lo' d v es ts rss) (hl : lo ≤ lo') : RowO w lo d v es ts rss :=
 ⟨h.own.mono hl, h.len, h.rlen, fun j a b c => TyO.mono hl _ _ _ _ (h.each j a b c), ⟨fun p hp => by
  obtain ⟨g, e, q1, q2⟩ := h.sep.1 p hp
  exact ⟨g, e, by omega, q2⟩, h.sep.2⟩, h.away⟩
/-- The third cell of a box. -/
theorem store_last {U : World} {z : Nat} {x y u : Value} {t : TypeId} (h : U.heap[z]? = some (.cells #[x, y, u] t (0, 0))) (c : Value) : ∃ W, W = U.setCell ⟨z, 2, none⟩ c ∧ W.heap[z]? = some (.cells #[x, y, c] t (0, 0)) ∧ (∀ g, g ≠ z → W.heap[g]? = U.heap[g]?) ∧ W.heap.size = U.heap.size ∧ Below z U W := by
 refine ⟨_, rfl, (setCell_block h).trans rfl, fun g hg => Below.heap_setCell _ _ _ _ hg, by simp [World.setCell], (Below.refl z U).setCell (Nat.le_refl _) c⟩
/-- Ahead of the closing bracket: the box y leads to a row, and what it would be. -/
def TailW (w wc : World) (q z y : Nat) (l1 : List UInt8) (m : Nat) : Prop :=
 ∃ (k : Int) (n : List UInt8) (ad : Option Addr) (cap : Nat) (es : List El) (ts : List (Tn m)) (rss : List (List (Value × Nat))) (c : List UInt8), PtW w wc q z c ∧ wc.heap[y]? = some (.cells #[.int .i64 k, .string ⟨n.toArray⟩, .slice ad ts.length cap] 29 (0, 0)) ∧ RowO wc (z + 1) m (.slice ad ts.length cap) es ts rss ∧ n.length < 140737488355328 ∧ c.length + (flats m ts).length ≤ l1.length + 2 ∧ c.length ≤ l1.length + 1 ∧
  (ts ≠ [] → ∀ r, c = 41 :: r → PartOk (40 :: l1) (m + 1) ((k, n), ts) r) ∧ ((ts = [] ∨ begB [41] c = false) → PartOk (40 :: l1) (m + 1) ((0, []), []) c)
/-- The answer is a tree whose arguments are such a row. -/
theorem part_tree {w W : World} {q : Nat} {l l' : List UInt8} {m : Nat} {k : Int} {n : List UInt8} {ad : Option Addr} {cap : Nat} {es : List El} {ts : List (Tn m)} {rss : List (List (Value × Nat))} (hr : RdS w W q l') (hR : RowO W (w.heap.size + 1) m (.slice ad ts.length cap) es ts rss) (h0 : ts ≠ []) (hn : n.length < 140737488355328) (hp : PartOk l (m + 1) ((k, n), ts) l') (hnum : l'.length + (flats m ts).length ≤ l.length) (hl6 : l.length ≤ 65536) :
  PartPost w q l (m + 1) (.returned (.agg #[.int .i64 k, .string ⟨n.toArray⟩, .slice ad ts.length cap])) W := by
 have hfp := flats_pos m ts
 obtain ⟨h1, h2⟩ := hR.tree h0 k n hn (by omega)
 refine ⟨k, ⟨n.toArray⟩, ad, ts.length, cap, ((k, n), ts), _, l', rfl, hr, hp, ?_, by omega, TyO.mono (by omega) _ _ _ _ h1, ⟨fun p hp => ?_, h2.2⟩⟩
 ·rw [flat_succ, List.length_cons]
  omega
 ·obtain ⟨g, e, q1, q2⟩ := h2.1 p hp
  exact ⟨g, e, by omega, q2⟩
set_option maxHeartbeats 16000000 in
set_option maxRecDepth 10000 in
theorem part_step (hF : Finds) (m : Nat) (IH : m = 0 ∨ Parts m) : Parts (m + 1) := by
 intro l q w h hlm h6
 obtain ⟨W0, hW0, hbW0, hsW0, _, _, _⟩ := cells_box w (.int .i64 0) (.string ⟨#[]⟩) (.slice none 0 0) 29
 have hq := lt_of_heap h
 have P0 : PtW w W0 q w.heap.size l := ⟨by rw [hW0]; exact rd_alloc h _, hq, Nat.le_refl _, by rw [hW0]; exact heap_alloc_new w _⟩
 have HP0 : Hid (PtW w W0 q w.heap.size l) := P0
 have C1 := skip_any l [40] q W0 P0.rd.at'
 clear hbW0 hsW0 h hq P0
 cases hb : begB [40] l with
 | false =>
  rw [hb] at C1
  have C1 : Calls Tryz.prog 62 #[.pointer (some ⟨q, 0, none⟩), .string ⟨#[40]⟩] W0 fun e w' => e = .returned (.bool false) ∧ w'.heap.size = W0.heap.size ∧ RdS W0 w' q l := C1
  have C2 := fun W (hr : RdAt W q l) => leaf_any hF l q W hr h6
  have HL : Hid (∀ w', RdS w w' q (l.drop (wordL l).length) → PartPost w q l (m + 1) (.returned (.agg #[.int .i64 (wordT (wordL l)).1, strV (wordT (wordL l)).2, .slice none 0 0])) w') := fun w' h => part_leaf hb h6 h
  generalize wordT (wordL l) = wt at C2 HL
  generalize l.drop (wordL l).length = l' at C2 HL
  clear IH hlm hF
  go_enter Tryz.func40, Tryz.ntmps40
  go_upto_region 1 with fail
  rw [← hW0]
  clear hW0
  go_upto_region 2 with (first
   | (go_at_call 62; (with_reducible refine Calls.mono C1 ?_); rintro e' w1 ⟨rfl, hs1, hr1⟩))
  have P1 := HP0.out.step hr1
  have C3 := C2 w1 P1.rd.at'
  clear C1 C2
  go_wp2_with (first
   | (go_at_call 63; (with_reducible refine Calls.mono C3 ?_); rintro e' w2 ⟨rfl, hr2⟩; have P2 := P1.step hr2; obtain ⟨x0, x1, x2⟩ := heap_cells P2.box; have g0 := heap_frozen (o := 0) P2.box; have g1 := heap_frozen (o := 1) P2.box; have g2 := heap_frozen (o := 2) P2.box))
  obtain ⟨W, hWe, k1, k2, _, _⟩ := P2.put (.int .i64 wt.1) (strV wt.2) (.slice none 0 0)
  rw [← hWe]
  obtain ⟨s0, s1, s2⟩ := heap_cells k1
  refine bodyPost_ret (v := .agg #[.int .i64 wt.1, strV wt.2, .slice none 0 0]) (by simp [results, Tryz.results40, go_sem, s0, s1, s2]) rfl ?_
  exact HL.out W k2
 | true =>
  obtain ⟨l1, rfl⟩ := beg_one hb
  rw [List.length_cons] at hlm h6
  obtain ⟨m, rfl⟩ : ∃ k, m = k + 1 := ⟨m - 1, by omega⟩
  have IH : Parts (m + 1) := IH.resolve_left (by omega)
  rw [hb] at C1
  have C1 : Calls Tryz.prog 62 #[.pointer (some ⟨q, 0, none⟩), .string ⟨#[40]⟩] W0 fun e w' => e = .returned (.bool true) ∧ w'.heap.size = W0.heap.size ∧ RdS W0 w' q l1 := C1
  have C2 := fun W (hr : RdAt W q l1) => IH l1 q W hr (by omega) (by omega)
  have HIH : Hid (Parts (m + 1)) := IH
  clear IH hF
  go_enter Tryz.func40, Tryz.ntmps40
  go_upto_region 1 with fail
  rw [← hW0]
  clear hW0
  go_upto_region 3 with (first
   | (go_at_call 62; (with_reducible refine Calls.mono C1 ?_); rintro e' w1 ⟨rfl, hs1, hr1⟩))
  have P1 := HP0.out.step hr1
  have C3 := C2 w1 P1.rd.at'
  clear C1 C2 HP0
  go_upto_block 0 with (first
   | (go_at_call 40; (with_reducible refine Calls.mono C3 ?_); intro e' w2 hp; obtain ⟨k1, n1, ad1, len1, cap1, t1, rws1, r1, rfl, hr2, hok1, hnum1, hle1, hT1, hS1⟩ := hp))
  have P2 := P1.step hr2
  obtain ⟨U, hU, hbU, hsU, u0, u1, u2⟩ := cells_box w2 (.int .i64 k1) (.string n1) (.slice ad1 len1 cap1) 29
  have PU : PtW w U q w.heap.size r1 := P2.step (by rw [hU]; exact rd_alloc P2.rd.at' _)
  have hby : U.heap[w2.heap.size]? = some (.cells #[.int .i64 k1, .string n1, .slice ad1 len1 cap1] 29 (0, 0)) := by rw [hU]; exact heap_alloc_new w2 _
  have HT1 : Hid (TyO U w1.heap.size (m + 1) (.agg #[.int .i64 k1, .string n1, .slice ad1 len1 cap1]) t1 rws1 ∧ SepB w1.heap.size w2.heap.size rws1 ∧ w.heap.size < w1.heap.size ∧ w1.heap.size ≤ w2.heap.size ∧ U.heap.size = w2.heap.size + 1) := ⟨TyO.on _ _ _ _ (fun p hp g hg => hbU.block g (hS1.lt (Nat.le_refl _) p hp g hg)) hT1, hS1, lt_of_heap P1.box, hr2.grow.size, hsU⟩
  have HPU : Hid (PtW w U q w.heap.size r1) := PU
  have HY : Hid (∀ V c, RdS U V q c → V.heap[w2.heap.size]? = some (.cells #[.int .i64 k1, .string n1, .slice ad1 len1 cap1] 29 (0, 0)) ∧ PtW w V q w.heap.size c) := fun V c h => ⟨(h.grow.block _ (lt_of_heap hby) (by intro e; have := Option.some.inj e; have := PU.qlt; have := P2.rd.grow.size; omega)).trans hby, PU.step h⟩
  have C4 := skip_any r1 [32, 45, 62, 32] q U PU.rd.at'
  have hzy : w.heap.size < w2.heap.size := by have := HT1.out.2.2.1; have := HT1.out.2.2.2.1; omega
  have hyU : w2.heap.size < U.heap.size := by omega
  have hqz : q < w.heap.size := P1.qlt
  rw [← hU]
  generalize hyn : w2.heap.size = y at *
  clear hU hbU hsU hr1 hr2 P2 PU P1 C3 hs1 hT1 hS1 hby
  go_cut [] from 11 (fun wc => TailW w wc q w.heap.size y l1 (m + 1))
  case first =>
   cases hba : begB [32, 45, 62, 32] r1 with
   | true =>
    obtain ⟨l2, rfl⟩ := beg_arrow hba
    rw [hba] at C4
    have C4 : Calls Tryz.prog 62 #[.pointer (some ⟨q, 0, none⟩), .string ⟨#[32, 45, 62, 32]⟩] U fun e w' => e = .returned (.bool true) ∧ w'.heap.size = U.heap.size ∧ RdS U w' q l2 := C4
    have hl2 : l2.length + 4 ≤ l1.length := by rw [List.length_append] at hle1; simp at hle1; omega
    have C5 := fun W (hr : RdAt W q l2) => HIH.out l2 q W hr (by omega) (by omega)
    clear u0 u1 u2 HIH
    go_upto_region 6 with (first
     | (go_at_call 62; (with_reducible refine Calls.mono C4 ?_); rintro e' w3 ⟨rfl, hs3, hr3⟩))
    obtain ⟨hy3, P3⟩ := HY.out _ _ hr3
    have C7 : Calls Tryz.prog 40 #[.pointer (some ⟨q, 0, none⟩)] w3.drew (PartPost w3 q l2 (m + 1)) := Calls.mono (C5 w3.drew P3.rd.at') fun e w' hp => by
     obtain ⟨k, n, ad, len, cap, t, rws, r, h0, hr, hrest⟩ := hp
     exact ⟨k, n, ad, len, cap, t, rws, r, h0, hr.undrew, hrest⟩
    obtain ⟨v0, v1, v2⟩ := heap_cells hy3
    clear C4 C5
    have FR : Hid (∀ w4 k2 n2 ad2 len2 cap2 (t2 : Tn (m + 1)) rws2 r2, RdS w3 w4 q r2 → TyO w4 w3.heap.size (m + 1) (.agg #[.int .i64 k2, .string n2, .slice ad2 len2 cap2]) t2 rws2 → SepB w3.heap.size w4.heap.size rws2 → ∃ V, V = (((w4.setCell ⟨y, 0, none⟩ (.int .i64 3)).setCell ⟨y, 1, none⟩ (.string ⟨#[]⟩)).setCell ⟨y, 2, none⟩ (.slice (some ⟨w4.heap.size, 0, none⟩) 2 2)).alloc (Obj.cells #[.int .i64 k1, .string n1, .slice ad1 len1 cap1, .int .i64 k2, .string n2, .slice ad2 len2 cap2] 29) ∧ PtW w V q w.heap.size r2 ∧ V.heap[y]? = some (.cells #[.int .i64 3, .string ⟨#[]⟩, .slice (some ⟨w4.heap.size, 0, none⟩) 2 2] 29 (0, 0)) ∧ RowO V (w.heap.size + 1) (m + 1) (.slice (some ⟨w4.heap.size, 0, none⟩) 2 2) [(k1, n1, .slice ad1 len1 cap1), (k2, n2, .slice ad2 len2 cap2)] [t1, t2] [rws1, rws2]) := fun w4 k2 n2 ad2 len2 cap2 t2 rws2 r2 h4 hT2 hS2 => by
     obtain ⟨k1, k2', k3, k4, k5⟩ := HT1.out
     obtain ⟨hy4, P4⟩ := HY.out _ _ (hr3.trans h4)
     have hUw := (hr3.trans h4).grow
     refine fun_row (lo1 := w1.heap.size) (lo2 := w3.heap.size) P4 hzy hy4 (_, _, _) (_, _, _) (TyO.on _ _ _ _ (fun p hp g hg => hUw.block g ?_ ?_) k1) k2' hT2 hS2 (by omega) k4 (by omega)
     ·have := k2'.lt (Nat.le_refl _) p hp g hg
      omega
     ·intro e
      have e := Option.some.inj e
      obtain ⟨g', e1, e2, _⟩ := k2'.1 p hp
      rw [hg] at e1
      have := Option.some.inj e1
      omega
    go_region_with (first | (go_at_call 40; (with_reducible refine Calls.mono C7 ?_); intro e' w4 hp; obtain ⟨k2, n2, ad2, len2, cap2, t2, rws2, r2, rfl, hr4, hok2, hnum2, hle2, hT2, hS2⟩ := hp; obtain ⟨hy4, P4⟩ := HY.out _ _ (hr3.trans hr4); obtain ⟨x0, x1, x2⟩ := heap_cells hy4; have g0 := heap_frozen (o := 0) hy4; have g1 := heap_frozen (o := 1) hy4; have g2 := heap_frozen (o := 2) hy4; have hyw := lt_of_heap hy4; have hne : ¬ y = w4.heap.size := Nat.ne_of_lt hyw; have hne' : ¬ w4.heap.size = y := Ne.symm hne))
    all_goals
     obtain ⟨V, hV, PV, hyV, hRow⟩ := FR.out w4 k2 n2 ad2 len2 cap2 t2 rws2 r2 hr4 hT2 hS2
     rw [← hV]
     have HM : Hid (TailW w V q w.heap.size y l1 (m + 1)) := by
      refine ⟨3, [], _, 2, _, [t1, t2], _, r2, PV, hyV, hRow, by simp, ?_, by omega, ?_, ?_⟩
      ·rw [flats_cons, flats_cons, flats_nil, List.length_append, List.length_append, List.length_nil]
       rw [List.length_append] at hnum1
       simp only [List.length_cons, List.length_nil] at hnum1
       omega
      ·intro _ r hr
       rw [hr] at hok2
       exact PartOk.func hok1 hok2
      ·rintro (h | h)
       ·cases h
       ·exact PartOk.func_no hok1 hok2 h
     clear hV PV hyV hRow FR
     go_wp2
     go_meet
     exact HM.out
   | false =>
    rw [hba] at C4
    have C4 : Calls Tryz.prog 62 #[.pointer (some ⟨q, 0, none⟩), .string ⟨#[32, 45, 62, 32]⟩] U fun e w' => e = .returned (.bool false) ∧ w'.heap.size = U.heap.size ∧ RdS U w' q r1 := C4
    obtain ⟨⟨⟨kk, nn⟩, ts1⟩, hte⟩ : ∃ t : Tn (m + 1), t = t1 := ⟨t1, rfl⟩
    subst hte
    obtain ⟨⟨v1, hx1, hx2, hx3, hx4⟩, hS1, _, _, hsU⟩ := HT1.out
    have hx5 : k1 = kk ∧ n1 = ⟨nn.toArray⟩ ∧ len1 = ts1.length := by
     simp only [Value.agg.injEq, Array.mk.injEq, List.cons.injEq, and_true, Value.int.injEq, Value.string.injEq, true_and] at hx1
     obtain ⟨a, b, c⟩ := hx1
     refine ⟨a, b, ?_⟩
     rcases hx4 with ⟨q1, ⟨_, _, q2⟩, _⟩ | ⟨q1, es, rss, q2, q3, q4, _⟩
     ·have q1 : ts1 = [] := q1
      rw [q2] at c
      cases c
      rw [q1]
      rfl
     ·rcases q4.2 with ⟨q5, q6⟩ | ⟨g, cp, _, q5, _⟩
      ·exact absurd (List.length_eq_zero_iff.1 q6) q1
      ·rw [q5] at c
       cases c
       rfl
    obtain ⟨rfl, rfl, rfl⟩ := hx5
    have hnn : nn.length < 140737488355328 := hx2
    clear hx1 hx4
    by_cases hk : k1 = 4 ∧ ts1 = []
    ·obtain ⟨rfl, rfl⟩ := hk
     have C5 := fun W (hr : RdAt W q r1) => args_any (m + 1) HIH.out r1 q W hr (by omega) (by omega)
     clear u0 u1 u2 HIH
     go_upto_region 7 with (first
      | (go_at_call 62; (with_reducible refine Calls.mono C4 ?_); rintro e' w3 ⟨rfl, hs3, hr3⟩))
     obtain ⟨hy3, P3⟩ := HY.out _ _ hr3
     have C6 := C5 w3 P3.rd.at'
     obtain ⟨v0, v1, v2⟩ := heap_cells hy3
     clear C4 C5
     go_upto_region 8 with fail
     have FR : Hid (∀ w4 ad2 cap2 es ts rss c, RdS w3 w4 q c → ArgsOk r1 (m + 1) ts c → begB [32] c = false → c.length + (flats (m + 1) ts).length ≤ r1.length → RowO w4 w3.heap.size (m + 1) (.slice ad2 ts.length cap2) es ts rss → ∃ V, V = w4.setCell ⟨y, 2, none⟩ (.slice ad2 ts.length cap2) ∧ TailW w V q w.heap.size y l1 (m + 1)) := fun w4 ad2 cap2 es ts rss c h4 hok2 hs2 hn2 hR => by
      obtain ⟨hy4, P4⟩ := HY.out _ _ (hr3.trans h4)
      obtain ⟨V, hV, k1, k2, k3, k4⟩ := store_last hy4 (.slice ad2 ts.length cap2)
      refine ⟨V, hV, 4, nn, ad2, cap2, es, ts, rss, c, P4.beside hzy (by omega) ⟨k4.os, k4.tape, k4.output⟩ (fun g hg _ => k2 g hg), k1, (hR.on (by omega) fun g hg hlt => k2 g (by omega)).mono (by omega), hnn, by omega, by omega, ?_, ?_⟩
      ·intro h0 r hr
       rw [hr] at hok2
       exact PartOk.data hok1 hba hok2 h0
      ·intro h0
       exact PartOk.data_no hok1 hba hok2 hs2 h0
     go_wp2_with (first
      | (go_at_call 64; (with_reducible refine Calls.mono C6 ?_); intro e' w4 hp; obtain ⟨ad2, cap2, es2, ts2, rss2, c2, rfl, hr4, hok2, hsp2, hnum2, hRow2⟩ := hp; obtain ⟨hy4, P4⟩ := HY.out _ _ (hr3.trans hr4); obtain ⟨x0, x1, x2⟩ := heap_cells hy4; have g2 := heap_frozen (o := 2) hy4))
     obtain ⟨V, hV, HM⟩ := FR.out w4 ad2 cap2 es2 ts2 rss2 c2 hr4 hok2 hsp2 hnum2 hRow2
     rw [← hV]
     go_meet
     exact HM
    ·have HZ : Hid (∀ W, RdS w W q r1 → PartPost w q (40 :: l1) (m + 1 + 1) (.returned (.agg #[.int .i64 0, .string ⟨#[]⟩, .slice none 0 0])) W) := fun W hr => part_zero hr (by simp; omega) (PartOk.none hok1 hba hk)
     have hkd : (if k1 = 4 then decide ((ts1.length : Int) = 0) else false) = false := by
      by_cases h4 : k1 = 4
      ·rw [if_pos h4]
       have : ts1 ≠ [] := fun h => hk ⟨h4, h⟩
       have := List.length_pos_iff.2 this
       simp
       omega
      ·rw [if_neg h4]
     clear u0 u1 u2 HIH
     go_upto_region 7 with (first
      | (go_at_call 62; (with_reducible refine Calls.mono C4 ?_); rintro e' w3 ⟨rfl, hs3, hr3⟩))
     obtain ⟨hy3, P3⟩ := HY.out _ _ hr3
     obtain ⟨v0, v1, v2⟩ := heap_cells hy3
     obtain ⟨x0, x1, x2⟩ := heap_cells P3.box
     have g0 := heap_frozen (o := 0) P3.box
     have g1 := heap_frozen (o := 1) P3.box
     have g2 := heap_frozen (o := 2) P3.box
     obtain ⟨W, hWe, k1', k2', _, _⟩ := P3.put (.int .i64 0) (.string ⟨#[]⟩) (.slice none 0 0)
     have HW : Hid (W.heap[w.heap.size]? = some (.cells #[.int .i64 0, .string ⟨#[]⟩, .slice none 0 0] 29 (0, 0)) ∧ RdS w W q r1) := ⟨k1', k2'⟩
     clear C4
     by_cases h4 : k1 = 4
     ·subst h4
      have h5 : ts1 ≠ [] := fun h => hk ⟨rfl, h⟩
      have h6' : ¬ (ts1.length : Int) = 0 := by have := List.length_pos_iff.2 h5; omega
      go_wp2
      rw [← hWe]
      obtain ⟨s0, s1, s2⟩ := heap_cells HW.out.1
      refine bodyPost_ret (v := .agg #[.int .i64 0, .string ⟨#[]⟩, .slice none 0 0]) (by simp [results, Tryz.results40, go_sem, s0, s1, s2]) rfl ?_
      exact HZ.out W HW.out.2
     ·have h5 : (k1 == 4) = false := by simpa using h4
      go_wp2
      rw [← hWe]
      obtain ⟨s0, s1, s2⟩ := heap_cells HW.out.1
      refine bodyPost_ret (v := .agg #[.int .i64 0, .string ⟨#[]⟩, .slice none 0 0]) (by simp [results, Tryz.results40, go_sem, s0, s1, s2]) rfl ?_
      exact HZ.out W HW.out.2
  case rest =>
   clear HT1 HPU HY C4 HIH u0 u1 u2 hok1 hnum1 hle1
   obtain ⟨k, n, ad, cap, es, ts, rss, c, P, hy, hR, hn, hnum, hcl, hyes, hno⟩ := hcut
   obtain ⟨v0, v1, v2⟩ := heap_cells hy
   by_cases hts : ts = []
   ·subst hts
    have HZ : Hid (∀ W, RdS w W q c → PartPost w q (40 :: l1) (m + 1 + 1) (.returned (.agg #[.int .i64 0, .string ⟨#[]⟩, .slice none 0 0])) W) := fun W hr => part_zero hr (by simp; omega) (hno (.inl rfl))
    obtain ⟨x0, x1, x2⟩ := heap_cells P.box
    have g0 := heap_frozen (o := 0) P.box
    have g1 := heap_frozen (o := 1) P.box
    have g2 := heap_frozen (o := 2) P.box
    obtain ⟨W, hWe, k1', k2', _, _⟩ := P.put (.int .i64 0) (.string ⟨#[]⟩) (.slice none 0 0)
    clear hyes hno hR P
    go_wp2
    rw [← hWe]
    obtain ⟨s0, s1, s2⟩ := heap_cells k1'
    refine bodyPost_ret (v := .agg #[.int .i64 0, .string ⟨#[]⟩, .slice none 0 0]) (by simp [results, Tryz.results40, go_sem, s0, s1, s2]) rfl ?_
    exact HZ.out W k2'
   ·have hlp := List.length_pos_iff.2 hts
    have hl0 : ¬ (ts.length : Int) = 0 := by omega
    have C8 := skip_any c [41] q wc P.rd.at'
    have HPP : Hid (∀ V c', RdS wc V q c' → V.heap[y]? = some (.cells #[.int .i64 k, .string ⟨n.toArray⟩, .slice ad ts.length cap] 29 (0, 0)) ∧ PtW w V q w.heap.size c' ∧ RowO V (w.heap.size + 1) (m + 1) (.slice ad ts.length cap) es ts rss) := fun V c' h => ⟨(h.grow.block _ (lt_of_heap hy) (by intro e; have := Option.some.inj e; omega)).trans hy, P.step h, hR.on h.grow.size fun g hg hlt => h.grow.block g hlt (by intro e; have := Option.some.inj e; omega)⟩
    cases hbr : begB [41] c with
    | false =>
     rw [hbr] at C8
     have C8 : Calls Tryz.prog 62 #[.pointer (some ⟨q, 0, none⟩), .string ⟨#[41]⟩] wc fun e w' => e = .returned (.bool false) ∧ w'.heap.size = wc.heap.size ∧ RdS wc w' q c := C8
     have HZ : Hid (∀ W, RdS w W q c → PartPost w q (40 :: l1) (m + 1 + 1) (.returned (.agg #[.int .i64 0, .string ⟨#[]⟩, .slice none 0 0])) W) := fun W hr => part_zero hr (by simp; omega) (hno (.inr hbr))
     clear hyes hno hR P
     go_wp2_with (first
      | (go_at_call 62; (with_reducible refine Calls.mono C8 ?_); rintro e' w6 ⟨rfl, hs6, hr6⟩; obtain ⟨hy6, P6, hR6⟩ := HPP.out _ _ hr6; obtain ⟨x0, x1, x2⟩ := heap_cells P6.box; have g0 := heap_frozen (o := 0) P6.box; have g1 := heap_frozen (o := 1) P6.box; have g2 := heap_frozen (o := 2) P6.box))
     obtain ⟨W, hWe, k1', k2', _, _⟩ := P6.put (.int .i64 0) (.string ⟨#[]⟩) (.slice none 0 0)
     rw [← hWe]
     obtain ⟨s0, s1, s2⟩ := heap_cells k1'
     refine bodyPost_ret (v := .agg #[.int .i64 0, .string ⟨#[]⟩, .slice none 0 0]) (by simp [results, Tryz.results40, go_sem, s0, s1, s2]) rfl ?_
     exact HZ.out W k2'
    | true =>
     obtain ⟨r, rfl⟩ := beg_one hbr
     rw [hbr] at C8
     have C8 : Calls Tryz.prog 62 #[.pointer (some ⟨q, 0, none⟩), .string ⟨#[41]⟩] wc fun e w' => e = .returned (.bool true) ∧ w'.heap.size = wc.heap.size ∧ RdS wc w' q r := C8
     have hpk := hyes hts r rfl
     have HZ : Hid (∀ W, RdS w W q r → RowO W (w.heap.size + 1) (m + 1) (.slice ad ts.length cap) es ts rss → PartPost w q (40 :: l1) (m + 1 + 1) (.returned (.agg #[.int .i64 k, .string ⟨n.toArray⟩, .slice ad ts.length cap])) W) := fun W hr hRW => part_tree hr hRW hts hn hpk (by simp at hnum ⊢; omega) (by simp; omega)
     clear hyes hno hR P
     go_wp2_with (first
      | (go_at_call 62; (with_reducible refine Calls.mono C8 ?_); rintro e' w6 ⟨rfl, hs6, hr6⟩; obtain ⟨hy6, P6, hR6⟩ := HPP.out _ _ hr6; obtain ⟨x0, x1, x2⟩ := heap_cells P6.box; have g0 := heap_frozen (o := 0) P6.box; have g1 := heap_frozen (o := 1) P6.box; have g2 := heap_frozen (o := 2) P6.box; obtain ⟨y0, y1, y2⟩ := heap_cells hy6))
     obtain ⟨W, hWe, k1', k2', k3', k4'⟩ := P6.put (.int .i64 k) (.string ⟨n.toArray⟩) (.slice ad ts.length cap)
     rw [← hWe]
     obtain ⟨s0, s1, s2⟩ := heap_cells k1'
     refine bodyPost_ret (v := .agg #[.int .i64 k, .string ⟨n.toArray⟩, .slice ad ts.length cap]) (by simp [results, Tryz.results40, go_sem, s0, s1, s2]) rfl ?_
     exact HZ.out W k2' (hR6.on (by omega) fun g hg hlt => k3' g (by omega))
theorem part_any (hF : Finds) : ∀ m, Parts (m + 1)
 | 0 => part_step hF 0 (.inl rfl)
 | m + 1 => part_step hF (m + 1) (.inr (part_any hF m))
end Go.Proofs.YtikpipenhamdbaaGreat

namespace Go.Proofs.YtikpipenhamdbaaGreat
open Go.RowKit

theorem own_count {w : World} {lo : Nat} : ∀ (d : Nat) (x : Value) (t : Tn d) (rws : List (Value × Nat)), TyO w lo d x t rws → rws.length ≤ (flat d t).length ∧ (formB d t = true → ∀ p ∈ rws, p.2 ≤ 6)
 | 0, _, t, _, _ => t.elim
 | d + 1, x, ((k, n), ts), rws, ⟨v, hx, h1, h2, h⟩ => by
  rcases h with ⟨h0, _, rfl⟩ | ⟨h0, es, rss, k1, k2, hown, rfl, hj⟩
  ·exact ⟨by simp, fun _ p hp => by simp at hp⟩
  ·have k1 : es.length = ts.length := k1
   have k2 : rss.length = ts.length := k2
   have hall : ∀ j (h : j < ts.length) (h' : j < rss.length), rss[j].length ≤ (flat d ts[j]).length ∧ (formB d ts[j] = true → ∀ p ∈ rss[j], p.2 ≤ 6) := fun j h h' => own_count d _ _ _ (hj j h (by rw [k1]; exact h) h')
   have key : ∀ (ts : List (Tn d)) (rss : List (List (Value × Nat))), rss.length = ts.length → (∀ j (h : j < ts.length) (h' : j < rss.length), rss[j].length ≤ (flat d ts[j]).length ∧ (formB d ts[j] = true → ∀ p ∈ rss[j], p.2 ≤ 6)) → rss.flatten.length ≤ (flats d ts).length ∧ ((∀ a ∈ ts, formB d a = true) → ∀ p ∈ rss.flatten, p.2 ≤ 6) := by
    intro ts
    induction ts with
    | nil =>
     intro rss hl _
     have : rss = [] := List.length_eq_zero_iff.1 hl
     subst this
     simp
    | cons t ts ih =>
     intro rss hl hh
     cases rss with
     | nil => simp at hl
     | cons r rss =>
      obtain ⟨i1, i2⟩ := ih rss (by simpa using hl) fun j h h' => by
       have := hh (j + 1) (by simpa using h) (by simpa using h')
       simpa using this
      obtain ⟨j1, j2⟩ := hh 0 (by simp) (by simp)
      have j1 : r.length ≤ (flat d t).length := j1
      rw [flats_cons, List.length_append, List.flatten_cons, List.length_append]
      refine ⟨by omega, fun hF p hp => ?_⟩
      rcases List.mem_append.1 hp with hp | hp
      ·exact j2 (hF t (by simp)) p hp
      ·exact i2 (fun a ha => hF a (by simp [ha])) p hp
   obtain ⟨i1, i2⟩ := key ts rss k2 hall
   refine ⟨by rw [flat_succ, List.length_cons, List.length_cons]; omega, fun hF p hp => ?_⟩
   rw [form_succ] at hF
   simp only [Bool.and_eq_true, List.all_eq_true] at hF
   rcases List.mem_cons.1 hp with rfl | hp
   ·show ts.length ≤ 6
    have := hF.1
    unfold okB at this
    split at this
    ·simp only [Bool.and_eq_true, decide_eq_true_eq] at this; omega
    ·split at this
     ·simp only [Bool.and_eq_true, decide_eq_true_eq] at this; omega
     ·split at this
      ·simp only [Bool.and_eq_true, decide_eq_true_eq] at this; omega
      ·split at this
       ·simp only [Bool.and_eq_true, decide_eq_true_eq] at this; omega
       ·cases this
   ·exact i2 hF.2 p hp
/-- What Read says of a text whose reading is known. -/
theorem rel_part {l r : List UInt8} {m : Nat} {t : Tn m} (h6 : l.length ≤ 65536) (h : PartOk l m t r) :
  ((r ≠ [] ∨ wrongT m t = 53) → RelR l 52 [(0, [], 0)]) ∧ (r = [] → wrongT m t = 4 → RelR l 4 [(0, [], 0)]) ∧ (r = [] → wrongT m t = 0 → RelR l 0 (flat m t)) := by
 refine ⟨fun h0 => .inr ⟨by decide, rfl, .inr (.inr ⟨h6, fun d u hu he => ?_, rfl⟩)⟩, fun h0 h1 => ?_, fun h0 h1 => ?_⟩
 ·obtain ⟨f1, f2⟩ := h.compl d u [] hu (by rw [he, List.append_nil]) fun _ => ends_nil
  rcases h0 with h0 | h0
  ·exact h0 f2
  ·unfold wrongT at h0
   rw [if_pos f1] at h0
   split at h0 <;> cases h0
 ·have hF : formB m t = true ∧ 500 < (flat m t).length := by
   unfold wrongT at h1
   split at h1
   ·rename_i hf
    split at h1
    ·exact ⟨hf, by assumption⟩
    ·cases h1
   ·cases h1
  have := (h.sound hF.1).1
  rw [h0, List.append_nil] at this
  exact .inr ⟨by decide, rfl, .inr (.inl ⟨h6, ⟨m, t, hF.1, this.symm, hF.2⟩, rfl⟩)⟩
 ·obtain ⟨f1, f2⟩ := wrong_zero h1
  have := (h.sound f1).1
  rw [h0, List.append_nil] at this
  exact .inl ⟨rfl, h6, m, t, f1, this.symm, f2, rfl⟩
theorem read_zero {w W : World} {l : List UInt8} {e : Int} (hb : Below w.heap.size w W) (h : RelR l e [(0, [], 0)]) : ReadPostO w l (.returned (.tuple #[.agg #[.int .i64 0, .string ⟨#[]⟩, .slice none 0 0], .int .i64 e])) W :=
 ⟨hb, 0, ⟨#[]⟩, none, 0, 0, e, 1, ((0, []), []), [], rfl, ⟨.slice none 0 0, rfl, by simp, by simp, .inl ⟨rfl, ⟨none, 0, rfl⟩, rfl⟩⟩, ⟨fun p hp => by simp at hp, by simp⟩, by simp, fun p hp => by simp at hp, by rw [flat_succ, flats_nil]; exact h⟩
set_option maxHeartbeats 16000000 in
set_option maxRecDepth 10000 in
theorem read_any (hF : Finds) : ReadsO 21 := by
 intro l w hl
 obtain ⟨W0, hW0, hbW0, hsW0, _, _, _⟩ := cells_box w (.int .i64 0) (.string ⟨#[]⟩) (.slice none 0 0) 29
 have hbox0 : W0.heap[w.heap.size]? = some (.cells #[.int .i64 0, .string ⟨#[]⟩, .slice none 0 0] 29 (0, 0)) := by rw [hW0]; exact heap_alloc_new w _
 have hsz : (⟨l.toArray⟩ : ByteArray).size = l.length := by show l.toArray.size = _; simp
 by_cases hbig : 65536 < l.length
 ·have HR : Hid (∀ W, Below w.heap.size w W → ReadPostO w l (.returned (.tuple #[.agg #[.int .i64 0, .string ⟨#[]⟩, .slice none 0 0], .int .i64 2])) W) := fun W hb => read_zero hb (.inr ⟨by decide, rfl, .inl ⟨hbig, rfl⟩⟩)
  have hbig' : (65536 : Int) < ((⟨l.toArray⟩ : ByteArray).size : Int) := by omega
  obtain ⟨W, hWe, k1, k2, k3, k4⟩ := store3 hbox0 (.int .i64 0) (.string ⟨#[]⟩) (.slice none 0 0)
  obtain ⟨x0, x1, x2⟩ := heap_cells hbox0
  have g0 := heap_frozen (o := 0) hbox0
  have g1 := heap_frozen (o := 1) hbox0
  have g2 := heap_frozen (o := 2) hbox0
  have HB : Hid (Below w.heap.size w W) := hbW0.trans k4
  show Calls Tryz.prog 21 #[.string ⟨l.toArray⟩] w _
  generalize (⟨l.toArray⟩ : ByteArray) = s at *
  clear hbW0 hsW0 hF
  go_enter Tryz.func21, Tryz.ntmps21
  go_upto_region 1 with fail
  rw [← hW0]
  clear hW0
  go_wp2
  rw [← hWe]
  obtain ⟨s0, s1, s2⟩ := heap_cells k1
  refine bodyPost_ret (v := .tuple #[.agg #[.int .i64 0, .string ⟨#[]⟩, .slice none 0 0], .int .i64 2]) (by simp [results, Tryz.results21, go_sem, s0, s1, s2]) rfl ?_
  exact HR.out W HB.out
 ·have h6 : l.length ≤ 65536 := by omega
  have hbig' : ¬ (65536 : Int) < ((⟨l.toArray⟩ : ByteArray).size : Int) := by omega
  obtain ⟨W1, hW1⟩ : ∃ W1, W1 = W0.alloc (Obj.cells #[strV l] 82) := ⟨_, rfl⟩
  have hbW1 : Below W0.heap.size W0 W1 := by rw [hW1]; exact (Below.refl _ _).alloc (Nat.le_refl _) _
  have hq : RdAt W1 W0.heap.size l := by rw [hW1]; exact heap_alloc_new W0 _
  have hsW1 : W1.heap.size = W0.heap.size + 1 := by rw [hW1]; simp
  have CP := part_any hF l.length l W0.heap.size W1 hq (by omega) h6
  have HP : Hid (∀ w2 r1, RdS W1 w2 W0.heap.size r1 → Below w.heap.size w w2 ∧ w2.heap[w.heap.size]? = some (.cells #[.int .i64 0, .string ⟨#[]⟩, .slice none 0 0] 29 (0, 0)) ∧ w.heap.size + 2 ≤ w2.heap.size) := fun w2 r1 h => by
   have hb : Below w.heap.size w W1 := hbW0.trans (hbW1.mono hbW0.size)
   have h2 := h.grow.size
   refine ⟨⟨h.grow.os.trans hb.os, h.grow.tape.trans hb.tape, h.grow.output.trans hb.output, Nat.le_trans hb.size h2, fun g hg => ?_⟩, ?_, by omega⟩
   ·rw [h.grow.block g (by omega) (by intro e; have := Option.some.inj e; omega)]
    exact hb.block g hg
   ·rw [h.grow.block _ (by omega) (by intro e; have := Option.some.inj e; omega), hbW1.block _ (by omega)]
    exact hbox0
  have HZQ : Hid (W0.heap.size = w.heap.size + 1 ∧ W1.heap.size = W0.heap.size + 1) := ⟨hsW0, hsW1⟩
  show Calls Tryz.prog 21 #[.string ⟨l.toArray⟩] w _
  have hW1' : W1 = W0.alloc (Obj.cells #[.string ⟨l.toArray⟩] 82) := hW1
  clear hbW0 hsW0 hF hbW1 hq hW1 hsW1 hbox0
  generalize hsn : (⟨l.toArray⟩ : ByteArray) = s at *
  go_enter Tryz.func21, Tryz.ntmps21
  go_upto_region 1 with fail
  rw [← hW0]
  clear hW0
  go_upto_region 4 with fail
  rw [← hW1']
  clear hW1'
  go_upto_region 5 with (first
   | (go_at_call 40; (with_reducible refine Calls.mono CP ?_); intro e' w2 hp; obtain ⟨k1, n1, ad1, len1, cap1, t1, rws1, r1, rfl, hr2, hok1, hnum1, hle1, hT1, hS1⟩ := hp))
  have hP2 := HP.out w2 r1 hr2
  obtain ⟨U, hU, hbU, hsU, u0, u1, u2, v0, v1, v2⟩ := cells_boxes w2 (.int .i64 k1) (.string n1) (.slice ad1 len1 cap1) (.int .i64 k1) (.string n1) (.slice ad1 len1 cap1) 29
  have hlt1 : ∀ p ∈ rws1, ∀ g, p.1.ownBlock = some g → W1.heap.size ≤ g ∧ g < w2.heap.size := fun p hp g hg => by
   obtain ⟨g', e, a, b⟩ := hS1.1 p hp
   rw [hg] at e
   have := Option.some.inj e
   exact ⟨by omega, by omega⟩
  have hTA : TyAt w2 w2.heap.size (l.length + 1) (.agg #[.int .i64 k1, .string n1, .slice ad1 len1 cap1]) t1 := TyO.at _ _ _ _ (fun p hp g hg => (hlt1 p hp g hg).2) hT1
  have C2 := wrong_one (l.length + 1) _ _ _ _ _ t1 w2 U w2.heap.size (w2.heap.size + 1) (by omega) (by omega) hTA hbU (by omega) v0 v1 v2
  obtain ⟨R1, R2, R3⟩ := rel_part h6 hok1
  have HRel : Hid (((r1 ≠ [] ∨ wrongT (l.length + 1) t1 = 53) → RelR l 52 [(0, [], 0)]) ∧ (r1 = [] → wrongT (l.length + 1) t1 = 4 → RelR l 4 [(0, [], 0)]) ∧ (r1 = [] → wrongT (l.length + 1) t1 = 0 → RelR l 0 (flat (l.length + 1) t1))) := ⟨R1, R2, R3⟩
  have hwr := wrong_range (l.length + 1) t1
  have HW3 : Hid (∀ w3, Below U.heap.size U w3 → Below w.heap.size w w3 ∧ w3.heap[w.heap.size]? = some (.cells #[.int .i64 0, .string ⟨#[]⟩, .slice none 0 0] 29 (0, 0)) ∧ RdAt w3 W0.heap.size r1 ∧ w3.heap[w2.heap.size]? = some (.cells #[.int .i64 k1, .string n1, .slice ad1 len1 cap1] 29 (0, 0)) ∧ TyO w3 W1.heap.size (l.length + 1) (.agg #[.int .i64 k1, .string n1, .slice ad1 len1 cap1]) t1 rws1 ∧ w2.heap.size + 2 ≤ w3.heap.size) := fun w3 hb => by
   have hb3 : Below w2.heap.size w2 w3 := hbU.trans (hb.mono hbU.size)
   have hbx : U.heap[w2.heap.size]? = some (.cells #[.int .i64 k1, .string n1, .slice ad1 len1 cap1] 29 (0, 0)) := by
    rw [hU, Below.heap_alloc _ _ _ (by simp)]
    exact heap_alloc_new w2 _
   refine ⟨hP2.1.trans (hb3.mono hP2.1.size), (hb3.block _ (lt_of_heap hP2.2.1)).trans hP2.2.1, (hb3.block _ (lt_of_heap hr2.at')).trans hr2.at', (hb.block _ (by omega)).trans hbx, TyO.on _ _ _ _ (fun p hp g hg => hb3.block g (hlt1 p hp g hg).2) hT1, by have := hb.size; omega⟩
  have HT1 : Hid (SepB W1.heap.size w2.heap.size rws1 ∧ rws1.length ≤ (flat (l.length + 1) t1).length ∧ (formB (l.length + 1) t1 = true → ∀ p ∈ rws1, p.2 ≤ 6)) := ⟨hS1, own_count _ _ _ _ hT1⟩
  rw [hU] at C2
  clear hok1 hnum1 hle1 hT1 hS1 hlt1 hTA hr2 R1 R2 R3 HP CP u0 u1 u2 v0 v1 v2
  have HP2 : Hid (w.heap.size + 2 ≤ w2.heap.size) := hP2.2.2
  clear hP2
  have HUD : Hid (U = (w2.alloc (Obj.cells #[.int .i64 k1, .string n1, .slice ad1 len1 cap1] 29)).alloc (Obj.cells #[.int .i64 k1, .string n1, .slice ad1 len1 cap1] 29)) := hU
  have hsl : (Value.string s) = strV l := by rw [← hsn]
  clear hU hbU hsU
  generalize hwc : wrongT (l.length + 1) t1 = wc at *
  have ZERO : Hid (∀ (e : Int) w3, Below U.heap.size U w3 → RelR l e [(0, [], 0)] → ∃ W, W = ((w3.setCell ⟨w.heap.size, 0, none⟩ (.int .i64 0)).setCell ⟨w.heap.size, 1, none⟩ (.string ⟨#[]⟩)).setCell ⟨w.heap.size, 2, none⟩ (.slice none 0 0) ∧ W.heap[w.heap.size]? = some (.cells #[.int .i64 0, .string ⟨#[]⟩, .slice none 0 0] 29 (0, 0)) ∧ ReadPostO w l (.returned (.tuple #[.agg #[.int .i64 0, .string ⟨#[]⟩, .slice none 0 0], .int .i64 e])) W) := fun e w3 hb hrel => by
   obtain ⟨a1, a2, _⟩ := HW3.out w3 hb
   obtain ⟨W, hWe, k1, k2, k3, k4⟩ := store3 a2 (.int .i64 0) (.string ⟨#[]⟩) (.slice none 0 0)
   exact ⟨W, hWe, k1, read_zero (a1.trans k4) hrel⟩
  have FACT : Hid (∀ w3, Below U.heap.size U w3 → (w3.cell? ⟨w.heap.size, 0, none⟩ = some (.int .i64 0) ∧ w3.cell? ⟨w.heap.size, 1, none⟩ = some (.string ⟨#[]⟩) ∧ w3.cell? ⟨w.heap.size, 2, none⟩ = some (.slice none 0 0)) ∧ (w3.frozen? ⟨w.heap.size, 0, none⟩ = false ∧ w3.frozen? ⟨w.heap.size, 1, none⟩ = false ∧ w3.frozen? ⟨w.heap.size, 2, none⟩ = false) ∧ w3.cell? ⟨W0.heap.size, 0, none⟩ = some (strV r1) ∧ (w3.cell? ⟨w2.heap.size, 0, none⟩ = some (.int .i64 k1) ∧ w3.cell? ⟨w2.heap.size, 1, none⟩ = some (.string n1) ∧ w3.cell? ⟨w2.heap.size, 2, none⟩ = some (.slice ad1 len1 cap1))) := fun w3 hb => by
   obtain ⟨a1, a2, a3, a4, _⟩ := HW3.out w3 hb
   exact ⟨heap_cells a2, ⟨heap_frozen a2, heap_frozen a2, heap_frozen a2⟩, rd_cell a3, heap_cells a4⟩
  have hbl : (⟨r1.toArray⟩ : ByteArray).toList = r1 := bytes_list r1
  have FACT2 := FACT
  by_cases hre : r1 = []
  ·have HRl : Hid (r1 = []) := hre
   have hb0 : ((⟨r1.toArray⟩ : ByteArray).toList == []) = true := by rw [hbl, hre]; rfl
   have hb1 : ((⟨r1.toArray⟩ : ByteArray).toList != []) = false := by rw [hbl, hre]; rfl
   have hb2 : (⟨r1.toArray⟩ : ByteArray).toList.isEmpty = true := by rw [hbl, hre]; rfl
   clear hbl hre
   generalize (⟨r1.toArray⟩ : ByteArray) = rs at FACT hb0 hb1 hb2
   rcases hwr with h0 | h0 | h0
   ·have HW0 : Hid (wc = 0) := h0
    subst h0
    go_wp2_with (first
    | (go_at_call 24; (with_reducible refine Calls.mono C2 ?_); rintro e' w3 ⟨rfl, hb3⟩; rw [← HUD.out] at hb3; obtain ⟨⟨x0, x1, x2⟩, ⟨g0, g1, g2⟩, y0, ⟨z0, z1, z2⟩⟩ := FACT.out w3 hb3))
    obtain ⟨a1, a2, a3, a4, a5, a6⟩ := HW3.out w3 hb3
    obtain ⟨W, hWe, k1', k2', k3', k4'⟩ := store3 a2 (.int .i64 k1) (.string n1) (.slice ad1 len1 cap1)
    rw [← hWe]
    obtain ⟨s0, s1, s2⟩ := heap_cells k1'
    refine bodyPost_ret (v := .tuple #[.agg #[.int .i64 k1, .string n1, .slice ad1 len1 cap1], .int .i64 0]) (by simp [results, Tryz.results21, go_sem, s0, s1, s2]) rfl ?_
    obtain ⟨c1, c2, c3⟩ := HT1.out
    obtain ⟨f1, f2⟩ := wrong_zero hwc
    have hz1 := HZQ.out
    refine ⟨a1.trans k4', k1, n1, ad1, len1, cap1, 0, _, t1, rws1, rfl, TyO.mono (by omega) _ _ _ _ (TyO.on _ _ _ _ (fun p hp g hg => k2' g ?_) a5), ⟨fun p hp => ?_, c1.2⟩, by omega, c3 f1, HRel.out.2.2 HRl.out (by first | rfl | trivial)⟩
    ·obtain ⟨g', e, q1, q2⟩ := c1.1 p hp
     rw [hg] at e
     have := Option.some.inj e
     omega
    ·obtain ⟨g', e, q1, q2⟩ := c1.1 p hp
     exact ⟨g', e, by omega⟩
   ·have HW0 : Hid (wc = 4) := h0
    subst h0
    go_wp2_with (first
    | (go_at_call 24; (with_reducible refine Calls.mono C2 ?_); rintro e' w3 ⟨rfl, hb3⟩; rw [← HUD.out] at hb3; obtain ⟨⟨x0, x1, x2⟩, ⟨g0, g1, g2⟩, y0, ⟨z0, z1, z2⟩⟩ := FACT.out w3 hb3))
    obtain ⟨W, hWe, k1', HRes⟩ := ZERO.out 4 w3 hb3 (HRel.out.2.1 HRl.out (by first | rfl | trivial))
    rw [← hWe]
    obtain ⟨s0, s1, s2⟩ := heap_cells k1'
    refine bodyPost_ret (v := .tuple #[.agg #[.int .i64 0, .string ⟨#[]⟩, .slice none 0 0], .int .i64 4]) (by simp [results, Tryz.results21, go_sem, s0, s1, s2]) rfl ?_
    exact HRes
   ·have HW0 : Hid (wc = 53) := h0
    subst h0
    go_wp2_with (first
    | (go_at_call 24; (with_reducible refine Calls.mono C2 ?_); rintro e' w3 ⟨rfl, hb3⟩; rw [← HUD.out] at hb3; obtain ⟨⟨x0, x1, x2⟩, ⟨g0, g1, g2⟩, y0, ⟨z0, z1, z2⟩⟩ := FACT.out w3 hb3))
    obtain ⟨W, hWe, k1', HRes⟩ := ZERO.out 52 w3 hb3 (HRel.out.1 (.inr (by first | rfl | trivial)))
    rw [← hWe]
    obtain ⟨s0, s1, s2⟩ := heap_cells k1'
    refine bodyPost_ret (v := .tuple #[.agg #[.int .i64 0, .string ⟨#[]⟩, .slice none 0 0], .int .i64 52]) (by simp [results, Tryz.results21, go_sem, s0, s1, s2]) rfl ?_
    exact HRes
  ·have HRl : Hid (r1 ≠ []) := hre
   have hb0 : ((⟨r1.toArray⟩ : ByteArray).toList == []) = false := by rw [hbl]; simpa using hre
   have hb1 : ((⟨r1.toArray⟩ : ByteArray).toList != []) = true := by rw [hbl]; simpa using hre
   have hb2 : (⟨r1.toArray⟩ : ByteArray).toList.isEmpty = false := by rw [hbl]; simpa using hre
   clear hbl hre
   generalize (⟨r1.toArray⟩ : ByteArray) = rs at FACT hb0 hb1 hb2
   go_wp2_with (first
    | (go_at_call 24; (with_reducible refine Calls.mono C2 ?_); rintro e' w3 ⟨rfl, hb3⟩; rw [← HUD.out] at hb3; obtain ⟨⟨x0, x1, x2⟩, ⟨g0, g1, g2⟩, y0, ⟨z0, z1, z2⟩⟩ := FACT.out w3 hb3))
   obtain ⟨W, hWe, k1', HRes⟩ := ZERO.out 52 w3 hb3 (HRel.out.1 (.inl HRl.out))
   rw [← hWe]
   obtain ⟨s0, s1, s2⟩ := heap_cells k1'
   refine bodyPost_ret (v := .tuple #[.agg #[.int .i64 0, .string ⟨#[]⟩, .slice none 0 0], .int .i64 52]) (by simp [results, Tryz.results21, go_sem, s0, s1, s2]) rfl ?_
   exact HRes
end Go.Proofs.YtikpipenhamdbaaGreat

namespace Go.Proofs.YtikpipenhamdbaaGreat
open Go.RowKit

/-- A bound in cells: its name, its type's parts. -/
abbrev Bl4 := List UInt8 × El
def bCells (e : Bl4) : List Value := .string ⟨e.1.toArray⟩ :: elCells e.2
theorem bCells_get (es : List Bl4) (j i : Nat) (hj : j < es.length) (hi : i < 4) : (es.flatMap bCells)[j * 4 + i]? = (bCells es[j])[i]? := by
 induction es generalizing j with
 | nil => simp at hj
 | cons t r ih =>
  rw [List.flatMap_cons]
  have hl : (bCells t).length = 4 := rfl
  cases j with
  | zero =>
   rw [List.getElem?_append_left (by omega), Nat.zero_mul, Nat.zero_add]
   rfl
  | succ j =>
   rw [List.getElem?_append_right (by omega), hl, show (j + 1) * 4 + i - 4 = j * 4 + i by omega, ih j (by simpa using hj)]
   rfl
/-- A row of bounds that is made one by one, and what lies in it: each type's lists lie in blocks of their own. -/
structure RowB (w : World) (lo : Nat) (v : Value) (es : List Bl4) (bs : List Bd) (rss : List (List (Value × Nat))) : Prop where
 own : w.ownsRow lo 48 4 v es.length (es.flatMap bCells)
 len : es.length = bs.length
 rlen : rss.length = bs.length
 name : ∀ j (h : j < bs.length) (h1 : j < es.length), es[j].1 = bs[j].1 ∧ bs[j].1.length < 140737488355328
 each : ∀ j (h : j < bs.length) (h1 : j < es.length) (h2 : j < rss.length), TyO w lo bs[j].2.1 (elV es[j].2) bs[j].2.2 rss[j]
 sep : SepB lo w.heap.size rss.flatten
 away : ∀ p ∈ rss.flatten, p.1.ownBlock ≠ v.ownBlock
theorem RowB.nil (w : World) (lo : Nat) : RowB w lo (.slice none 0 0) [] [] [] := ⟨World.ownsRow_nil _ _ _ _, rfl, rfl, fun j h => by simp at h, fun j h => by simp at h, ⟨fun p hp => by simp at hp, by simp⟩, fun p hp => by simp at hp⟩
theorem RowB.on {w w' : World} {lo : Nat} {v : Value} {es : List Bl4} {bs : List Bd} {rss : List (List (Value × Nat))} (h : RowB w lo v es bs rss) (hs : w.heap.size ≤ w'.heap.size) (hb : ∀ g, lo ≤ g → g < w.heap.size → w'.heap[g]? = w.heap[g]?) : RowB w' lo v es bs rss := by
 refine ⟨own_keep h.own fun k hk => hb k (h.own.lt k hk).1 (h.own.lt k hk).2, h.len, h.rlen, h.name, fun j a b c => TyO.on _ _ _ _ (fun p hp g hg => ?_) (h.each j a b c), ⟨fun p hp => ?_, h.sep.2⟩, h.away⟩
 ·obtain ⟨g', e, h1, h2⟩ := h.sep.1 p (List.mem_flatten.2 ⟨_, List.getElem_mem c, hp⟩)
  rw [hg] at e
  have := Option.some.inj e
  exact hb g (by omega) (by omega)
 ·obtain ⟨g', e, h1, h2⟩ := h.sep.1 p hp
  exact ⟨g', e, h1, by omega⟩
/-- One more. -/
theorem RowB.snoc {w w' : World} {lo lo' : Nat} {v v' : Value} {es : List Bl4} {bs : List Bd} {rss : List (List (Value × Nat))} {e : Bl4} {t : Bd} {rws : List (Value × Nat)} (h : RowB w lo v es bs rss) (hl : lo ≤ lo') (he : TyO w lo' t.2.1 (elV e.2) t.2.2 rws) (hnm : e.1 = t.1 ∧ t.1.length < 140737488355328) (hS : SepB lo' w.heap.size rws) (hlw : lo' ≤ w.heap.size) (hA : SepB lo lo' rss.flatten) (hv : ∀ k, v.ownBlock = some k → k < lo')
  (hown : w'.ownsRow lo 48 4 v' (es.length + 1) (es.flatMap bCells ++ bCells e)) (hs : w.heap.size ≤ w'.heap.size) (hg : ∀ k, k < w.heap.size → some k ≠ v.ownBlock → w'.heap[k]? = w.heap[k]?) (hv' : v'.ownBlock = v.ownBlock ∨ ∃ g, v'.ownBlock = some g ∧ w.heap.size ≤ g) : RowB w' lo v' (es ++ [e]) (bs ++ [t]) (rss ++ [rws]) := by
 have hfl : (rss ++ [rws]).flatten = rss.flatten ++ rws := by simp
 have hSep : SepB lo w.heap.size (rss.flatten ++ rws) := hA.append hS hl (Nat.le_refl _) hlw
 have hlt : ∀ p ∈ rss.flatten ++ rws, ∃ g, p.1.ownBlock = some g ∧ g < w.heap.size ∧ p.1.ownBlock ≠ v.ownBlock := fun p hp => by
  obtain ⟨g, e1, _, e2⟩ := hSep.1 p hp
  refine ⟨g, e1, e2, ?_⟩
  rcases List.mem_append.1 hp with hp | hp
  ·exact h.away p hp
  ·obtain ⟨g', e3, e4, _⟩ := hS.1 p hp
   intro e5
   have := hv g' (by rw [← e5, e3])
   omega
 have keep : ∀ p ∈ rss.flatten ++ rws, ∀ g, p.1.ownBlock = some g → w'.heap[g]? = w.heap[g]? := fun p hp g hpg => by
  obtain ⟨g', e1, e2, e3⟩ := hlt p hp
  rw [hpg] at e1
  have e1 := Option.some.inj e1
  exact hg g (by omega) (by rw [← hpg]; exact e3)
 refine ⟨by simpa using hown, by simp [h.len], by simp [h.rlen], fun j hj hj1 => ?_, fun j hj hj1 hj2 => ?_, ?_, ?_⟩
 ·have l1 := h.len
  by_cases hlt : j < bs.length
  ·rw [List.getElem_append_left hlt, List.getElem_append_left (by omega)]
   exact h.name j hlt (by omega)
  ·have e1 : j = bs.length := by simp at hj; omega
   subst e1
   rw [List.getElem_concat_length rfl, List.getElem_concat_length l1.symm]
   exact hnm
 ·have l1 := h.len
  have l2 := h.rlen
  by_cases hlt : j < bs.length
  ·rw [List.getElem_append_left hlt, List.getElem_append_left (by omega), List.getElem_append_left (by omega)]
   exact TyO.on _ _ _ _ (fun p hp => keep p (List.mem_append.2 (.inl (List.mem_flatten.2 ⟨_, List.getElem_mem _, hp⟩)))) (h.each j hlt (by omega) (by omega))
  ·have e1 : j = bs.length := by simp at hj; omega
   subst e1
   have k1 : (bs ++ [t])[bs.length] = t := List.getElem_concat_length rfl _
   have k2 : (es ++ [e])[bs.length] = e := List.getElem_concat_length l1.symm _
   have k3 : (rss ++ [rws])[bs.length] = rws := List.getElem_concat_length l2.symm _
   rw [k1, k2, k3]
   exact TyO.mono hl _ _ _ _ (TyO.on _ _ _ _ (fun p hp => keep p (List.mem_append.2 (.inr hp))) he)
 ·rw [hfl]
  exact ⟨fun p hp => by
   obtain ⟨g, e1, e2, e3⟩ := hSep.1 p hp
   exact ⟨g, e1, e2, by omega⟩, hSep.2⟩
 ·rw [hfl]
  intro p hp e0
  obtain ⟨g, e1, e2, e3⟩ := hlt p hp
  rcases hv' with hv' | ⟨g', hv', hge⟩
  ·exact e3 (e0.trans hv')
  ·rw [e1, hv'] at e0
   have := Option.some.inj e0
   omega
/-- What can be read of it. -/
theorem RowB.at {w : World} {lo : Nat} {v : Value} {es : List Bl4} {bs : List Bd} {rss : List (List (Value × Nat))} (h : RowB w lo v es bs rss) (hn : bs.length < 140737488355328) : BdAt w w.heap.size v bs := by
 have hl := h.len
 have hr := h.rlen
 rcases id h.own.2 with ⟨hv, h0⟩ | ⟨g, cap, cur, hv, hg, hh, hcap, _⟩
 ·have e0 : bs = [] := List.length_eq_zero_iff.1 (by omega)
  subst e0
  exact ⟨none, 0, hv, by simp, fun h => absurd rfl h⟩
 ·refine ⟨_, cap, by rw [hv, hl], hn, fun _ => ⟨g, 0, rfl, by omega, lt_of_heap hh, fun j hj => ?_⟩⟩
  obtain ⟨k, n, ad, len, cp, e0⟩ := elV_own (h.each j hj (by omega) (by omega))
  have e1 : es[j].2 = (k, n, .slice ad len cp) := by
   simp only [Value.agg.injEq, Array.mk.injEq, List.cons.injEq, Value.int.injEq, Value.string.injEq, true_and, and_true] at e0
   obtain ⟨a1, a2, a3⟩ := e0
   exact Prod.ext a1 (Prod.ext a2 a3)
  have hc : ∀ i, i < 4 → ∀ u, (bCells es[j])[i]? = some u → w.cell? ⟨g, 0 + j * 4 + i, none⟩ = some u := by
   intro i hi u hu
   have := h.own.cells (g := g) (by rw [hv]; rfl) (j * 4 + i) u (by rw [bCells_get es j i (by omega) hi]; exact hu)
   rw [Nat.zero_add]
   rw [show (⟨g, 0, none⟩ : Addr).add (j * 4 + i) = ⟨g, j * 4 + i, none⟩ from by unfold Addr.add; split <;> simp_all] at this
   exact this
  have hb4 : bCells es[j] = [.string ⟨bs[j].1.toArray⟩, .int .i64 k, .string n, .slice ad len cp] := by
   rw [bCells, (h.name j hj (by omega)).1, e1]
   rfl
  rw [hb4] at hc
  have hglt := lt_of_heap hh
  refine ⟨(h.name j hj (by omega)).2, k, n, ad, len, cp, fun w' hb => ⟨(hb.cell (p := ⟨g, 0 + j * 4, none⟩) hglt).trans (hc 0 (by omega) _ rfl), (hb.cell (p := ⟨g, 0 + j * 4 + 1, none⟩) hglt).trans (hc 1 (by omega) _ rfl), (hb.cell (p := ⟨g, 0 + j * 4 + 2, none⟩) hglt).trans (hc 2 (by omega) _ rfl), (hb.cell (p := ⟨g, 0 + j * 4 + 3, none⟩) hglt).trans (hc 3 (by omega) _ rfl)⟩, ?_⟩
  have hT := h.each j hj (by omega) (by omega)
  rw [e1] at hT
  exact TyO.at _ _ _ _ (fun p hp g' hg' => h.sep.lt (Nat.le_refl _) p (List.mem_flatten.2 ⟨_, List.getElem_mem _, hp⟩) g' hg') hT
end Go.Proofs.YtikpipenhamdbaaGreat

namespace Go.Proofs.YtikpipenhamdbaaGreat
open Go.RowKit

theorem add_zero_addr (g i : Nat) : (⟨g, 0, none⟩ : Addr).add i = ⟨g, i, none⟩ := by
 unfold Addr.add
 split
 ·rename_i h0; rw [h0]
 ·simp
theorem Tryz.infoB47 : (Tryz.prog.info? 48).map (fun i => (i.zero, i.size, i.bytes)) = some (some (.agg #[.string ⟨#[]⟩, .int .i64 0, .string ⟨#[]⟩, .slice none 0 0]), 4, 64) := by kernel_rfl
theorem grown_below {w w' : World} {B : Nat} {row : Option Nat} (h : w.grownBy w' row) (hB : B ≤ w.heap.size) (hr : ∀ g, row = some g → B ≤ g) : Below B w w' := ⟨h.os, h.tape, h.output, h.size, fun k hk => h.block k (by omega) fun e => by have := hr k e.symm; omega⟩
end Go.Proofs.YtikpipenhamdbaaGreat
