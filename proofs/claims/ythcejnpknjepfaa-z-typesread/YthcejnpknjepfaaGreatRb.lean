/- The program's reader: the contract of args, if part reads as it should. -/
import Derived.Test.YthcejnpknjepfaaGreatRo
namespace Go.Proofs.YthcejnpknjepfaaGreat
open Go.RowKit

/-- What part answers. -/
def PartPost (w : World) (q : Nat) (l : List UInt8) (m : Nat) (r : Ending) (w' : World) : Prop :=
  ∃ (k : Int) (n : ByteArray) (ad : Option Addr) (len cap : Nat) (t : Tn m) (rws : List (Value × Nat)) (l' : List UInt8), r = .returned (.agg #[.int .i64 k, .string n, .slice ad len cap]) ∧ RdS w w' q l' ∧ PartOk l m t l' ∧
    l'.length + (flat m t).length ≤ l.length + 1 ∧ l'.length ≤ l.length ∧ TyO w' w.heap.size m (.agg #[.int .i64 k, .string n, .slice ad len cap]) t rws ∧ SepB w.heap.size w'.heap.size rws
def Parts (m : Nat) : Prop := ∀ (l : List UInt8) (q : Nat) (w : World), RdAt w q l → l.length < m → l.length ≤ 65536 → Calls Tryz.prog 30 #[.pointer (some ⟨q, 0, none⟩)] w (PartPost w q l m)
/-- What args answers. -/
def ArgsPost (w : World) (q : Nat) (l : List UInt8) (m : Nat) (r : Ending) (w' : World) : Prop :=
  ∃ (ad : Option Addr) (cap : Nat) (es : List El) (ts : List (Tn m)) (rss : List (List (Value × Nat))) (l' : List UInt8), r = .returned (.slice ad ts.length cap) ∧ RdS w w' q l' ∧ ArgsOk l m ts l' ∧ begB [32] l' = false ∧
    l'.length + (flats m ts).length ≤ l.length ∧ RowO w' w.heap.size m (.slice ad ts.length cap) es ts rss
theorem flats_pos (m : Nat) (ts : List (Tn m)) : ts.length ≤ (flats m ts).length := by
  induction ts with
  | nil => simp
  | cons t ts ih =>
    rw [flats_cons, List.length_append, List.length_cons]
    have := flat_pos m t
    omega
theorem flats_app (m : Nat) (a b : List (Tn m)) : flats m (a ++ b) = flats m a ++ flats m b := by simp [flats]
theorem RdS.trans {w w1 w2 : World} {q : Nat} {l1 l2 : List UInt8} (h1 : RdS w w1 q l1) (h2 : RdS w1 w2 q l2) : RdS w w2 q l2 :=
  ⟨⟨h2.grow.os.trans h1.grow.os, h2.grow.tape.trans h1.grow.tape, h2.grow.output.trans h1.grow.output, Nat.le_trans h1.grow.size h2.grow.size, fun k hk hne => (h2.grow.block k (Nat.lt_of_lt_of_le hk h1.grow.size) hne).trans (h1.grow.block k hk hne)⟩, h2.at'⟩
/-- Between the rounds of args. -/
structure ArW (w : World) (q : Nat) (l : List UInt8) (m : Nat) (wr : World) (v : Value) (es : List El) (ts : List (Tn m)) (rss : List (List (Value × Nat))) (c : List UInt8) : Prop where
  rd : RdS w wr q c
  ok : ArgsOk l m ts c
  num : c.length + (flats m ts).length ≤ l.length
  row : RowO wr w.heap.size m v es ts rss
  qlt : q < w.heap.size
/-- The row and the reader behind a skip. -/
theorem ArW.skip {w : World} {q : Nat} {l : List UInt8} {m : Nat} {wr w1 : World} {v : Value} {es : List El} {ts : List (Tn m)} {rss : List (List (Value × Nat))} {c c' : List UInt8} (h : ArW w q l m wr v es ts rss c) (h1 : RdS wr w1 q c') : RdS w w1 q c' ∧ RowO w1 w.heap.size m v es ts rss :=
  ⟨h.rd.trans h1, h.row.on h1.grow.size fun g hg hlt => h1.grow.block g hlt (by intro e; have := Option.some.inj e; have := h.qlt; omega)⟩
theorem row_form {w : World} {lo d : Nat} {v : Value} {es : List El} {ts : List (Tn d)} {rss : List (List (Value × Nat))} (h : RowO w lo d v es ts rss) : ∃ ad cap, v = .slice ad ts.length cap := by
  rcases h.own.2 with ⟨h0, h1⟩ | ⟨g, cap, _, h1, _⟩
  · exact ⟨none, 0, by rw [h0, ← h.len, h1]⟩
  · exact ⟨_, cap, by rw [h1, h.len]⟩
set_option maxHeartbeats 16000000 in
set_option maxRecDepth 10000 in
theorem args_any (m : Nat) (IH : Parts m) (l : List UInt8) (q : Nat) (w : World) (h : RdAt w q l) (hl : l.length ≤ m) (h6 : l.length ≤ 65536) : Calls Tryz.prog 55 #[.pointer (some ⟨q, 0, none⟩)] w (ArgsPost w q l m) := by
  have hq := lt_of_heap h
  have H0 : Hid (ArW w q l m w (.slice none 0 0) [] [] [] l) := ⟨⟨⟨rfl, rfl, rfl, Nat.le_refl _, fun _ _ _ => rfl⟩, h⟩, ArgsOk.nil l m, by simp [flats], RowO.nil _ _ _, hq⟩
  have HIH : Hid (Parts m) := IH
  clear IH h hq
  obtain ⟨i0, hi, hz0, hz1, hz2⟩ := info_parts Tryz.info25
  go_enter Tryz.func55, Tryz.ntmps55
  go_wp2
  go_loopg [3] l.length (fun g v wr => ∃ (es : List El) (ts : List (Tn m)) (rss : List (List (Value × Nat))) (c : List UInt8), c.length ≤ g ∧ ArW w q l m wr v es ts rss c)
  case atStart => exact ⟨[], [], [], l, Nat.le_refl _, H0.out⟩
  case round =>
    obtain ⟨es, ts, rss, c, hcg, hA⟩ := hrel
    obtain ⟨ad, cap, rfl⟩ := row_form hA.row
    have HA : Hid (ArW w q l m wr (.slice ad ts.length cap) es ts rss c) := hA
    have C1 := skip_any c [32] q wr hA.rd.at'
    have hnum := hA.num
    clear H0 hA
    cases hb : begB [32] c with
    | false =>
      rw [hb] at C1
      have C1 : Calls Tryz.prog 53 #[.pointer (some ⟨q, 0, none⟩), .string ⟨#[32]⟩] wr fun e w' => e = .returned (.bool false) ∧ w'.heap.size = wr.heap.size ∧ RdS wr w' q c := C1
      clear hi hz0 hz1 hz2
      go_wp2_with (go_at_call 53; (with_reducible refine Calls.mono C1 ?_); rintro e' w1 ⟨rfl, hs1, hr1⟩)
      go_ret
      obtain ⟨k1, k2⟩ := HA.out.skip hr1
      exact ⟨ad, cap, es, ts, rss, c, rfl, k1, HA.out.ok, hb, HA.out.num, k2⟩
    | true =>
      obtain ⟨c2, rfl⟩ := beg_one hb
      rw [hb] at C1
      have C1 : Calls Tryz.prog 53 #[.pointer (some ⟨q, 0, none⟩), .string ⟨#[32]⟩] wr fun e w' => e = .returned (.bool true) ∧ w'.heap.size = wr.heap.size ∧ RdS wr w' q c2 := C1
      rw [List.length_cons] at hnum hcg
      have hfp := flats_pos m ts
      have CP : ∀ w1, RdS wr w1 q c2 → Calls Tryz.prog 30 #[.pointer (some ⟨q, 0, none⟩)] w1 (PartPost w1 q c2 m) := fun w1 h1 => HIH.out c2 q w1 h1.at' (by omega) (by omega)
      have HX : Hid (∀ w1 w2 l', RdS wr w1 q c2 → RdS w1 w2 q l' → RdS w w2 q l' ∧ RowO w2 w.heap.size m (.slice ad ts.length cap) es ts rss ∧ RowO w1 w.heap.size m (.slice ad ts.length cap) es ts rss ∧ w.heap.size ≤ w1.heap.size ∧ w1.heap.size ≤ w2.heap.size) := fun w1 w2 l' h1 h2 => ⟨(HA.out.skip (h1.trans h2)).1, (HA.out.skip (h1.trans h2)).2, (HA.out.skip h1).2, (HA.out.skip h1).1.grow.size, h2.grow.size⟩
      have hel : es.length = ts.length := HA.out.row.len
      have hts : ts.length ≤ 65536 := by omega
      go_wp2_with (first
        | (go_at_call 53; (with_reducible refine Calls.mono C1 ?_); rintro e' w1 ⟨rfl, hs1, hr1⟩)
        | (go_at_call 30; (with_reducible refine Calls.mono (CP w1 hr1) ?_); intro e' w2 hp; obtain ⟨k2, n2, ad2, len2, cap2, t2, rws2, l2, rfl, hr2, hok2, hn2, hle2, hT2, hS2⟩ := hp; obtain ⟨rd2, row2, row1, hz1w, hz12⟩ := HX.out _ _ _ hr1 hr2; have own2 : w2.ownsRow w.heap.size 25 3 (.slice ad ts.length cap) ts.length (es.flatMap elCells) := by have h := row2.own; rw [hel] at h; exact h)
        | (at_builtin; refine wpList_append_lies _ rfl _ _ 23 rfl w.heap.size 25 i0 _ 3 48 Tryz.underlying23 hi hz0 hz1 hz2 rfl (by decide) (.slice ad ts.length cap) ts.length (es.flatMap elCells) rfl (own2.alloc _) ⟨w2.heap.size, 0, none⟩ 1 1 [.int .i64 k2, .string n2, .slice ad2 len2 cap2] rfl rfl (World.news_of_block (cs := #[.int .i64 k2, .string n2, .slice ad2 len2 cap2]) (t := 25) (fr := (0, 0)) (heap_alloc_new w2 _)) (by simp [Value.oneCell']) (by omega) (by unfold maxLen; omega) (by omega) (by simp; omega) (w2.heap.size + 1) (by simp) ?_; intro g cap3 w3 hown3 hgrow hat hlt3))
      have HN : Hid (ArW w q l m w3 (.slice (some ⟨g, 0, none⟩) (ts.length + 1) cap3) (es ++ [(k2, n2, .slice ad2 len2 cap2)]) (ts ++ [t2]) (rss ++ [rws2]) l2) := by
        have hA := HA.out
        have hbl : ∀ k, k < w2.heap.size → some k ≠ (Value.slice ad ts.length cap).ownBlock → w3.heap[k]? = w2.heap[k]? := fun k hk hne => by
          rw [hgrow.block k (by simp; omega) hne]
          exact Below.heap_alloc _ _ _ hk
        have hsz3 : w2.heap.size ≤ w3.heap.size := by have := hgrow.size; simp at this; omega
        have hqn : ∀ k, (Value.slice ad ts.length cap).ownBlock = some k → w.heap.size ≤ k ∧ k < w1.heap.size := fun k hk => row1.own.lt k hk
        refine ⟨⟨⟨hgrow.os.trans rd2.grow.os, hgrow.tape.trans rd2.grow.tape, hgrow.output.trans rd2.grow.output, Nat.le_trans rd2.grow.size hsz3, fun k hk hne => ?_⟩, ?_⟩, hA.ok.snoc hok2, ?_, ?_, hA.qlt⟩
        · rw [hbl k (Nat.lt_of_lt_of_le hk rd2.grow.size) (fun e => by have := hqn k e.symm; omega), rd2.grow.block k hk hne]
        · show w3.heap[q]? = _
          rw [hbl q (lt_of_heap rd2.at') (fun e => by have := hqn q e.symm; have := hA.qlt; omega)]
          exact rd2.at'
        · rw [flats_app, List.length_append, flats_cons, flats_nil, List.append_nil]
          omega
        · refine row2.snoc hz1w hT2 hS2 hz12 ⟨fun p hp => ?_, row2.sep.2⟩ (fun k hk => (hqn k hk).2) ?_ hsz3 hbl ?_
          · obtain ⟨g', e1, e2, e3⟩ := row1.sep.1 p hp
            exact ⟨g', e1, e2, e3⟩
          · rw [hel]
            exact hown3
          · rcases hat with hat | hat
            · exact .inl hat.symm
            · exact .inr ⟨g, rfl, by omega⟩
      clear hown3 hgrow hat hlt3 own2 row1 row2 rd2 hT2 hS2 hok2 hr1 hr2 HX CP C1 HA HIH
      go_roundg l2.length
      case measure => omega
      case rel => exact ⟨_, ts ++ [t2], _, l2, Nat.le_refl _, by simpa using HN.out⟩
end Go.Proofs.YthcejnpknjepfaaGreat
