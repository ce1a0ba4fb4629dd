/- TypesCanon answers true, whatever types it is handed, if Canon, Print and awake answer as the document says and what Canon answers is its owner's. -/
import Derived.Test.YthcejnpknjepfaaGreatDoorMd
import Derived.Test.YthcejnpknjepfaaGreatDoorKe
import Derived.Test.YthcejnpknjepfaaGreatDoorMq
namespace Go.Proofs.YthcejnpknjepfaaGreatDoor
open Go.RowKit

/-- The nodes of what Canon answers. -/
def canonF (d : Nat) (t : Tn d) : List Nd := if wrongT d t ≠ 0 then [(0, [], 0)] else flat d (canonT d t)
theorem CanonPost.rel {w w' : World} {d : Nat} {t : Tn d} {r : Ending} (h : CanonPost w d t r w') : Below w.heap.size w w' ∧ ∃ (k : Int) (n : ByteArray) (ad : Option Addr) (len cap : Nat) (d' : Nat) (t' : Tn d'), r = .returned (.tuple #[.agg #[.int .i64 k, .string n, .slice ad len cap], .int .i64 (wrongT d t)]) ∧ TyAt w' w'.heap.size d' (.agg #[.int .i64 k, .string n, .slice ad len cap]) t' ∧ flat d' t' = canonF d t := by
  obtain ⟨hb, k, n, ad, len, cap, hr, h⟩ := h
  refine ⟨hb, k, n, ad, len, cap, ?_⟩
  rcases h with ⟨he, rfl, rfl, rfl, rfl, rfl⟩ | ⟨he, hT⟩
  · exact ⟨1, ((0, []), []), hr, zero_at _ _ _ _, by rw [canonF, if_pos he, flat_succ, flats_nil]; rfl⟩
  · exact ⟨d, canonT d t, hr, TyS.at (fun _ q => q.2) _ _ _ hT, by rw [canonF, if_neg (by simpa using he)]⟩
/-- What a Canon answers whose answers are their owner's. -/
def CanonPostO (w : World) (d : Nat) (t : Tn d) (r : Ending) (w' : World) : Prop :=
  Below w.heap.size w w' ∧ ∃ (k : Int) (n : ByteArray) (ad : Option Addr) (len cap : Nat) (d' : Nat) (t' : Tn d') (rws : List (Value × Nat)), r = .returned (.tuple #[.agg #[.int .i64 k, .string n, .slice ad len cap], .int .i64 (wrongT d t)]) ∧
    TyO w' w.heap.size d' (.agg #[.int .i64 k, .string n, .slice ad len cap]) t' rws ∧ Sep w'.heap.size rws ∧ rws.length ≤ 500 ∧ (∀ p ∈ rws, p.2 ≤ 6) ∧ flat d' t' = canonF d t
/-- A function that makes canonical as the document says. -/
def CanonsO (f : Nat) : Prop := ∀ (d : Nat) (x : Value) (t : Tn d) (w : World) (B : Nat), B ≤ w.heap.size → TyAt w B d x t → (flat d t).length ≤ 4194304 → Calls Tryz.prog f #[x] w (CanonPostO w d t)
/-- An owned tree in a box. -/
structure Bo (U : World) (lo hi b : Nat) (k : Int) (n : ByteArray) (ad : Option Addr) (len cap d : Nat) (t : Tn d) (rws : List (Value × Nat)) : Prop where
  box : Bx U b k n ad len cap d t
  own : TyO U lo d (.agg #[.int .i64 k, .string n, .slice ad len cap]) t rws
  sep : SepB lo hi rws
  hi : hi ≤ U.heap.size
  num : rws.length ≤ 500
  six : ∀ p ∈ rws, p.2 ≤ 6
theorem Bo.on {U U' : World} {lo hi b : Nat} {k : Int} {n : ByteArray} {ad : Option Addr} {len cap d : Nat} {t : Tn d} {rws : List (Value × Nat)} (h : Bo U lo hi b k n ad len cap d t rws) (hb : Below U.heap.size U U') : Bo U' lo hi b k n ad len cap d t rws :=
  ⟨h.box.on hb, TyO.on (w' := U') _ _ _ _ (fun p hp g hg => hb.block g (h.sep.lt h.hi p hp g hg)) h.own, h.sep, Nat.le_trans h.hi hb.size, h.num, h.six⟩
theorem Bo.new {w : World} {lo : Nat} {k : Int} {n : ByteArray} {ad : Option Addr} {len cap d : Nat} {t : Tn d} {rws : List (Value × Nat)} (O : TyO w lo d (.agg #[.int .i64 k, .string n, .slice ad len cap]) t rws) (S : Sep w.heap.size rws) (N : rws.length ≤ 500) (M : ∀ p ∈ rws, p.2 ≤ 6) : ∃ U, U = w.alloc (Obj.cells #[.int .i64 k, .string n, .slice ad len cap] 24) ∧ Below w.heap.size w U ∧ Bo U lo w.heap.size w.heap.size k n ad len cap d t rws := by
  have hlt : ∀ p ∈ rws, ∀ g, p.1.ownBlock = some g → g < w.heap.size := fun p hp g hg => by obtain ⟨g', e1, e2⟩ := S.1 p hp; rw [e1] at hg; exact Option.some.inj hg ▸ e2
  obtain ⟨U, hU, hb, X⟩ := Bx.new (TyO.at _ _ _ _ hlt O)
  exact ⟨U, hU, hb, X, TyO.on (w' := U) _ _ _ _ (fun p hp g hg => hb.block g (hlt p hp g hg)) O, SepB.of O S, hb.size, N, M⟩
/-- A lent tree in a box. -/
structure Bl (U : World) (b : Nat) (k : Int) (n : ByteArray) (ad : Option Addr) (len cap d : Nat) (t : Tn d) : Prop where
  box : Bx U b k n ad len cap d t
  tl : TyL U (fun g => g < U.heap.size) d (.agg #[.int .i64 k, .string n, .slice ad len cap]) t
theorem Bl.on {U U' : World} {b : Nat} {k : Int} {n : ByteArray} {ad : Option Addr} {len cap d : Nat} {t : Tn d} (h : Bl U b k n ad len cap d t) (hb : Below U.heap.size U U') : Bl U' b k n ad len cap d t :=
  ⟨h.box.on hb, TyL.on (fun _ q => Nat.lt_of_lt_of_le q hb.size) (fun g q => hb.block g q) _ _ _ h.tl⟩
theorem Bl.new {w : World} {lo : Nat} {k : Int} {n : ByteArray} {ad : Option Addr} {len cap d : Nat} {t : Tn d} (h : TyL w (fun g => lo ≤ g ∧ g < w.heap.size) d (.agg #[.int .i64 k, .string n, .slice ad len cap]) t) : ∃ U, U = w.alloc (Obj.cells #[.int .i64 k, .string n, .slice ad len cap] 24) ∧ Below w.heap.size w U ∧ Bl U w.heap.size k n ad len cap d t := by
  obtain ⟨U, hU, hb, X⟩ := Bx.new (TyL.at (fun _ q => q.2) _ _ _ h)
  exact ⟨U, hU, hb, X, TyL.on (fun _ q => Nat.lt_of_lt_of_le q.2 hb.size) (fun g q => hb.block g q.2) _ _ _ h⟩
set_option maxHeartbeats 16000000 in
set_option maxRecDepth 10000 in
theorem canons_small (hC : CanonsO 9) (hP : Prints 10) (hA : Wakes) (d d2 : Nat) (t : Tn d) (s : Tn d2) (k k' : Int) (n n' : ByteArray) (ad ad' : Option Addr) (len len' cap cap' : Nat) (w : World) (h : TyAt w w.heap.size d (.agg #[.int .i64 k, .string n, .slice ad len cap]) t) (h' : TyAt w w.heap.size d2 (.agg #[.int .i64 k', .string n', .slice ad' len' cap']) s) (hg : greatT d t = false) (hg' : greatT d2 s = false) :
    Calls Tryz.prog 3 #[.agg #[.int .i64 k, .string n, .slice ad len cap], .agg #[.int .i64 k', .string n', .slice ad' len' cap']] w fun r w' => r = .returned (.bool true) ∧ Below w.heap.size w w' := by
  have CA : ∀ w : World, Calls Tryz.prog 6 #[] w fun r w' => r = .returned (.bool true) ∧ Below w.heap.size w w' := hA
  have HN : Hid ((flat d t).length ≤ 4194304 ∧ (flat d2 s).length ≤ 4194304) := ⟨great_nodes hg, great_nodes hg'⟩
  have HC : Hid (CanonsO 9) := hC
  have HP : Hid (Prints 10) := hP
  obtain ⟨V, hV, hbV, X0⟩ := Bx.new h
  obtain ⟨W, hW, hbW, X1⟩ := Bx.new (TyAt.below hbV hbV.size _ _ _ h')
  have X0 := X0.on hbW
  have hsV : V.heap.size = w.heap.size + 1 := by rw [hV]; simp
  rw [hsV] at X1
  have HB : Hid (Below w.heap.size w W) := hbV.trans (hbW.mono hbV.size)
  have CG := great_any _ _ t W X0.tree
  rw [hg] at CG
  have hWe : W = (w.alloc (Obj.cells #[.int .i64 k, .string n, .slice ad len cap] 24)).alloc (Obj.cells #[.int .i64 k', .string n', .slice ad' len' cap'] 24) := by rw [hW, hV]
  clear hW hV hbV hbW hsV h h' hA hC hP hg
  go_enter Tryz.func3, Tryz.ntmps3
  go_upto_region 1 with fail
  rw [← hWe]
  generalize hz : w.heap.size = z at X0 X1 ⊢
  clear hWe hz
  obtain ⟨x0, x1, x2⟩ : _ ∧ _ ∧ _ := ⟨X0.c0, X0.c1, X0.c2⟩
  go_upto_region 2 with (go_at_call 5; (with_reducible refine Calls.mono CG ?_); rintro e' w1 ⟨rfl, hb⟩)
  clear CG x0 x1 x2
  have X0 := X0.on hb
  have X1 := X1.on hb
  have HB := HB.out.trans (hb.mono HB.out.size)
  have HB : Hid (Below w.heap.size w w1) := HB
  clear hb
  have CG := great_any _ _ s w1 X1.tree
  rw [hg'] at CG
  obtain ⟨x0, x1, x2⟩ : _ ∧ _ ∧ _ := ⟨X1.c0, X1.c1, X1.c2⟩
  go_upto_region 5 with (go_at_call 5; (with_reducible refine Calls.mono CG ?_); rintro e' w2 ⟨rfl, hb⟩)
  clear CG x0 x1 x2 hg'
  have X0 := X0.on hb
  have X1 := X1.on hb
  have HB := HB.out.trans (hb.mono HB.out.size)
  have HB : Hid (Below w.heap.size w w2) := HB
  clear hb
  go_upto_region 6 with (go_at_call 6; (with_reducible refine Calls.mono (CA _) ?_); rintro e' w3 ⟨rfl, hb⟩)
  clear CA
  have X0 := X0.on hb
  have X1 := X1.on hb
  have HB := HB.out.trans (hb.mono HB.out.size)
  have HB : Hid (Below w.heap.size w w3) := HB
  clear hb
  have CL := lent_any _ _ t w3 w3.heap.size (Nat.le_refl _) X0.tree HN.out.1
  obtain ⟨x0, x1, x2⟩ : _ ∧ _ ∧ _ := ⟨X0.c0, X0.c1, X0.c2⟩
  go_upto_region 7 with (go_at_call 7; (with_reducible refine Calls.mono CL ?_); intro e' w4 hpost; obtain ⟨hb4, ku, nu, au, lu, cu, rfl, TU⟩ := hpost)
  clear CL x0 x1 x2
  obtain ⟨U4, hU, hbU, XU⟩ := Bl.new TU
  rw [← hU]
  have hb : Below w3.heap.size w3 U4 := hb4.trans (hbU.mono hb4.size)
  clear hU hbU hb4 TU
  have X0 := X0.on hb
  have X1 := X1.on hb
  have HB := HB.out.trans (hb.mono HB.out.size)
  have HB : Hid (Below w.heap.size w U4) := HB
  clear hb
  generalize w4.heap.size = zu at XU ⊢
  have CR := canon_ref _ _ t U4 U4.heap.size (Nat.le_refl _) X0.tree HN.out.1
  obtain ⟨x0, x1, x2⟩ : _ ∧ _ ∧ _ := ⟨X0.c0, X0.c1, X0.c2⟩
  go_upto_region 8 with (go_at_call 8; (with_reducible refine Calls.mono CR ?_); intro e' w5 hpost; obtain ⟨hb4, k5, n5, a5, l5, c5, d5, t5, rfl, TT, E5⟩ := hpost.rel)
  clear CR x0 x1 x2 hpost
  obtain ⟨U5, hU, hbU, X2⟩ := Bx.new TT
  rw [← hU]
  have hb : Below U4.heap.size U4 U5 := hb4.trans (hbU.mono hb4.size)
  have E5 : Hid (flat d5 t5 = canonF _ t) := E5
  clear hU hbU hb4 TT
  have X0 := X0.on hb
  have X1 := X1.on hb
  have XU := XU.on hb
  have HB := HB.out.trans (hb.mono HB.out.size)
  have HB : Hid (Below w.heap.size w U5) := HB
  clear hb
  generalize w5.heap.size = z5 at X2 ⊢
  have CR := canon_ref _ _ s U5 U5.heap.size (Nat.le_refl _) X1.tree HN.out.2
  obtain ⟨x0, x1, x2⟩ : _ ∧ _ ∧ _ := ⟨X1.c0, X1.c1, X1.c2⟩
  go_upto_region 9 with (go_at_call 8; (with_reducible refine Calls.mono CR ?_); intro e' w6 hpost; obtain ⟨hb4, k6, n6, a6, l6, c6, d6, t6, rfl, TT, E6⟩ := hpost.rel)
  clear CR x0 x1 x2 hpost
  obtain ⟨U6, hU, hbU, X3⟩ := Bx.new TT
  rw [← hU]
  have hb : Below U5.heap.size U5 U6 := hb4.trans (hbU.mono hb4.size)
  have E6 : Hid (flat d6 t6 = canonF _ s) := E6
  clear hU hbU hb4 TT
  have X0 := X0.on hb
  have X1 := X1.on hb
  have XU := XU.on hb
  have X2 := X2.on hb
  have HB := HB.out.trans (hb.mono HB.out.size)
  have HB : Hid (Below w.heap.size w U6) := HB
  clear hb
  generalize w6.heap.size = z6 at X3 ⊢
  have CR := HC.out _ _ t U6 U6.heap.size (Nat.le_refl _) XU.box.tree HN.out.1
  obtain ⟨x0, x1, x2⟩ : _ ∧ _ ∧ _ := ⟨XU.box.c0, XU.box.c1, XU.box.c2⟩
  go_upto_region 10 with (go_at_call 9; (with_reducible refine Calls.mono CR ?_); intro e' w7 hpost; obtain ⟨hb4, k7, n7, a7, l7, c7, d7, t7, r7, rfl, OO, SS, NN, MM, E7⟩ := hpost)
  clear CR x0 x1 x2
  obtain ⟨U7, hU, hbU, XA⟩ := Bo.new OO SS NN MM
  rw [← hU]
  have hb : Below U6.heap.size U6 U7 := hb4.trans (hbU.mono hb4.size)
  have E7 : Hid (flat d7 t7 = canonF _ t) := E7
  have L7 : Hid (w.heap.size ≤ U6.heap.size ∧ U6.heap.size ≤ w7.heap.size ∧ w7.heap.size ≤ U7.heap.size) := ⟨HB.out.size, hb4.size, XA.hi⟩
  clear hU hbU hb4 OO SS NN MM
  have X0 := X0.on hb
  have X1 := X1.on hb
  have XU := XU.on hb
  have X2 := X2.on hb
  have X3 := X3.on hb
  have HB := HB.out.trans (hb.mono HB.out.size)
  have HB : Hid (Below w.heap.size w U7) := HB
  clear hb
  generalize w7.heap.size = z7 at XA L7 ⊢
  have CR := HC.out _ _ t U7 U7.heap.size (Nat.le_refl _) XU.box.tree HN.out.1
  obtain ⟨x0, x1, x2⟩ : _ ∧ _ ∧ _ := ⟨XU.box.c0, XU.box.c1, XU.box.c2⟩
  go_upto_region 11 with (go_at_call 9; (with_reducible refine Calls.mono CR ?_); intro e' w8 hpost; obtain ⟨hb4, k8, n8, a8, l8, c8, d8, t8, r8, rfl, OO, SS, NN, MM, E8⟩ := hpost)
  clear CR x0 x1 x2
  obtain ⟨U8, hU, hbU, XB⟩ := Bo.new OO SS NN MM
  rw [← hU]
  have hb : Below U7.heap.size U7 U8 := hb4.trans (hbU.mono hb4.size)
  have E8 : Hid (flat d8 t8 = canonF _ t) := E8
  have L8 : Hid (w.heap.size ≤ U7.heap.size ∧ U7.heap.size ≤ w8.heap.size ∧ w8.heap.size ≤ U8.heap.size) := ⟨HB.out.size, hb4.size, XB.hi⟩
  clear hU hbU hb4 OO SS NN MM
  have X0 := X0.on hb
  have X1 := X1.on hb
  have XU := XU.on hb
  have X2 := X2.on hb
  have X3 := X3.on hb
  have XA := XA.on hb
  have HB := HB.out.trans (hb.mono HB.out.size)
  have HB : Hid (Below w.heap.size w U8) := HB
  clear hb
  generalize w8.heap.size = z8 at XB L8 ⊢
  have CR := HC.out _ _ s U8 U8.heap.size (Nat.le_refl _) X1.tree HN.out.2
  obtain ⟨x0, x1, x2⟩ : _ ∧ _ ∧ _ := ⟨X1.c0, X1.c1, X1.c2⟩
  go_upto_region 12 with (go_at_call 9; (with_reducible refine Calls.mono CR ?_); intro e' w9 hpost; obtain ⟨hb4, k9, n9, a9, l9, c9, d9, t9, r9, rfl, OO, SS, NN, MM, E9⟩ := hpost)
  clear CR x0 x1 x2
  obtain ⟨U9, hU, hbU, XC⟩ := Bo.new OO SS NN MM
  rw [← hU]
  have hb : Below U8.heap.size U8 U9 := hb4.trans (hbU.mono hb4.size)
  have E9 : Hid (flat d9 t9 = canonF _ s) := E9
  have L9 : Hid (w.heap.size ≤ U8.heap.size ∧ U8.heap.size ≤ w9.heap.size ∧ w9.heap.size ≤ U9.heap.size) := ⟨HB.out.size, hb4.size, XC.hi⟩
  clear hU hbU hb4 OO SS NN MM
  have X0 := X0.on hb
  have X1 := X1.on hb
  have XU := XU.on hb
  have X2 := X2.on hb
  have X3 := X3.on hb
  have XA := XA.on hb
  have XB := XB.on hb
  have HB := HB.out.trans (hb.mono HB.out.size)
  have HB : Hid (Below w.heap.size w U9) := HB
  clear hb
  generalize w9.heap.size = z9 at XC L9 ⊢
  have CR := HC.out _ _ t U9 U9.heap.size (Nat.le_refl _) XU.box.tree HN.out.1
  obtain ⟨x0, x1, x2⟩ : _ ∧ _ ∧ _ := ⟨XU.box.c0, XU.box.c1, XU.box.c2⟩
  go_upto_region 13 with (go_at_call 9; (with_reducible refine Calls.mono CR ?_); intro e' w10 hpost; obtain ⟨hb4, k10, n10, a10, l10, c10, d10, t10, r10, rfl, OO, SS, NN, MM, E10⟩ := hpost)
  clear CR x0 x1 x2
  obtain ⟨U10, hU, hbU, XD⟩ := Bo.new OO SS NN MM
  rw [← hU]
  have hb : Below U9.heap.size U9 U10 := hb4.trans (hbU.mono hb4.size)
  have E10 : Hid (flat d10 t10 = canonF _ t) := E10
  have L10 : Hid (w.heap.size ≤ U9.heap.size ∧ U9.heap.size ≤ w10.heap.size ∧ w10.heap.size ≤ U10.heap.size) := ⟨HB.out.size, hb4.size, XD.hi⟩
  clear hU hbU hb4 OO SS NN MM
  have X0 := X0.on hb
  have X1 := X1.on hb
  have XU := XU.on hb
  have X2 := X2.on hb
  have X3 := X3.on hb
  have XA := XA.on hb
  have XB := XB.on hb
  have XC := XC.on hb
  have HB := HB.out.trans (hb.mono HB.out.size)
  have HB : Hid (Below w.heap.size w U10) := HB
  clear hb
  generalize w10.heap.size = z10 at XD L10 ⊢
  obtain ⟨ls, es, hpv, hls, _, _⟩ := print_facts d t
  have CP := HP.out _ _ t U10 U10.heap.size (Nat.le_refl _) XU.box.tree HN.out.1
  rw [hpv] at CP
  obtain ⟨x0, x1, x2⟩ : _ ∧ _ ∧ _ := ⟨XU.box.c0, XU.box.c1, XU.box.c2⟩
  go_upto_region 14 with (go_at_call 10; (with_reducible refine Calls.mono CP ?_); rintro e' w11 ⟨rfl, hb⟩)
  clear CP x0 x1 x2
  have X0 := X0.on hb
  have X1 := X1.on hb
  have XU := XU.on hb
  have X2 := X2.on hb
  have X3 := X3.on hb
  have XA := XA.on hb
  have XB := XB.on hb
  have XC := XC.on hb
  have XD := XD.on hb
  have HB := HB.out.trans (hb.mono HB.out.size)
  have HB : Hid (Below w.heap.size w w11) := HB
  clear hb
  have CP := print_ref _ _ t w11 w11.heap.size (Nat.le_refl _) X0.tree HN.out.1
  rw [hpv] at CP
  obtain ⟨x0, x1, x2⟩ : _ ∧ _ ∧ _ := ⟨X0.c0, X0.c1, X0.c2⟩
  go_upto_region 15 with (go_at_call 11; (with_reducible refine Calls.mono CP ?_); rintro e' w12 ⟨rfl, hb⟩)
  clear CP x0 x1 x2 hpv
  have X0 := X0.on hb
  have X1 := X1.on hb
  have XU := XU.on hb
  have X2 := X2.on hb
  have X3 := X3.on hb
  have XA := XA.on hb
  have XB := XB.on hb
  have XC := XC.on hb
  have XD := XD.on hb
  have HB := HB.out.trans (hb.mono HB.out.size)
  have HB : Hid (Below w.heap.size w w12) := HB
  clear hb
  have CK := kept_any _ _ _ t w12 w12.heap.size (Nat.le_refl _) XU.tl X0.tree
  obtain ⟨x0, x1, x2⟩ : _ ∧ _ ∧ _ := ⟨XU.box.c0, XU.box.c1, XU.box.c2⟩
  obtain ⟨y0, y1, y2⟩ : _ ∧ _ ∧ _ := ⟨X0.c0, X0.c1, X0.c2⟩
  go_upto_region 16 with (go_at_call 12; (with_reducible refine Calls.mono CK ?_); rintro e' w13 ⟨rfl, hb⟩)
  clear CK x0 x1 x2 y0 y1 y2
  have X2 := X2.on hb
  have X3 := X3.on hb
  have XA := XA.on hb
  have XB := XB.on hb
  have XC := XC.on hb
  have XD := XD.on hb
  have HB := HB.out.trans (hb.mono HB.out.size)
  have HB : Hid (Below w.heap.size w w13) := HB
  clear hb
  clear X0 X1 XU HN HC HP
  have CS := fun {d e : Nat} {x y : Value} {t : Tn d} {u : Tn e} (W : World) (h1 : TyAt W W.heap.size d x t) (h2 : TyAt W W.heap.size e y u) (h3 : flat d t = flat e u) => (by
    have := same_any d e x y t u W W.heap.size (Nat.le_refl _) h1 h2
    rw [decide_eq_true h3] at this
    exact this : Calls Tryz.prog 13 #[x, y] W fun r w' => r = .returned (.bool true) ∧ Below W.heap.size W w')
  have C1 := CS w13 XA.box.tree X2.tree (E7.out.trans E5.out.symm)
  obtain ⟨x0, x1, x2⟩ : _ ∧ _ ∧ _ := ⟨XA.box.c0, XA.box.c1, XA.box.c2⟩
  obtain ⟨y0, y1, y2⟩ : _ ∧ _ ∧ _ := ⟨X2.c0, X2.c1, X2.c2⟩
  go_upto_region 17 with (go_at_call 13; (with_reducible refine Calls.mono C1 ?_); rintro e' w14 ⟨rfl, hb⟩)
  clear C1 x0 x1 x2 y0 y1 y2
  have X2 := X2.on hb
  have X3 := X3.on hb
  have XA := XA.on hb
  have XB := XB.on hb
  have XC := XC.on hb
  have XD := XD.on hb
  have HB := HB.out.trans (hb.mono HB.out.size)
  have HB : Hid (Below w.heap.size w w14) := HB
  clear hb
  have C1 := CS w14 XB.box.tree X2.tree (E8.out.trans E5.out.symm)
  obtain ⟨x0, x1, x2⟩ : _ ∧ _ ∧ _ := ⟨XB.box.c0, XB.box.c1, XB.box.c2⟩
  obtain ⟨y0, y1, y2⟩ : _ ∧ _ ∧ _ := ⟨X2.c0, X2.c1, X2.c2⟩
  go_upto_region 18 with (go_at_call 13; (with_reducible refine Calls.mono C1 ?_); rintro e' w15 ⟨rfl, hb⟩)
  clear C1 x0 x1 x2 y0 y1 y2
  have X2 := X2.on hb
  have X3 := X3.on hb
  have XA := XA.on hb
  have XB := XB.on hb
  have XC := XC.on hb
  have XD := XD.on hb
  have HB := HB.out.trans (hb.mono HB.out.size)
  have HB : Hid (Below w.heap.size w w15) := HB
  clear hb
  have C1 := CS w15 XC.box.tree X3.tree (E9.out.trans E6.out.symm)
  obtain ⟨x0, x1, x2⟩ : _ ∧ _ ∧ _ := ⟨XC.box.c0, XC.box.c1, XC.box.c2⟩
  obtain ⟨y0, y1, y2⟩ : _ ∧ _ ∧ _ := ⟨X3.c0, X3.c1, X3.c2⟩
  go_upto_region 19 with (go_at_call 13; (with_reducible refine Calls.mono C1 ?_); rintro e' w16 ⟨rfl, hb⟩)
  clear C1 x0 x1 x2 y0 y1 y2
  have X2 := X2.on hb
  have X3 := X3.on hb
  have XA := XA.on hb
  have XB := XB.on hb
  have XC := XC.on hb
  have XD := XD.on hb
  have HB := HB.out.trans (hb.mono HB.out.size)
  have HB : Hid (Below w.heap.size w w16) := HB
  clear hb
  have C1 := CS w16 XD.box.tree X2.tree (E10.out.trans E5.out.symm)
  obtain ⟨x0, x1, x2⟩ : _ ∧ _ ∧ _ := ⟨XD.box.c0, XD.box.c1, XD.box.c2⟩
  obtain ⟨y0, y1, y2⟩ : _ ∧ _ ∧ _ := ⟨X2.c0, X2.c1, X2.c2⟩
  go_upto_region 20 with (go_at_call 13; (with_reducible refine Calls.mono C1 ?_); rintro e' w17 ⟨rfl, hb⟩)
  clear C1 x0 x1 x2 y0 y1 y2
  have X2 := X2.on hb
  have X3 := X3.on hb
  have XA := XA.on hb
  have XB := XB.on hb
  have XC := XC.on hb
  have XD := XD.on hb
  have HB := HB.out.trans (hb.mono HB.out.size)
  have HB : Hid (Below w.heap.size w w17) := HB
  clear hb
  clear CS X2 X3 E5 E6 E7 E8 E9 E10
  generalize wrongT d t = e0
  generalize wrongT d2 s = e1
  go_upto_region 22 with fail
  have hH := HB.out.size
  have h7 := L7.out
  have h8 := L8.out
  have h9 := L9.out
  have h10 := L10.out
  have hA7 := XA.hi
  have hA8 := XB.hi
  have hA9 := XC.hi
  have hA10 := XD.hi
  have SA : Hid (SepB w.heap.size w17.heap.size (((r7 ++ r8) ++ r9) ++ r10)) := by
    have h1 := ((XA.sep.append XB.sep (by omega) (by omega) (by omega)).append XC.sep (by omega) (by omega) (by omega)).append XD.sep (by omega) (by omega) (by omega)
    exact ⟨fun p hp => by obtain ⟨g, e, h2, h3⟩ := h1.1 p hp; exact ⟨g, e, by omega, by omega⟩, h1.2⟩
  have HEach : Hid (∀ p ∈ ((r7 ++ r8) ++ r9) ++ r10, ∃ xs, w17.ownsRow w.heap.size 24 3 p.1 p.2 xs) := by
    intro p hp
    rcases List.mem_append.1 hp with hp | hp
    · rcases List.mem_append.1 hp with hp | hp
      · rcases List.mem_append.1 hp with hp | hp
        · obtain ⟨xs, h⟩ := TyO.each _ _ _ _ XA.own p hp
          exact ⟨xs, h.mono (by omega)⟩
        · obtain ⟨xs, h⟩ := TyO.each _ _ _ _ XB.own p hp
          exact ⟨xs, h.mono (by omega)⟩
      · obtain ⟨xs, h⟩ := TyO.each _ _ _ _ XC.own p hp
        exact ⟨xs, h.mono (by omega)⟩
    · obtain ⟨xs, h⟩ := TyO.each _ _ _ _ XD.own p hp
      exact ⟨xs, h.mono (by omega)⟩
  have H6 : Hid (∀ p ∈ ((r7 ++ r8) ++ r9) ++ r10, p.2 ≤ 6) := by
    intro p hp
    rcases List.mem_append.1 hp with hp | hp
    · rcases List.mem_append.1 hp with hp | hp
      · rcases List.mem_append.1 hp with hp | hp
        · exact XA.six p hp
        · exact XB.six p hp
      · exact XC.six p hp
    · exact XD.six p hp
  have HNn : Hid (r7.length ≤ 500 ∧ r8.length ≤ 500 ∧ r9.length ≤ 500 ∧ r10.length ≤ 500) := ⟨XA.num, XB.num, XC.num, XD.num⟩
  have HL8 : Hid (∀ p ∈ r8, ∀ g, p.1.ownBlock = some g → g < w17.heap.size) := XB.sep.lt XB.hi
  have HL9 : Hid (∀ p ∈ r9, ∀ g, p.1.ownBlock = some g → g < w17.heap.size) := XC.sep.lt XC.hi
  have HL10 : Hid (∀ p ∈ r10, ∀ g, p.1.ownBlock = some g → g < w17.heap.size) := XD.sep.lt XD.hi
  have LA := lists_any _ d7 _ t7 r7 w17 w17.heap.size (.slice none 0 0) [] (Nat.le_refl _) (XA.sep.lt XA.hi) XA.own (World.ownsRow_nil _ _ _ _) (by have := XA.num; simp; omega)
  clear hH h7 h8 h9 h10 hA7 hA8 hA9 hA10 L7 L8 L9 L10
  have hnil : w17.ownsRow w17.heap.size 22 1 (.slice none 0 0) ([] : List Value).length [] := World.ownsRow_nil _ _ _ _
  have HNil : Hid (w17.ownsRow w17.heap.size 22 1 (.slice none 0 0) ([] : List Value).length []) := hnil
  clear hnil
  obtain ⟨x0, x1, x2⟩ : _ ∧ _ ∧ _ := ⟨XA.box.c0, XA.box.c1, XA.box.c2⟩
  go_upto_region 23 with (go_at_call 14; (with_reducible refine Calls.mono LA ?_); rintro e' wa ⟨ga, rfl, hLa⟩)
  have hba := hLa.from (Nat.le_refl _) HNil.out
  have XB := XB.on hba
  have LB := lists_any _ d8 _ t8 r8 wa w17.heap.size ga _ hLa.size HL8.out XB.own hLa.own (by have := HNn.out; simp; omega)
  clear LA x0 x1 x2 XA
  obtain ⟨x0, x1, x2⟩ : _ ∧ _ ∧ _ := ⟨XB.box.c0, XB.box.c1, XB.box.c2⟩
  go_upto_region 24 with (go_at_call 14; (with_reducible refine Calls.mono LB ?_); rintro e' wb ⟨gb, rfl, hLb⟩)
  have hLab := hLa.trans hLb
  have hbb := hLab.from (Nat.le_refl _) HNil.out
  have XC := XC.on hbb
  have LC := lists_any _ d9 _ t9 r9 wb w17.heap.size gb _ hLab.size HL9.out XC.own hLab.own (by have := HNn.out; simp; omega)
  clear LB x0 x1 x2 XB
  obtain ⟨x0, x1, x2⟩ : _ ∧ _ ∧ _ := ⟨XC.box.c0, XC.box.c1, XC.box.c2⟩
  go_upto_region 25 with (go_at_call 14; (with_reducible refine Calls.mono LC ?_); rintro e' wc ⟨gc, rfl, hLc⟩)
  have hLabc := hLab.trans hLc
  have hbc := hLabc.from (Nat.le_refl _) HNil.out
  have XD := XD.on hbc
  have LD := lists_any _ d10 _ t10 r10 wc w17.heap.size gc _ hLabc.size HL10.out XD.own hLabc.own (by have := HNn.out; simp; omega)
  clear LC x0 x1 x2 XC
  obtain ⟨x0, x1, x2⟩ : _ ∧ _ ∧ _ := ⟨XD.box.c0, XD.box.c1, XD.box.c2⟩
  go_upto_region 26 with (go_at_call 14; (with_reducible refine Calls.mono LD ?_); rintro e' wd ⟨gd, rfl, hLd⟩)
  have hLall := hLabc.trans hLd
  have hbd := hLall.from (Nat.le_refl _) HNil.out
  have hrows : wd.ownsRow w17.heap.size 22 1 gd (((r7 ++ r8) ++ r9) ++ r10).length ((((r7 ++ r8) ++ r9) ++ r10).map (·.1)) := by
    have := hLall.own
    simpa [List.map_append, List.append_assoc] using this
  have hbe := HB.out.trans (hbd.mono HB.out.size)
  have CO := owned_rows wd w.heap.size w17.heap.size gd (((r7 ++ r8) ++ r9) ++ r10) hbe.size hrows (by have := HNn.out; simp; omega)
    (fun p hp => by
      obtain ⟨xs, h⟩ := HEach.out p hp
      exact ⟨xs, own_keep h fun k hk => hbd.block k (by obtain ⟨g, e, _, h2⟩ := SA.out.1 p hp; rw [e] at hk; exact Option.some.inj hk ▸ h2)⟩)
    (fun p hp => by have := H6.out p hp; omega) SA.out.sep
  clear LD x0 x1 x2 XD hrows hLa hLb hLc hLd hLab hLabc hLall hba hbb hbc
  go_wp2_with (first
    | (go_at_call 15; (with_reducible refine Calls.mono CO ?_); rintro e' wf ⟨rfl, hbf⟩))
  go_ret
  exact ⟨rfl, hbe.trans hbf⟩
end Go.Proofs.YthcejnpknjepfaaGreatDoor
