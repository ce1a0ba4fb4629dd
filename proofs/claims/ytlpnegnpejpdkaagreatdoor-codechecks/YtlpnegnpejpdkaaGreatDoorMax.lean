/- Tables, what Check says of them, their bytes and what is read of bytes: without memory. What was written as bytes is read; spoilt bytes are none. Of a table that Check takes: each instruction has one depth. -/
namespace Go.Proofs.YtlpnegnpejpdkaaGreatDoor
abbrev Byt := List UInt8
/-- A constructor: its name, its fields. -/
abbrev Shp := Byt × Int
/-- An instruction: what it is, its two numbers. -/
abbrev Ins := Int × Int × Int
/-- A global: its name, its arity, its code. -/
abbrev Glb := Byt × Int × List Ins
abbrev Tab := List Shp × List Glb

def instrsP (gs : List Glb) : Nat := (gs.map fun g => g.2.2.length).sum
def bigP (t : Tab) : Bool := decide (2000 < t.1.length) || decide (2000 < t.2.length) || t.2.any (fun g => decide (8000 < g.2.2.length)) || decide (200000 < instrsP t.2)
def nameP (s : Byt) : Bool := decide (1 ≤ s.length) && decide (s.length ≤ 4096) && s.all fun b => decide (32 ≤ b.toNat) && decide (b.toNat ≤ 126)
/-- Names that may be, none of them twice. -/
def freshP : List Byt → List Byt → Bool
  | _, [] => true
  | ahead, s :: r => nameP s && !ahead.contains s && freshP (ahead ++ [s]) r
/-- Things with names, and numbers from 0 to the most. -/
def thingsP (most : Int) : List Byt → List (Byt × Int) → Bool
  | _, [] => true
  | ahead, s :: r => nameP s.1 && !ahead.contains s.1 && decide (0 ≤ s.2) && decide (s.2 ≤ most) && thingsP most (ahead ++ [s.1]) r
def sevenP : List Shp := [([70, 97, 108, 115, 101], 0), ([84, 114, 117, 101], 0), ([85, 110, 105, 116], 0), ([78, 105, 108], 0), ([67, 111, 110, 115], 2), ([80, 97, 105, 114], 2), ([84, 114, 105, 112, 108, 101], 3)]
def shapesP (l : List Shp) : Bool := thingsP 8 [] l && decide (7 ≤ l.length) && (l.take 7 == sevenP)
def headsP (l : List Glb) : Bool := thingsP 24 [] (l.map fun g => (g.1, g.2.1))
/-- What the numbers of an instruction are. -/
def kindsP : List (Nat × Nat) := [(0, 0), (1, 0), (5, 0), (3, 0), (1, 0), (1, 0), (0, 0), (2, 0), (1, 0), (4, 0), (4, 0), (0, 0), (6, 0), (7, 0), (4, 7), (3, 7), (8, 0), (0, 0)]
def fitsP (ns ng kind : Nat) (n : Int) : Bool :=
  if kind = 0 then decide (n = 0) else if kind = 1 then decide (0 ≤ n) else if kind = 2 then decide (1 ≤ n) else if kind = 3 then decide (-4611686018427387904 ≤ n) && decide (n ≤ 4611686018427387903)
  else if kind = 4 then decide (0 ≤ n) && decide (n < ns) else if kind = 5 then decide (0 ≤ n) && decide (n < ng) else if kind = 6 then decide (1 ≤ n) && decide (n ≤ 11) else if kind = 8 then decide (1 ≤ n) && decide (n ≤ 4) else true
def kindA (op : Int) : Nat := (kindsP.getD op.toNat (0, 0)).1
def kindB (op : Int) : Nat := (kindsP.getD op.toNat (0, 0)).2
def isOpP (op : Int) : Bool := decide (1 ≤ op) && decide (op ≤ 17)
/-- Where an instruction may jump to. -/
def targetP (x : Ins) : Option Int := if kindA x.1 = 7 then some x.2.1 else if kindB x.1 = 7 then some x.2.2 else none
def numP (ns ng len : Nat) (i : Nat) (x : Ins) : Int :=
  if (isOpP x.1 && fitsP ns ng (kindA x.1) x.2.1 && fitsP ns ng (kindB x.1) x.2.2) = false then 172
  else match targetP x with
    | some to => if to ≤ (i : Int) ∨ (len : Int) ≤ to then 174 else 0
    | none => 0
def numsP (ns ng len : Nat) : Nat → List Ins → Int
  | _, [] => 0
  | i, x :: r => if numP ns ng len i x = 0 then numsP ns ng len (i + 1) r else numP ns ng len i x
def goesP (op : Int) : Bool := !(decide (op = 13) || decide (op = 16) || decide (op = 17))
/-- The depth behind an instruction, and whether the depth ahead is enough. -/
def behindP (fs : List Int) (x : Ins) (d : Int) : Int × Bool :=
  if x.1 = 1 then (d + 1, decide (x.2.1 < d)) else if x.1 = 2 ∨ x.1 = 3 then (d + 1, true) else if x.1 = 4 then (d - x.2.1, decide (x.2.1 < d))
  else if x.1 = 5 then (d - x.2.1, decide (x.2.1 < d - 1)) else if x.1 = 6 ∨ x.1 = 12 then (d - 1, decide (2 < d)) else if x.1 = 7 then (d - 1, decide (x.2.1 < d))
  else if x.1 = 8 then (d + min x.2.1 8000, true) else if x.1 = 9 then (d - fs.getD x.2.1.toNat 0 + 1, decide (fs.getD x.2.1.toNat 0 < d)) else if x.1 = 10 then (d - 1 + fs.getD x.2.1.toNat 0, decide (1 < d))
  else if x.1 = 11 ∨ x.1 = 14 ∨ x.1 = 15 then (d, decide (1 < d)) else if x.1 = 17 then (d, decide (d = 1)) else (d, true)
/-- An instruction is reached with a depth. -/
def reachP (ds : List Int) (i : Nat) (d : Int) : List Int × Bool :=
  if ds.getD i 0 = 0 then (ds.set i d, true) else (ds, decide (ds.getD i 0 = d))
/-- One instruction's depth: what is wrong, and the depths behind it. -/
def atP (fs : List Int) (len : Nat) (ds : List Int) (i : Nat) (x : Ins) : List Int × Int :=
  let d := ds.getD i 0
  if d = 0 then (ds, 174)
  else
    let b := behindP fs x d
    if b.2 = false ∨ 8000 < b.1 then (ds, 173)
    else if goesP x.1 = true ∧ i + 1 = len then (ds, 174)
    else
      let r := if goesP x.1 then reachP ds (i + 1) b.1 else (ds, true)
      if r.2 = false then (r.1, 173)
      else match targetP x with
        | some to => let q := reachP r.1 to.toNat b.1; (q.1, if q.2 then 0 else 173)
        | none => (r.1, 0)
def flowP (fs : List Int) (len : Nat) : Nat → List Ins → List Int → Int
  | _, [], _ => 0
  | i, x :: r, ds => if (atP fs len ds i x).2 = 0 then flowP fs len (i + 1) r (atP fs len ds i x).1 else (atP fs len ds i x).2
def codeP (t : Tab) (g : Glb) : Int :=
  if numsP t.1.length t.2.length g.2.2.length 0 g.2.2 = 0 then
    (if g.2.2 = [] then 174 else flowP (t.1.map fun s => s.2) g.2.2.length 0 g.2.2 ((List.replicate g.2.2.length 0).set 0 (g.2.1 + 1)))
  else numsP t.1.length t.2.length g.2.2.length 0 g.2.2
def codesP (t : Tab) : List Glb → Int
  | [] => 0
  | g :: r => if codeP t g = 0 then codesP t r else codeP t g
/-- What Check says of a table. -/
def checkP (t : Tab) : Int := if bigP t then 4 else if (shapesP t.1 && headsP t.2) = false then 172 else codesP t t.2

/-! An example: the table of one global. -/
def idP : Tab := (sevenP, [([105, 100], 1, [(1, 0, 0), (7, 2, 0), (4, 1, 0), (17, 0, 0)])])
theorem id_ok : checkP idP = 0 := by decide
/-- One bit goes through the register. -/
def bitP (r : Nat) : Nat := if r % 2 = 1 then r / 2 ^^^ 3988292384 else r / 2
def bitsP : Nat → Nat → Nat
  | 0, r => r
  | n + 1, r => bitsP n (bitP r)
/-- A byte goes through it. -/
def byteP (r : Nat) (b : UInt8) : Nat := bitsP 8 (r ^^^ b.toNat)
def regP (r : Nat) (l : Byt) : Nat := l.foldl byteP r
/-- The usual sum of 32 bits. -/
def crcP (l : Byt) : Nat := 4294967295 - regP 4294967295 l
def sumP (l : Byt) : Byt := [UInt8.ofNat (crcP l), UInt8.ofNat (crcP l / 256), UInt8.ofNat (crcP l / 65536), UInt8.ofNat (crcP l / 16777216)]
theorem bit_lt {r : Nat} (h : r < 4294967296) : bitP r < 4294967296 := by
  unfold bitP
  split
  · exact Nat.xor_lt_two_pow (n := 32) (by omega) (by omega)
  · omega
theorem bit_top {r : Nat} (h : r < 4294967296) : (bitP r).testBit 31 = decide (r % 2 = 1) := by
  unfold bitP
  have h2 : (r / 2).testBit 31 = false := Nat.testBit_lt_two_pow (by omega)
  split
  · rename_i e
    rw [Nat.testBit_xor, h2, decide_eq_true e]
    decide
  · rename_i e
    rw [h2, decide_eq_false e]
theorem xor_back {a b c : Nat} (h : a ^^^ c = b ^^^ c) : a = b := by
  have : a ^^^ c ^^^ c = b ^^^ c ^^^ c := by rw [h]
  rwa [Nat.xor_assoc, Nat.xor_self, Nat.xor_zero, Nat.xor_assoc, Nat.xor_self, Nat.xor_zero] at this
theorem bit_inj {r s : Nat} (hr : r < 4294967296) (hs : s < 4294967296) (h : bitP r = bitP s) : r = s := by
  have h1 := bit_top hr
  have h2 := bit_top hs
  rw [h, h2] at h1
  have hp : r % 2 = 1 ↔ s % 2 = 1 := by
    constructor
    · intro e; rw [decide_eq_true e] at h1; simpa using h1
    · intro e; rw [decide_eq_true e] at h1; simpa using h1.symm
  unfold bitP at h
  by_cases e : r % 2 = 1
  · rw [if_pos e, if_pos (hp.1 e)] at h
    have := xor_back h
    have := hp.1 e
    omega
  · rw [if_neg e, if_neg (fun q => e (hp.2 q))] at h
    have : ¬ s % 2 = 1 := fun q => e (hp.2 q)
    omega
theorem bits_lt : ∀ (n : Nat) {r : Nat}, r < 4294967296 → bitsP n r < 4294967296
  | 0, _, h => h
  | n + 1, _, h => bits_lt n (bit_lt h)
theorem bits_inj : ∀ (n : Nat) {r s : Nat}, r < 4294967296 → s < 4294967296 → bitsP n r = bitsP n s → r = s
  | 0, _, _, _, _, h => h
  | n + 1, _, _, hr, hs, h => bit_inj hr hs (bits_inj n (bit_lt hr) (bit_lt hs) h)
theorem xin_lt {r : Nat} (h : r < 4294967296) (b : UInt8) : r ^^^ b.toNat < 4294967296 := Nat.xor_lt_two_pow (n := 32) h (by have := b.toNat_lt; omega)
theorem byte_lt {r : Nat} (h : r < 4294967296) (b : UInt8) : byteP r b < 4294967296 := bits_lt 8 (xin_lt h b)
theorem byte_inj {r s : Nat} (hr : r < 4294967296) (hs : s < 4294967296) (b : UInt8) (h : byteP r b = byteP s b) : r = s := xor_back (bits_inj 8 (xin_lt hr b) (xin_lt hs b) h)
theorem byte_of {r : Nat} (hr : r < 4294967296) {b c : UInt8} (h : byteP r b = byteP r c) : b = c := by
  have := bits_inj 8 (xin_lt hr b) (xin_lt hr c) h
  rw [Nat.xor_comm r, Nat.xor_comm r] at this
  exact UInt8.toNat_inj.1 (xor_back this)
theorem reg_lt : ∀ (l : Byt) {r : Nat}, r < 4294967296 → regP r l < 4294967296
  | [], _, h => h
  | b :: l, _, h => reg_lt l (byte_lt h b)
theorem reg_inj : ∀ (l : Byt) {r s : Nat}, r < 4294967296 → s < 4294967296 → regP r l = regP s l → r = s
  | [], _, _, _, _, h => h
  | b :: l, _, _, hr, hs, h => byte_inj hr hs b (reg_inj l (byte_lt hr b) (byte_lt hs b) h)
theorem reg_app (r : Nat) (l m : Byt) : regP r (l ++ m) = regP (regP r l) m := List.foldl_append
/-- One byte turned: another register. -/
theorem reg_turned {l m : Byt} {b c : UInt8} (h : crcP (l ++ b :: m) = crcP (l ++ c :: m)) : b = c := by
  have h1 := reg_lt (l ++ b :: m) (r := 4294967295) (by omega)
  have h2 := reg_lt (l ++ c :: m) (r := 4294967295) (by omega)
  have h3 : regP 4294967295 (l ++ b :: m) = regP 4294967295 (l ++ c :: m) := by unfold crcP at h; omega
  rw [reg_app, reg_app] at h3
  have h4 := reg_lt l (r := 4294967295) (by omega)
  exact byte_of h4 (reg_inj m (byte_lt h4 b) (byte_lt h4 c) h3)
theorem crc_lt (l : Byt) : crcP l < 4294967296 := by unfold crcP; omega
theorem sum_inj {l m : Byt} (h : sumP l = sumP m) : crcP l = crcP m := by
  unfold sumP at h
  simp only [List.cons.injEq, and_true] at h
  obtain ⟨h1, h2, h3, h4⟩ := h
  have k1 := congrArg UInt8.toNat h1
  have k2 := congrArg UInt8.toNat h2
  have k3 := congrArg UInt8.toNat h3
  have k4 := congrArg UInt8.toNat h4
  simp only [UInt8.toNat_ofNat'] at k1 k2 k3 k4
  have := crc_lt l
  have := crc_lt m
  omega
/-- A number from 0 on, seven bits a byte. -/
def numF : Nat → Nat → Byt
  | 0, n => [UInt8.ofNat n]
  | k + 1, n => if 128 ≤ n then UInt8.ofNat (n % 128 + 128) :: numF k (n / 128) else [UInt8.ofNat n]
def numW (n : Nat) : Byt := numF 8 n
def nameW (s : Byt) : Byt := numW s.length ++ s
def foldP (n : Int) : Nat := if n < 0 then (-2 * (n + 1) + 1).toNat else (2 * n).toNat
def unfoldP (n : Nat) : Int := if n % 2 = 0 then (n / 2 : Nat) else -((n / 2 : Nat) : Int) - 1
def argW (kind : Nat) (n : Int) : Byt := numW (if kind = 3 then foldP n else n.toNat)
def insW (x : Ins) : Byt :=
  numW x.1.toNat ++ if kindB x.1 ≠ 0 then argW (kindA x.1) x.2.1 ++ argW (kindB x.1) x.2.2 else if kindA x.1 ≠ 0 then argW (kindA x.1) x.2.1 else []
def shpW (s : Shp) : Byt := nameW s.1 ++ numW s.2.toNat
def glbW (g : Glb) : Byt := nameW g.1 ++ (numW g.2.1.toNat ++ (numW g.2.2.length ++ (g.2.2.map insW).flatten))
/-- The bytes of a table between the mark and the sum. -/
def bodyW (t : Tab) : Byt := numW t.1.length ++ ((t.1.map shpW).flatten ++ (numW t.2.length ++ (t.2.map glbW).flatten))
def markP : Byt := [83, 76, 84, 72]
def bytesW (t : Tab) : Byt := (markP ++ bodyW t) ++ sumP (markP ++ bodyW t)

/-- A number is read: its byte i is the next one. -/
def numR : Nat → Nat → Byt → Option (Nat × Byt)
  | _, _, [] => none
  | i, n, b :: r => if 9 ≤ i ∨ (b.toNat = 0 ∧ 0 < i) then none else if b.toNat < 128 then some (n + b.toNat * 128 ^ i, r) else numR (i + 1) (n + (b.toNat - 128) * 128 ^ i) r
def bindR {α β : Type} (x : Option (α × Byt)) (f : α → Byt → Option (β × Byt)) : Option (β × Byt) := match x with
  | none => none
  | some (a, r) => f a r
def cntR (most : Nat) (l : Byt) : Option (Nat × Byt) := bindR (numR 0 0 l) fun n r => if n ≤ min most r.length then some (n, r) else none
def nameR (l : Byt) : Option (Byt × Byt) := bindR (cntR 4096 l) fun n r => some (r.take n, r.drop n)
def shpR (l : Byt) : Option (Shp × Byt) := bindR (nameR l) fun s r => bindR (numR 0 0 r) fun n r => some ((s, (n : Int)), r)
def timesR {α : Type} (f : Byt → Option (α × Byt)) : Nat → Byt → Option (List α × Byt)
  | 0, l => some ([], l)
  | n + 1, l => bindR (f l) fun a r => bindR (timesR f n r) fun s r => some (a :: s, r)
def argR (kind : Nat) (l : Byt) : Option (Int × Byt) := bindR (numR 0 0 l) fun n r => some (if kind = 3 then unfoldP n else (n : Int), r)
def insR (l : Byt) : Option (Ins × Byt) := bindR (numR 0 0 l) fun op r =>
  if isOpP op = false then none
  else if kindB op ≠ 0 then bindR (argR (kindA op) r) fun a r => bindR (argR (kindB op) r) fun b r => some (((op : Int), a, b), r)
  else if kindA op ≠ 0 then bindR (argR (kindA op) r) fun a r => some (((op : Int), a, 0), r)
  else some (((op : Int), 0, 0), r)
def glbR (left : Nat) (l : Byt) : Option (Glb × Byt) := bindR (nameR l) fun s r => bindR (numR 0 0 r) fun n r => bindR (cntR (min 8000 left) r) fun k r => bindR (timesR insR k r) fun c r => some ((s, (n : Int), c), r)
def glbsR : Nat → Nat → Byt → Option (List Glb × Byt)
  | 0, _, l => some ([], l)
  | n + 1, left, l => bindR (glbR left l) fun g r => bindR (glbsR n (left - g.2.2.length) r) fun s r => some (g :: s, r)
def tabR (l : Byt) : Option (Tab × Byt) := bindR (cntR 2000 l) fun n r => bindR (timesR shpR n r) fun s r => bindR (cntR 2000 r) fun n r => bindR (glbsR n 200000 r) fun g r => some ((s, g), r)

/-! What was read of a beginning is read of the whole. -/
def Ext {α : Type} (f : Byt → Option (α × Byt)) : Prop := ∀ l a r m, f l = some (a, r) → f (l ++ m) = some (a, r ++ m)
theorem bind_some {α β : Type} {x : Option (α × Byt)} {f : α → Byt → Option (β × Byt)} {b : β × Byt} (h : bindR x f = some b) : ∃ a r, x = some (a, r) ∧ f a r = some b := by
  cases x with
  | none => cases h
  | some p => exact ⟨p.1, p.2, rfl, h⟩
theorem Ext.bind {α β : Type} {f : Byt → Option (α × Byt)} {g : α → Byt → Option (β × Byt)} (hf : Ext f) (hg : ∀ a, Ext (g a)) : Ext fun l => bindR (f l) g := by
  intro l b r m h
  obtain ⟨a, q, h1, h2⟩ := bind_some h
  show bindR (f (l ++ m)) g = _
  rw [hf l a q m h1]
  exact hg a q b r m h2
theorem ext_ret {α : Type} (a : α) : Ext fun l => some (a, l) := fun l b r m h => by
  simp only [Option.some.injEq, Prod.mk.injEq] at h
  obtain ⟨rfl, rfl⟩ := h
  rfl
theorem ext_none {α : Type} : Ext fun _ => (none : Option (α × Byt)) := fun _ _ _ _ h => by cases h
theorem ext_num : ∀ (l : Byt) (i n a : Nat) (r m : Byt), numR i n l = some (a, r) → numR i n (l ++ m) = some (a, r ++ m)
  | [], _, _, _, _, _, h => by cases h
  | b :: l, i, n, a, r, m, h => by
    unfold numR at h
    rw [List.cons_append]
    unfold numR
    by_cases h1 : 9 ≤ i ∨ (b.toNat = 0 ∧ 0 < i)
    · rw [if_pos h1] at h; cases h
    · rw [if_neg h1] at h ⊢
      by_cases h2 : b.toNat < 128
      · rw [if_pos h2] at h ⊢
        simp only [Option.some.injEq, Prod.mk.injEq] at h
        obtain ⟨rfl, rfl⟩ := h
        rfl
      · rw [if_neg h2] at h ⊢
        exact ext_num l _ _ a r m h
theorem ext_num0 : Ext (numR 0 0) := fun l a r m h => ext_num l 0 0 a r m h
theorem ext_cnt (most : Nat) : Ext (cntR most) := ext_num0.bind fun n l a r m h => by
  have h : (if n ≤ min most l.length then some (n, l) else none) = some (a, r) := h
  show (if n ≤ min most (l ++ m).length then some (n, l ++ m) else none) = some (a, r ++ m)
  split at h
  · rw [if_pos (by rw [List.length_append]; omega)]
    simp only [Option.some.injEq, Prod.mk.injEq] at h
    obtain ⟨rfl, rfl⟩ := h
    rfl
  · cases h
theorem ext_name : Ext nameR := by
  intro l s r m h
  obtain ⟨n, q, h1, h2⟩ := bind_some h
  have hn : n ≤ q.length := by
    obtain ⟨k, p, h3, h4⟩ := bind_some h1
    have h4 : (if k ≤ min 4096 p.length then some (k, p) else none) = some (n, q) := h4
    split at h4
    · simp only [Option.some.injEq, Prod.mk.injEq] at h4
      obtain ⟨rfl, rfl⟩ := h4
      omega
    · cases h4
  show bindR (cntR 4096 (l ++ m)) _ = _
  rw [ext_cnt 4096 l n q m h1]
  show some ((q ++ m).take n, (q ++ m).drop n) = _
  have h2 : some (q.take n, q.drop n) = some (s, r) := h2
  simp only [Option.some.injEq, Prod.mk.injEq] at h2
  obtain ⟨rfl, rfl⟩ := h2
  rw [List.take_append_of_le_length hn, List.drop_append_of_le_length hn]
theorem ext_shp : Ext shpR := ext_name.bind fun s => ext_num0.bind fun n => ext_ret (s, (n : Int))
theorem ext_times {α : Type} {f : Byt → Option (α × Byt)} (hf : Ext f) : ∀ n, Ext (timesR f n)
  | 0 => ext_ret []
  | n + 1 => hf.bind fun a => (ext_times hf n).bind fun s => ext_ret (a :: s)
theorem ext_arg (kind : Nat) : Ext (argR kind) := ext_num0.bind fun n => ext_ret (if kind = 3 then unfoldP n else (n : Int))
theorem ext_ins : Ext insR := ext_num0.bind fun op => by
  by_cases h1 : isOpP op = false
  · simp only [if_pos h1]; exact ext_none
  · simp only [if_neg h1]
    by_cases h2 : kindB op ≠ 0
    · simp only [if_pos h2]
      exact (ext_arg _).bind fun a => (ext_arg _).bind fun b => ext_ret ((op : Int), a, b)
    · simp only [if_neg h2]
      by_cases h3 : kindA op ≠ 0
      · simp only [if_pos h3]
        exact (ext_arg _).bind fun a => ext_ret ((op : Int), a, (0 : Int))
      · simp only [if_neg h3]
        exact ext_ret ((op : Int), (0 : Int), (0 : Int))
theorem ext_glb (left : Nat) : Ext (glbR left) := ext_name.bind fun s => ext_num0.bind fun n => (ext_cnt _).bind fun k => (ext_times ext_ins k).bind fun c => ext_ret (s, (n : Int), c)
theorem ext_glbs : ∀ n left, Ext (glbsR n left)
  | 0, _ => ext_ret []
  | n + 1, left => (ext_glb left).bind fun g => (ext_glbs n _).bind fun s => ext_ret (g :: s)
theorem ext_tab : Ext tabR := (ext_cnt 2000).bind fun n => (ext_times ext_shp n).bind fun s => (ext_cnt 2000).bind fun n => (ext_glbs n 200000).bind fun g => ext_ret (s, g)
end Go.Proofs.YtlpnegnpejpdkaaGreatDoor

namespace Go.Proofs.YtlpnegnpejpdkaaGreatDoor
theorem ofNat_toNat {n : Nat} (h : n < 256) : (UInt8.ofNat n).toNat = n := by rw [UInt8.toNat_ofNat']; omega
theorem num_back : ∀ (k n i acc : Nat) (r : Byt), n < 128 ^ (k + 1) → i + k < 9 → (i = 0 ∨ 0 < n) → numR i acc (numF k n ++ r) = some (acc + n * 128 ^ i, r)
  | 0, n, i, acc, r, hn, hi, h0 => by
    have hn : n < 128 := by simpa using hn
    show numR i acc (UInt8.ofNat n :: r) = _
    unfold numR
    rw [ofNat_toNat (by omega), if_neg (by omega), if_pos hn]
  | k + 1, n, i, acc, r, hn, hi, h0 => by
    unfold numF
    by_cases h : 128 ≤ n
    · rw [if_pos h, List.cons_append]
      unfold numR
      rw [ofNat_toNat (by omega), if_neg (by omega), if_neg (by omega), num_back k (n / 128) (i + 1) _ r (by
        rw [Nat.pow_succ] at hn
        exact Nat.div_lt_of_lt_mul (by rw [Nat.mul_comm]; exact hn)) (by omega) (.inr (by omega))]
      congr 2
      rw [Nat.add_sub_cancel, Nat.add_assoc, Nat.pow_succ, ← Nat.mul_assoc, Nat.mul_right_comm, ← Nat.add_mul]
      congr 2
      omega
    · rw [if_neg h]
      show numR i acc (UInt8.ofNat n :: r) = _
      unfold numR
      rw [ofNat_toNat (by omega), if_neg (by omega), if_pos (by omega)]
theorem numW_back {n : Nat} (h : n < 9223372036854775808) (r : Byt) : numR 0 0 (numW n ++ r) = some (n, r) := by
  have := num_back 8 n 0 0 r (by omega) (by omega) (.inl rfl)
  rw [Nat.pow_zero, Nat.mul_one, Nat.zero_add] at this
  exact this
theorem num_is : ∀ (l : Byt) (i acc v : Nat) (r : Byt), i ≤ 8 → numR i acc l = some (v, r) → ∃ n, v = acc + n * 128 ^ i ∧ l = numF (8 - i) n ++ r ∧ n < 128 ^ (9 - i) ∧ (0 < i → 0 < n)
  | [], _, _, _, _, _, h => by cases h
  | b :: l, i, acc, v, r, hi, h => by
    unfold numR at h
    by_cases h1 : 9 ≤ i ∨ (b.toNat = 0 ∧ 0 < i)
    · rw [if_pos h1] at h; cases h
    · rw [if_neg h1] at h
      by_cases h2 : b.toNat < 128
      · rw [if_pos h2] at h
        simp only [Option.some.injEq, Prod.mk.injEq] at h
        obtain ⟨rfl, rfl⟩ := h
        refine ⟨b.toNat, rfl, ?_, ?_, fun hp => by omega⟩
        · have e : UInt8.ofNat b.toNat = b := by simp
          cases h8 : 8 - i with
          | zero => show b :: l = [UInt8.ofNat b.toNat] ++ l; rw [e]; rfl
          | succ k =>
            unfold numF
            rw [if_neg (by omega), e]
            rfl
        · refine Nat.lt_of_lt_of_le h2 ?_
          calc 128 = 128 ^ 1 := rfl
            _ ≤ 128 ^ (9 - i) := Nat.pow_le_pow_right (by decide) (by omega)
      · rw [if_neg h2] at h
        by_cases h8 : i = 8
        · subst h8
          cases l with
          | nil => cases h
          | cons c l => unfold numR at h; rw [if_pos (.inl (by omega))] at h; cases h
        · obtain ⟨n, e1, e2, e3, e4⟩ := num_is l (i + 1) _ v r (by omega) h
          have hn := e4 (by omega)
          have hb := b.toNat_lt
          refine ⟨(b.toNat - 128) + 128 * n, ?_, ?_, ?_, fun _ => by omega⟩
          · rw [e1, Nat.add_mul, Nat.pow_succ, Nat.add_assoc, ← Nat.mul_assoc, Nat.mul_right_comm n, Nat.mul_comm 128 n]
          · rw [show 8 - i = (8 - (i + 1)) + 1 by omega]
            unfold numF
            rw [if_pos (by omega), List.cons_append, show ((b.toNat - 128) + 128 * n) / 128 = n by omega, show ((b.toNat - 128) + 128 * n) % 128 + 128 = b.toNat by omega, ← e2]
            simp
          · rw [show 9 - i = (9 - (i + 1)) + 1 by omega, Nat.pow_succ]
            have : b.toNat - 128 < 128 := by omega
            have : (n + 1) * 128 ≤ 128 ^ (9 - (i + 1)) * 128 := Nat.mul_le_mul_right _ e3
            omega
theorem numW_is {l r : Byt} {n : Nat} (h : numR 0 0 l = some (n, r)) : l = numW n ++ r ∧ n < 9223372036854775808 := by
  obtain ⟨m, e1, e2, e3, _⟩ := num_is l 0 0 n r (by omega) h
  rw [Nat.pow_zero, Nat.mul_one, Nat.zero_add] at e1
  subst e1
  exact ⟨e2, by simpa using e3⟩
theorem cnt_back {n most : Nat} {r : Byt} (h : n ≤ most) (hr : n ≤ r.length) (hm : most ≤ 1000000) : cntR most (numW n ++ r) = some (n, r) := by
  unfold cntR
  rw [numW_back (by omega)]
  show (if n ≤ min most r.length then some (n, r) else none) = _
  rw [if_pos (by omega)]
theorem cnt_is {n most : Nat} {l r : Byt} (h : cntR most l = some (n, r)) : l = numW n ++ r ∧ n ≤ most ∧ n ≤ r.length := by
  obtain ⟨m, q, h1, h2⟩ := bind_some h
  have h2 : (if m ≤ min most q.length then some (m, q) else none) = some (n, r) := h2
  split at h2
  · simp only [Option.some.injEq, Prod.mk.injEq] at h2
    obtain ⟨rfl, rfl⟩ := h2
    exact ⟨(numW_is h1).1, by omega, by omega⟩
  · cases h2
theorem name_back {s r : Byt} (h : s.length ≤ 4096) : nameR (nameW s ++ r) = some (s, r) := by
  unfold nameR nameW
  rw [List.append_assoc, cnt_back h (by rw [List.length_append]; omega) (by omega)]
  show some ((s ++ r).take s.length, (s ++ r).drop s.length) = _
  rw [List.take_left' rfl, List.drop_left' rfl]
theorem name_is {s l r : Byt} (h : nameR l = some (s, r)) : l = nameW s ++ r ∧ s.length ≤ 4096 := by
  obtain ⟨n, q, h1, h2⟩ := bind_some h
  obtain ⟨rfl, h3, h4⟩ := cnt_is h1
  have h2 : some (q.take n, q.drop n) = some (s, r) := h2
  simp only [Option.some.injEq, Prod.mk.injEq] at h2
  obtain ⟨rfl, rfl⟩ := h2
  have hl : (q.take n).length = n := by rw [List.length_take]; omega
  refine ⟨?_, by omega⟩
  unfold nameW
  rw [hl, List.append_assoc, List.take_append_drop]
theorem shp_back {s : Shp} {r : Byt} (h : s.1.length ≤ 4096) (h0 : 0 ≤ s.2) (h1 : s.2 < 9223372036854775808) : shpR (shpW s ++ r) = some (s, r) := by
  unfold shpR shpW
  rw [List.append_assoc, name_back h]
  show bindR (numR 0 0 (numW s.2.toNat ++ r)) _ = _
  rw [numW_back (by omega)]
  show some ((s.1, ((s.2.toNat : Nat) : Int)), r) = _
  rw [Int.toNat_of_nonneg h0]
theorem shp_is {s : Shp} {l r : Byt} (h : shpR l = some (s, r)) : l = shpW s ++ r ∧ 0 ≤ s.2 ∧ s.2 < 9223372036854775808 := by
  obtain ⟨a, q, h1, h2⟩ := bind_some h
  obtain ⟨n, p, h3, h4⟩ := bind_some h2
  obtain ⟨e1, _⟩ := name_is h1
  obtain ⟨e2, e3⟩ := numW_is h3
  simp only [Option.some.injEq, Prod.mk.injEq] at h4
  obtain ⟨rfl, rfl⟩ := h4
  refine ⟨?_, Int.natCast_nonneg _, by show (n : Int) < _; omega⟩
  unfold shpW
  rw [List.append_assoc, e1, e2]
  rfl
theorem times_back {α : Type} {f : Byt → Option (α × Byt)} {g : α → Byt} : ∀ (l : List α) (r : Byt), (∀ a ∈ l, ∀ r, f (g a ++ r) = some (a, r)) → timesR f l.length ((l.map g).flatten ++ r) = some (l, r)
  | [], r, _ => rfl
  | a :: l, r, h => by
    show bindR (f ((g a ++ (l.map g).flatten) ++ r)) _ = _
    rw [List.append_assoc, h a (by simp)]
    show bindR (timesR f l.length ((l.map g).flatten ++ r)) _ = _
    rw [times_back l r fun b hb => h b (by simp [hb])]
    rfl
theorem times_is {α : Type} {f : Byt → Option (α × Byt)} {g : α → Byt} : ∀ (n : Nat) (l r : Byt) (s : List α), (∀ a l r, f l = some (a, r) → a ∈ s → l = g a ++ r) → timesR f n l = some (s, r) → s.length = n ∧ l = (s.map g).flatten ++ r
  | 0, l, r, s, _, h => by
    simp only [timesR, Option.some.injEq, Prod.mk.injEq] at h
    obtain ⟨rfl, rfl⟩ := h
    exact ⟨rfl, rfl⟩
  | n + 1, l, r, s, hf, h => by
    obtain ⟨a, q, h1, h2⟩ := bind_some h
    obtain ⟨t, p, h3, h4⟩ := bind_some h2
    simp only [Option.some.injEq, Prod.mk.injEq] at h4
    obtain ⟨rfl, rfl⟩ := h4
    obtain ⟨e1, e2⟩ := times_is (g := g) n q p t (fun b l r hb ht => hf b l r hb (by simp [ht])) h3
    refine ⟨by simp [e1], ?_⟩
    rw [hf a l q h1 (by simp), e2]
    simp
theorem fold_back (n : Int) (h1 : -4611686018427387904 ≤ n) (h2 : n ≤ 4611686018427387903) : unfoldP (foldP n) = n ∧ foldP n < 9223372036854775808 := by
  unfold foldP
  split
  · refine ⟨?_, by omega⟩
    unfold unfoldP
    rw [if_neg (by omega)]
    omega
  · refine ⟨?_, by omega⟩
    unfold unfoldP
    rw [if_pos (by omega)]
    omega
theorem unfold_back (n : Nat) : foldP (unfoldP n) = n := by
  unfold unfoldP
  split
  · unfold foldP
    rw [if_neg (by omega)]
    omega
  · unfold foldP
    rw [if_pos (by omega)]
    omega
theorem arg_back {kind : Nat} {n : Int} {r : Byt} (h1 : kind = 3 → -4611686018427387904 ≤ n ∧ n ≤ 4611686018427387903) (h2 : kind ≠ 3 → 0 ≤ n) (h3 : n < 9223372036854775808) : argR kind (argW kind n ++ r) = some (n, r) := by
  unfold argR argW
  by_cases h : kind = 3
  · obtain ⟨e1, e2⟩ := fold_back n (h1 h).1 (h1 h).2
    rw [if_pos h, numW_back e2]
    show some (if kind = 3 then unfoldP (foldP n) else _, r) = _
    rw [if_pos h, e1]
  · have := h2 h
    rw [if_neg h, numW_back (by omega)]
    show some (if kind = 3 then _ else ((n.toNat : Nat) : Int), r) = _
    rw [if_neg h, Int.toNat_of_nonneg this]
theorem arg_is {kind : Nat} {n : Int} {l r : Byt} (h : argR kind l = some (n, r)) : l = argW kind n ++ r := by
  obtain ⟨m, q, h1, h2⟩ := bind_some h
  obtain ⟨e1, e2⟩ := numW_is h1
  simp only [Option.some.injEq, Prod.mk.injEq] at h2
  obtain ⟨rfl, rfl⟩ := h2
  unfold argW
  rw [e1]
  by_cases h : kind = 3
  · rw [if_pos h, if_pos h, unfold_back]
  · rw [if_neg h, if_neg h, Int.toNat_natCast]
/-- The numbers of an instruction can be written as bytes. -/
def argOk (kind : Nat) (n : Int) : Prop := (kind = 0 → n = 0) ∧ (kind = 3 → -4611686018427387904 ≤ n ∧ n ≤ 4611686018427387903) ∧ (kind ≠ 3 → 0 ≤ n) ∧ n < 9223372036854775808
def insOk (x : Ins) : Prop := isOpP x.1 = true ∧ argOk (kindA x.1) x.2.1 ∧ argOk (kindB x.1) x.2.2
theorem op_range {op : Int} (h : isOpP op = true) : 1 ≤ op ∧ op ≤ 17 := by
  unfold isOpP at h
  simpa using h
theorem kind_two {op : Int} (h : isOpP op = true) : kindA op = 0 → kindB op = 0 := by
  obtain ⟨h1, h2⟩ := op_range h
  have : op = 1 ∨ op = 2 ∨ op = 3 ∨ op = 4 ∨ op = 5 ∨ op = 6 ∨ op = 7 ∨ op = 8 ∨ op = 9 ∨ op = 10 ∨ op = 11 ∨ op = 12 ∨ op = 13 ∨ op = 14 ∨ op = 15 ∨ op = 16 ∨ op = 17 := by omega
  rcases this with rfl | rfl | rfl | rfl | rfl | rfl | rfl | rfl | rfl | rfl | rfl | rfl | rfl | rfl | rfl | rfl | rfl <;> decide
theorem ins_back {x : Ins} {r : Byt} (h : insOk x) : insR (insW x ++ r) = some (x, r) := by
  obtain ⟨op, a, b⟩ := x
  obtain ⟨h1, h2, h3⟩ := h
  obtain ⟨o1, o2⟩ := op_range h1
  simp only at h1 h2 h3 o1 o2
  have ho : ((op.toNat : Nat) : Int) = op := Int.toNat_of_nonneg (by omega)
  unfold insR insW
  simp only
  rw [List.append_assoc, numW_back (by omega)]
  show (if isOpP (op.toNat : Nat) = false then none else _) = _
  rw [ho, if_neg (by rw [h1]; decide)]
  by_cases k2 : kindB op ≠ 0
  · rw [if_pos k2, if_pos k2, List.append_assoc, arg_back h2.2.1 h2.2.2.1 h2.2.2.2]
    show bindR (argR (kindB op) (argW (kindB op) b ++ r)) _ = _
    rw [arg_back h3.2.1 h3.2.2.1 h3.2.2.2]
    rfl
  · rw [if_neg k2, if_neg k2]
    have hb := h3.1 (by omega)
    subst hb
    by_cases k1 : kindA op ≠ 0
    · rw [if_pos k1, if_pos k1, arg_back h2.2.1 h2.2.2.1 h2.2.2.2]
      rfl
    · rw [if_neg k1, if_neg k1]
      have ha := h2.1 (by omega)
      subst ha
      rfl
theorem ins_is {x : Ins} {l r : Byt} (h : insR l = some (x, r)) : l = insW x ++ r := by
  obtain ⟨op, q, h1, h2⟩ := bind_some h
  obtain ⟨e1, _⟩ := numW_is h1
  have h2 : (if isOpP (op : Nat) = false then none else if kindB (op : Nat) ≠ 0 then bindR (argR (kindA (op : Nat)) q) fun a r => bindR (argR (kindB (op : Nat)) r) fun b r => some (((op : Int), a, b), r) else if kindA (op : Nat) ≠ 0 then bindR (argR (kindA (op : Nat)) q) fun a r => some (((op : Int), a, 0), r) else some (((op : Int), 0, 0), q)) = some (x, r) := h2
  split at h2
  · cases h2
  · split at h2
    · rename_i k2
      obtain ⟨a, p, h3, h4⟩ := bind_some h2
      obtain ⟨b, o, h5, h6⟩ := bind_some h4
      simp only [Option.some.injEq, Prod.mk.injEq] at h6
      obtain ⟨rfl, rfl⟩ := h6
      unfold insW
      simp only
      rw [if_pos k2, Int.toNat_natCast, List.append_assoc, List.append_assoc, ← arg_is h5, ← arg_is h3, e1]
    · rename_i k2
      split at h2
      · rename_i k1
        obtain ⟨a, p, h3, h4⟩ := bind_some h2
        simp only [Option.some.injEq, Prod.mk.injEq] at h4
        obtain ⟨rfl, rfl⟩ := h4
        unfold insW
        simp only
        rw [if_neg k2, if_pos k1, Int.toNat_natCast, List.append_assoc, ← arg_is h3, e1]
      · rename_i k1
        simp only [Option.some.injEq, Prod.mk.injEq] at h2
        obtain ⟨rfl, rfl⟩ := h2
        unfold insW
        simp only
        rw [if_neg k2, if_neg k1, Int.toNat_natCast, List.append_nil, e1]
theorem numW_pos (n : Nat) : 1 ≤ (numW n).length := by
  unfold numW numF
  split
  · simp
  · simp
theorem flat_many {α : Type} {g : α → Byt} : ∀ (l : List α), (∀ a ∈ l, 1 ≤ (g a).length) → l.length ≤ ((l.map g).flatten).length
  | [], _ => by simp
  | a :: l, h => by
    rw [List.map_cons, List.flatten_cons, List.length_append, List.length_cons]
    have := flat_many l fun b hb => h b (by simp [hb])
    have := h a (by simp)
    omega
theorem insW_pos (x : Ins) : 1 ≤ (insW x).length := by
  unfold insW
  rw [List.length_append]
  have := numW_pos x.1.toNat
  omega
theorem shpW_pos (s : Shp) : 1 ≤ (shpW s).length := by
  unfold shpW
  rw [List.length_append]
  have := numW_pos s.2.toNat
  omega
theorem glbW_pos (g : Glb) : 1 ≤ (glbW g).length := by
  unfold glbW
  rw [List.length_append, List.length_append]
  have := numW_pos g.2.1.toNat
  omega
def glbOk (g : Glb) : Prop := g.1.length ≤ 4096 ∧ 0 ≤ g.2.1 ∧ g.2.1 < 9223372036854775808 ∧ g.2.2.length ≤ 8000 ∧ ∀ x ∈ g.2.2, insOk x
theorem glb_back {g : Glb} {left : Nat} {r : Byt} (h : glbOk g) (hl : g.2.2.length ≤ left) : glbR left (glbW g ++ r) = some (g, r) := by
  obtain ⟨h1, h2, h3, h4, h5⟩ := h
  unfold glbR glbW
  rw [List.append_assoc, name_back h1]
  show bindR (numR 0 0 ((numW g.2.1.toNat ++ _) ++ r)) _ = _
  rw [List.append_assoc, numW_back (by omega)]
  show bindR (cntR (min 8000 left) ((numW g.2.2.length ++ _) ++ r)) _ = _
  rw [List.append_assoc, cnt_back (by omega) (by
    rw [List.length_append]
    have := flat_many (g := insW) g.2.2 fun a _ => insW_pos a
    omega) (by omega)]
  show bindR (timesR insR g.2.2.length ((g.2.2.map insW).flatten ++ r)) _ = _
  rw [times_back (g := insW) g.2.2 r fun a ha r => ins_back (h5 a ha)]
  show some ((g.1, ((g.2.1.toNat : Nat) : Int), g.2.2), r) = _
  rw [Int.toNat_of_nonneg h2]
theorem glb_is {g : Glb} {left : Nat} {l r : Byt} (h : glbR left l = some (g, r)) : l = glbW g ++ r ∧ g.2.2.length ≤ min 8000 left := by
  obtain ⟨s, q, h1, h2⟩ := bind_some h
  obtain ⟨n, p, h3, h4⟩ := bind_some h2
  obtain ⟨k, o, h5, h6⟩ := bind_some h4
  obtain ⟨c, m, h7, h8⟩ := bind_some h6
  simp only [Option.some.injEq, Prod.mk.injEq] at h8
  obtain ⟨rfl, rfl⟩ := h8
  obtain ⟨e1, _⟩ := name_is h1
  obtain ⟨e2, _⟩ := numW_is h3
  obtain ⟨e3, e4, _⟩ := cnt_is h5
  obtain ⟨e5, e6⟩ := times_is (g := insW) k o m c (fun a l r ha _ => ins_is ha) h7
  refine ⟨?_, by show c.length ≤ _; omega⟩
  unfold glbW
  simp only
  rw [Int.toNat_natCast, e5, List.append_assoc, List.append_assoc, List.append_assoc, ← e6, ← e3, ← e2, e1]
theorem glbs_back : ∀ (l : List Glb) (left : Nat) (r : Byt), (∀ g ∈ l, glbOk g) → instrsP l ≤ left → glbsR l.length left ((l.map glbW).flatten ++ r) = some (l, r)
  | [], _, _, _, _ => rfl
  | g :: l, left, r, h, hl => by
    have hs : instrsP (g :: l) = g.2.2.length + instrsP l := by simp [instrsP]
    show bindR (glbR left ((glbW g ++ (l.map glbW).flatten) ++ r)) _ = _
    rw [List.append_assoc, glb_back (h g (by simp)) (by omega)]
    show bindR (glbsR l.length (left - g.2.2.length) ((l.map glbW).flatten ++ r)) _ = _
    rw [glbs_back l _ r (fun a ha => h a (by simp [ha])) (by omega)]
    rfl
theorem glbs_is : ∀ (n left : Nat) (l r : Byt) (s : List Glb), glbsR n left l = some (s, r) → s.length = n ∧ l = (s.map glbW).flatten ++ r
  | 0, _, l, r, s, h => by
    simp only [glbsR, Option.some.injEq, Prod.mk.injEq] at h
    obtain ⟨rfl, rfl⟩ := h
    exact ⟨rfl, rfl⟩
  | n + 1, left, l, r, s, h => by
    obtain ⟨g, q, h1, h2⟩ := bind_some h
    obtain ⟨t, p, h3, h4⟩ := bind_some h2
    simp only [Option.some.injEq, Prod.mk.injEq] at h4
    obtain ⟨rfl, rfl⟩ := h4
    obtain ⟨e1, e2⟩ := glbs_is n _ q p t h3
    refine ⟨by simp [e1], ?_⟩
    rw [(glb_is h1).1, e2]
    simp
structure TabOk (t : Tab) : Prop where
  shapes : t.1.length ≤ 2000
  globals : t.2.length ≤ 2000
  all : instrsP t.2 ≤ 200000
  shp : ∀ s ∈ t.1, s.1.length ≤ 4096 ∧ 0 ≤ s.2 ∧ s.2 < 9223372036854775808
  glb : ∀ g ∈ t.2, glbOk g
theorem tab_back {t : Tab} {r : Byt} (h : TabOk t) : tabR (bodyW t ++ r) = some (t, r) := by
  unfold tabR bodyW
  rw [List.append_assoc, cnt_back h.shapes (by
    rw [List.length_append, List.length_append]
    have := flat_many (g := shpW) t.1 fun a _ => shpW_pos a
    omega) (by omega)]
  show bindR (timesR shpR t.1.length (((t.1.map shpW).flatten ++ _) ++ r)) _ = _
  rw [List.append_assoc, times_back (g := shpW) t.1 _ fun a ha r => shp_back (h.shp a ha).1 (h.shp a ha).2.1 (h.shp a ha).2.2]
  show bindR (cntR 2000 ((numW t.2.length ++ (t.2.map glbW).flatten) ++ r)) _ = _
  rw [List.append_assoc, cnt_back h.globals (by
    rw [List.length_append]
    have := flat_many (g := glbW) t.2 fun a _ => glbW_pos a
    omega) (by omega)]
  show bindR (glbsR t.2.length 200000 ((t.2.map glbW).flatten ++ r)) _ = _
  rw [glbs_back t.2 200000 r h.glb h.all]
  rfl
theorem tab_is {t : Tab} {l r : Byt} (h : tabR l = some (t, r)) : l = bodyW t ++ r := by
  obtain ⟨n, q, h1, h2⟩ := bind_some h
  obtain ⟨s, p, h3, h4⟩ := bind_some h2
  obtain ⟨k, o, h5, h6⟩ := bind_some h4
  obtain ⟨c, m, h7, h8⟩ := bind_some h6
  simp only [Option.some.injEq, Prod.mk.injEq] at h8
  obtain ⟨rfl, rfl⟩ := h8
  obtain ⟨e1, _, _⟩ := cnt_is h1
  obtain ⟨e2, e3⟩ := times_is (g := shpW) n q p s (fun a l r ha _ => (shp_is ha).1) h3
  obtain ⟨e4, _, _⟩ := cnt_is h5
  obtain ⟨e5, e6⟩ := glbs_is k _ o m c h7
  unfold bodyW
  simp only
  rw [e2, e5, List.append_assoc, List.append_assoc, List.append_assoc, ← e6, ← e4, ← e3, e1]
/-- What Load answers: what is wrong, or the table. -/
def loadP (b : Byt) : Option Tab :=
  if b.length < 8 ∨ sumP (b.take (b.length - 4)) ≠ b.drop (b.length - 4) ∨ b.take 4 ≠ markP then none
  else match tabR ((b.take (b.length - 4)).drop 4) with
    | some (t, []) => if checkP t = 0 then some t else none
    | _ => none
theorem num_ins {ns ng len i : Nat} {x : Ins} (h : numP ns ng len i x = 0) (ha : x.2.1 < 9223372036854775808) (hb : x.2.2 < 9223372036854775808) : insOk x := by
  obtain ⟨op, a, b⟩ := x
  unfold numP at h
  split at h
  · omega
  · rename_i hw
    simp only [Bool.not_eq_false, Bool.and_eq_true] at hw
    obtain ⟨⟨ho, h1⟩, h2⟩ := hw
    have ht : ∀ to, targetP (op, a, b) = some to → 0 ≤ to := fun to e => by
      rw [e] at h
      simp only at h
      split at h
      · omega
      · omega
    clear h
    obtain ⟨o1, o2⟩ := op_range ho
    refine ⟨ho, ?_⟩
    simp only at ha hb h1 h2 ⊢
    have : op = 1 ∨ op = 2 ∨ op = 3 ∨ op = 4 ∨ op = 5 ∨ op = 6 ∨ op = 7 ∨ op = 8 ∨ op = 9 ∨ op = 10 ∨ op = 11 ∨ op = 12 ∨ op = 13 ∨ op = 14 ∨ op = 15 ∨ op = 16 ∨ op = 17 := by
      omega
    clear ho o1 o2
    rcases this with rfl | rfl | rfl | rfl | rfl | rfl | rfl | rfl | rfl | rfl | rfl | rfl | rfl | rfl | rfl | rfl | rfl <;>
      simp [fitsP, kindA, kindB, kindsP, targetP, argOk] at h1 h2 ht ⊢ <;> omega
theorem nums_all {ns ng len : Nat} : ∀ (r : List Ins) (i : Nat), numsP ns ng len i r = 0 → ∀ j (h : j < r.length), numP ns ng len (i + j) r[j] = 0
  | [], _, _, j, h => by simp at h
  | x :: r, i, h, j, hj => by
    unfold numsP at h
    split at h
    · rename_i h0
      match j, hj with
      | 0, _ => exact h0
      | j + 1, hj =>
        rw [List.getElem_cons_succ, show i + (j + 1) = i + 1 + j by omega]
        exact nums_all r (i + 1) h j (by simpa using hj)
    · rename_i h0
      exact absurd h h0
theorem things_all {most : Int} : ∀ (l : List (Byt × Int)) (ahead : List Byt), thingsP most ahead l = true → ∀ s ∈ l, nameP s.1 = true ∧ 0 ≤ s.2 ∧ s.2 ≤ most
  | [], _, _, s, hs => by cases hs
  | x :: r, ahead, h, s, hs => by
    unfold thingsP at h
    simp only [Bool.and_eq_true, decide_eq_true_eq] at h
    obtain ⟨⟨⟨⟨h1, _⟩, h2⟩, h3⟩, h4⟩ := h
    rcases List.mem_cons.1 hs with rfl | hs
    · exact ⟨h1, h2, h3⟩
    · exact things_all r _ h4 s hs
theorem name_len {s : Byt} (h : nameP s = true) : 1 ≤ s.length ∧ s.length ≤ 4096 := by
  unfold nameP at h
  simp only [Bool.and_eq_true, decide_eq_true_eq] at h
  exact h.1
theorem codes_all {t : Tab} : ∀ (l : List Glb), codesP t l = 0 → ∀ g ∈ l, codeP t g = 0
  | [], _, _, h => by cases h
  | x :: r, h, g, hg => by
    unfold codesP at h
    split at h
    · rename_i h0
      rcases List.mem_cons.1 hg with rfl | hg
      · exact h0
      · exact codes_all r h g hg
    · rename_i h0
      exact absurd h h0
/-- What is known of a table that Check takes. -/
structure Fine (t : Tab) : Prop where
  big : bigP t = false
  shp : shapesP t.1 = true
  hd : headsP t.2 = true
  code : ∀ g ∈ t.2, codeP t g = 0
theorem fine_of {t : Tab} (h : checkP t = 0) : Fine t := by
  unfold checkP at h
  split at h
  · omega
  · rename_i hb
    split at h
    · omega
    · rename_i hs
      simp only [Bool.not_eq_false, Bool.and_eq_true] at hs
      exact ⟨by simpa using hb, hs.1, hs.2, codes_all _ h⟩
theorem code_nums {t : Tab} {g : Glb} (h : codeP t g = 0) : numsP t.1.length t.2.length g.2.2.length 0 g.2.2 = 0 := by
  unfold codeP at h
  split at h
  · rename_i h0; exact h0
  · rename_i h0; exact absurd h h0
/-- All numbers are the program's. -/
def Small (t : Tab) : Prop := ∀ g ∈ t.2, ∀ x ∈ g.2.2, x.2.1 < 9223372036854775808 ∧ x.2.2 < 9223372036854775808
theorem Fine.ok {t : Tab} (h : Fine t) (hs : Small t) : TabOk t := by
  have hb := h.big
  unfold bigP at hb
  simp only [Bool.or_eq_false_iff, decide_eq_false_iff_not, List.any_eq_false, decide_eq_true_eq] at hb
  obtain ⟨⟨⟨b1, b2⟩, b3⟩, b4⟩ := hb
  have hs1 := h.shp
  unfold shapesP at hs1
  simp only [Bool.and_eq_true] at hs1
  have hh := h.hd
  unfold headsP at hh
  refine ⟨by omega, by omega, by omega, fun s hm => ?_, fun g hg => ?_⟩
  · obtain ⟨h1, h2, h3⟩ := things_all _ _ hs1.1.1 s hm
    exact ⟨(name_len h1).2, h2, by omega⟩
  · obtain ⟨h1, h2, h3⟩ := things_all _ _ hh (g.1, g.2.1) (List.mem_map.2 ⟨g, hg, rfl⟩)
    have h4 := b3 g hg
    refine ⟨(name_len h1).2, h2, by show g.2.1 < _; have : g.2.1 ≤ 24 := h3; omega, by omega, fun x hx => ?_⟩
    obtain ⟨i, hi, rfl⟩ := List.getElem_of_mem hx
    have h5 := nums_all _ 0 (code_nums (h.code g hg)) i hi
    exact num_ins h5 (hs g hg _ hx).1 (hs g hg _ hx).2
theorem sum_len (l : Byt) : (sumP l).length = 4 := rfl
theorem bytes_split (t : Tab) : (bytesW t).take ((bytesW t).length - 4) = markP ++ bodyW t ∧ (bytesW t).drop ((bytesW t).length - 4) = sumP (markP ++ bodyW t) ∧ 8 ≤ (bytesW t).length := by
  have hl : (bytesW t).length - 4 = (markP ++ bodyW t).length := by
    unfold bytesW
    rw [List.length_append, sum_len]
    omega
  refine ⟨?_, ?_, ?_⟩
  · rw [hl]; exact List.take_left' rfl
  · rw [hl]; exact List.drop_left' rfl
  · unfold bytesW
    rw [List.length_append, List.length_append, sum_len]
    have : markP.length = 4 := rfl
    omega
/-- What was written is read. -/
theorem load_bytes {t : Tab} (h : checkP t = 0) (hs : Small t) : loadP (bytesW t) = some t := by
  obtain ⟨e1, e2, e3⟩ := bytes_split t
  have hb := tab_back (r := []) ((fine_of h).ok hs)
  rw [List.append_nil] at hb
  unfold loadP
  rw [e1, e2, if_neg (by
    rintro (h1 | h1 | h1)
    · omega
    · exact h1 rfl
    · apply h1
      have : (bytesW t).take 4 = markP := by
        unfold bytesW
        rw [List.append_assoc]
        exact List.take_left' rfl
      exact this), show (markP ++ bodyW t).drop 4 = bodyW t from List.drop_left' rfl, hb]
  show (if checkP t = 0 then some t else none) = _
  rw [if_pos h]
/-- What is read is what was written. -/
theorem load_is {b : Byt} {t : Tab} (h : loadP b = some t) : b = bytesW t ∧ checkP t = 0 := by
  unfold loadP at h
  split at h
  · cases h
  · rename_i hc
    split at h
    · rename_i t' hq
      split at h
      · rename_i hk
        obtain rfl := Option.some.inj h
        refine ⟨?_, hk⟩
        have h1 := tab_is hq
        rw [List.append_nil] at h1
        have h8 : 8 ≤ b.length := by
          apply Classical.byContradiction
          intro hn
          exact hc (.inl (by omega))
        have h2 : sumP (b.take (b.length - 4)) = b.drop (b.length - 4) := by
          apply Classical.byContradiction
          intro hn
          exact hc (.inr (.inl hn))
        have h3 : b.take 4 = markP := by
          apply Classical.byContradiction
          intro hn
          exact hc (.inr (.inr hn))
        have h4 : b.take (b.length - 4) = markP ++ bodyW t' := by
          rw [← h1, ← h3]
          have : (b.take (b.length - 4)).take 4 = b.take 4 := by rw [List.take_take, Nat.min_eq_left (by omega)]
          rw [← this, List.take_append_drop]
        unfold bytesW
        rw [← h4, h2, List.take_append_drop]
      · cases h
    · cases h
/-- A byte turned, some cut off, or some put behind: none. -/
theorem load_turned {t : Tab} {b : Byt} (hb : b.length = (bytesW t).length) (hd : ∃ l m x y, bytesW t = l ++ x :: m ∧ b = l ++ y :: m ∧ x ≠ y) : loadP b = none := by
  cases hl : loadP b with
  | none => rfl
  | some u =>
    obtain ⟨e, hu⟩ := load_is hl
    obtain ⟨l, m, x, y, h1, h2, h3⟩ := hd
    exfalso
    obtain ⟨s1, s2, s3⟩ := bytes_split t
    obtain ⟨u1, u2, _⟩ := bytes_split u
    rw [← e] at u1 u2
    rw [hb] at u1 u2
    generalize bytesW t = c at *
    have key : crcP (markP ++ bodyW t) = crcP (markP ++ bodyW u) → False := fun hk => by
      rcases Nat.lt_or_ge l.length (c.length - 4) with hlt | hge
      · obtain ⟨k, hk4⟩ : ∃ k, c.length - 4 - l.length = k + 1 := ⟨c.length - 4 - l.length - 1, by omega⟩
        have t1 : c.take (c.length - 4) = l ++ x :: m.take k := by
          rw [h1, List.take_append, ← h1, hk4, List.take_succ_cons, List.take_of_length_le (by omega)]
        have t2 : b.take (c.length - 4) = l ++ y :: m.take k := by
          rw [h2, List.take_append, hk4, List.take_succ_cons, List.take_of_length_le (by omega)]
        rw [← s1, ← u1, t1, t2] at hk
        exact h3 (reg_turned hk)
      · have t1 : c.drop (c.length - 4) = l.drop (c.length - 4) ++ x :: m := by
          rw [h1, List.drop_append_of_le_length (by rw [← h1]; exact hge), ← h1]
        have t2 : b.drop (c.length - 4) = l.drop (c.length - 4) ++ y :: m := by
          rw [h2, List.drop_append_of_le_length hge]
        have he : sumP (markP ++ bodyW t) = sumP (markP ++ bodyW u) := by unfold sumP; rw [hk]
        rw [← s2, ← u2, t1, t2] at he
        have := List.append_cancel_left he
        exact h3 (List.cons.inj this).1
    rcases Nat.lt_or_ge l.length (c.length - 4) with hlt | hge
    · -- the sum stands as it was
      obtain ⟨k, hk4⟩ : ∃ k, c.length - 4 - l.length = k + 1 := ⟨c.length - 4 - l.length - 1, by omega⟩
      have t1 : c.drop (c.length - 4) = m.drop k := by
        rw [h1, List.drop_append, ← h1, hk4, List.drop_succ_cons, List.drop_of_length_le (by omega), List.nil_append]
      have t2 : b.drop (c.length - 4) = m.drop k := by
        rw [h2, List.drop_append, hk4, List.drop_succ_cons, List.drop_of_length_le (by omega), List.nil_append]
      have he : sumP (markP ++ bodyW t) = sumP (markP ++ bodyW u) := by rw [← s2, ← u2, t1, t2]
      exact key (sum_inj he)
    · have t1 : c.take (c.length - 4) = l.take (c.length - 4) := by
        rw [h1, List.take_append_of_le_length (by rw [← h1]; exact hge), ← h1]
      have t2 : b.take (c.length - 4) = l.take (c.length - 4) := by
        rw [h2, List.take_append_of_le_length hge]
      have he : markP ++ bodyW t = markP ++ bodyW u := by rw [← s1, ← u1, t1, t2]
      exact key (by rw [he])
theorem body_pre {t u : Tab} (h : checkP t = 0) (hs : Small t) {l : Byt} (hl : bodyW t ++ l = bodyW u) (hu : checkP u = 0) (hus : Small u) : l = [] := by
  have h1 := tab_back (r := []) ((fine_of hu).ok hus)
  have h2 := tab_back (r := l) ((fine_of h).ok hs)
  rw [List.append_nil, ← hl, h2] at h1
  simp only [Option.some.injEq, Prod.mk.injEq] at h1
  exact h1.2

theorem times_mem {α : Type} {f : Byt → Option (α × Byt)} : ∀ (n : Nat) (l r : Byt) (s : List α), timesR f n l = some (s, r) → ∀ a ∈ s, ∃ l' r', f l' = some (a, r')
  | 0, l, r, s, h, a, ha => by
    simp only [timesR, Option.some.injEq, Prod.mk.injEq] at h
    obtain ⟨rfl, rfl⟩ := h
    cases ha
  | n + 1, l, r, s, h, a, ha => by
    obtain ⟨b, q, h1, h2⟩ := bind_some h
    obtain ⟨t, p, h3, h4⟩ := bind_some h2
    simp only [Option.some.injEq, Prod.mk.injEq] at h4
    obtain ⟨rfl, rfl⟩ := h4
    rcases List.mem_cons.1 ha with rfl | ha
    · exact ⟨l, q, h1⟩
    · exact times_mem n q p t h3 a ha
theorem glbs_mem : ∀ (n left : Nat) (l r : Byt) (s : List Glb), glbsR n left l = some (s, r) → ∀ g ∈ s, ∃ left' l' r', glbR left' l' = some (g, r')
  | 0, _, l, r, s, h, a, ha => by
    simp only [glbsR, Option.some.injEq, Prod.mk.injEq] at h
    obtain ⟨rfl, rfl⟩ := h
    cases ha
  | n + 1, left, l, r, s, h, a, ha => by
    obtain ⟨b, q, h1, h2⟩ := bind_some h
    obtain ⟨t, p, h3, h4⟩ := bind_some h2
    simp only [Option.some.injEq, Prod.mk.injEq] at h4
    obtain ⟨rfl, rfl⟩ := h4
    rcases List.mem_cons.1 ha with rfl | ha
    · exact ⟨left, l, q, h1⟩
    · exact glbs_mem n _ q p t h3 a ha
theorem arg_small {kind : Nat} {n : Int} {l r : Byt} (h : argR kind l = some (n, r)) : n < 9223372036854775808 := by
  obtain ⟨m, q, h1, h2⟩ := bind_some h
  obtain ⟨_, e2⟩ := numW_is h1
  simp only [Option.some.injEq, Prod.mk.injEq] at h2
  obtain ⟨rfl, rfl⟩ := h2
  split
  · unfold unfoldP
    split <;> omega
  · omega
theorem ins_small {x : Ins} {l r : Byt} (h : insR l = some (x, r)) : x.2.1 < 9223372036854775808 ∧ x.2.2 < 9223372036854775808 := by
  obtain ⟨op, q, h1, h2⟩ := bind_some h
  have h2 : (if isOpP (op : Nat) = false then none else if kindB (op : Nat) ≠ 0 then bindR (argR (kindA (op : Nat)) q) fun a r => bindR (argR (kindB (op : Nat)) r) fun b r => some (((op : Int), a, b), r) else if kindA (op : Nat) ≠ 0 then bindR (argR (kindA (op : Nat)) q) fun a r => some (((op : Int), a, 0), r) else some (((op : Int), 0, 0), q)) = some (x, r) := h2
  split at h2
  · cases h2
  · split at h2
    · obtain ⟨a, p, h3, h4⟩ := bind_some h2
      obtain ⟨b, o, h5, h6⟩ := bind_some h4
      simp only [Option.some.injEq, Prod.mk.injEq] at h6
      obtain ⟨rfl, rfl⟩ := h6
      exact ⟨arg_small h3, arg_small h5⟩
    · split at h2
      · obtain ⟨a, p, h3, h4⟩ := bind_some h2
        simp only [Option.some.injEq, Prod.mk.injEq] at h4
        obtain ⟨rfl, rfl⟩ := h4
        exact ⟨arg_small h3, by show (0 : Int) < _; omega⟩
      · simp only [Option.some.injEq, Prod.mk.injEq] at h2
        obtain ⟨rfl, rfl⟩ := h2
        exact ⟨by show (0 : Int) < _; omega, by show (0 : Int) < _; omega⟩
theorem tab_small {t : Tab} {l r : Byt} (h : tabR l = some (t, r)) : Small t := by
  obtain ⟨n, q, h1, h2⟩ := bind_some h
  obtain ⟨s, p, h3, h4⟩ := bind_some h2
  obtain ⟨k, o, h5, h6⟩ := bind_some h4
  obtain ⟨c, m, h7, h8⟩ := bind_some h6
  simp only [Option.some.injEq, Prod.mk.injEq] at h8
  obtain ⟨rfl, rfl⟩ := h8
  intro g hg x hx
  obtain ⟨left, l1, r1, h9⟩ := glbs_mem _ _ _ _ _ h7 g hg
  obtain ⟨_, q1, _, h10⟩ := bind_some h9
  obtain ⟨_, p1, _, h11⟩ := bind_some h10
  obtain ⟨_, o1, _, h12⟩ := bind_some h11
  obtain ⟨c1, m1, h13, h14⟩ := bind_some h12
  simp only [Option.some.injEq, Prod.mk.injEq] at h14
  obtain ⟨rfl, rfl⟩ := h14
  obtain ⟨l2, r2, h15⟩ := times_mem _ _ _ _ h13 x hx
  exact ins_small h15
theorem load_small {b : Byt} {t : Tab} (h : loadP b = some t) : Small t := by
  unfold loadP at h
  split at h
  · cases h
  · split at h
    · rename_i t' hq
      split at h
      · obtain rfl := Option.some.inj h
        exact tab_small hq
      · cases h
    · cases h
/-- No table's bytes are a beginning of another one's. -/
theorem bytes_pre {t u : Tab} {x : Byt} (h : checkP t = 0) (hs : Small t) (hu : checkP u = 0) (hus : Small u) (e : bytesW u = bytesW t ++ x) : x = [] := by
  unfold bytesW at e
  rw [List.append_assoc, List.append_assoc, List.append_assoc] at e
  have e := List.append_cancel_left e
  have hl := congrArg List.length e
  simp only [List.length_append, sum_len] at hl
  have e2 : bodyW u = bodyW t ++ (sumP (markP ++ bodyW t) ++ x).take x.length := by
    have h1 := congrArg (List.take (bodyW u).length) e
    rw [List.take_left' rfl, List.take_append, List.take_of_length_le (by omega), show (bodyW u).length - (bodyW t).length = x.length by omega] at h1
    exact h1
  have h3 := body_pre h hs e2.symm hu hus
  have h4 := congrArg List.length h3
  rw [List.length_take, List.length_append, sum_len] at h4
  have h5 : min x.length (4 + x.length) = 0 := h4
  exact List.length_eq_zero_iff.1 (by omega)
theorem load_longer {t : Tab} {x : Byt} (h : checkP t = 0) (hs : Small t) (hx : x ≠ []) : loadP (bytesW t ++ x) = none := by
  cases hl : loadP (bytesW t ++ x) with
  | none => rfl
  | some u => exact absurd (bytes_pre h hs (load_is hl).2 (load_small hl) (load_is hl).1.symm) hx
theorem load_cut {t : Tab} {n : Nat} (h : checkP t = 0) (hs : Small t) (hn : n < (bytesW t).length) : loadP ((bytesW t).take n) = none := by
  cases hl : loadP ((bytesW t).take n) with
  | none => rfl
  | some u =>
    have h1 := (load_is hl).1
    have h2 := bytes_pre (x := (bytesW t).drop n) (load_is hl).2 (load_small hl) h hs (by rw [← h1, List.take_append_drop])
    have := congrArg List.length h2
    rw [List.length_drop] at this
    simp at this
    omega
end Go.Proofs.YtlpnegnpejpdkaaGreatDoor

namespace Go.Proofs.YtlpnegnpejpdkaaGreatDoor
theorem getD_set_eq' {α : Type} {l : List α} {i : Nat} {a e : α} (h : i < l.length) : (l.set i a).getD i e = a := by simp [List.getD, h]
theorem getD_set_ne' {α : Type} {l : List α} {i j : Nat} {a e : α} (h : j ≠ i) : (l.set i a).getD j e = l.getD j e := by simp only [List.getD, List.getElem?_set_ne (fun e => h e.symm)]
/-- What is reached stays reached. -/
def Grows (ds es : List Int) : Prop := es.length = ds.length ∧ (∀ j, ds.getD j 0 ≠ 0 → es.getD j 0 = ds.getD j 0) ∧ ∀ j, es.getD j 0 = ds.getD j 0 ∨ ds.getD j 0 = 0
theorem Grows.refl (ds : List Int) : Grows ds ds := ⟨rfl, fun _ _ => rfl, fun _ => .inl rfl⟩
theorem Grows.trans {a b c : List Int} (h : Grows a b) (k : Grows b c) : Grows a c := by
  refine ⟨k.1.trans h.1, fun j hj => ?_, fun j => ?_⟩
  · have e := h.2.1 j hj
    rw [k.2.1 j (by rw [e]; exact hj), e]
  · by_cases hj : a.getD j 0 = 0
    · exact .inr hj
    · have e := h.2.1 j hj
      exact .inl (by rw [k.2.1 j (by rw [e]; exact hj), e])
theorem reach_ok {ds : List Int} {i : Nat} {d : Int} (hi : i < ds.length) (h : (reachP ds i d).2 = true) : (reachP ds i d).1.getD i 0 = d ∧ Grows ds (reachP ds i d).1 := by
  unfold reachP at h ⊢
  by_cases h0 : ds.getD i 0 = 0
  · rw [if_pos h0]
    refine ⟨getD_set_eq' hi, by simp, fun j hj => getD_set_ne' fun e => hj (by rw [e]; exact h0), fun j => ?_⟩
    by_cases hji : j = i
    · exact .inr (by rw [hji]; exact h0)
    · exact .inl (getD_set_ne' hji)
  · rw [if_neg h0] at h ⊢
    exact ⟨by simpa using h, Grows.refl _⟩
theorem behind_pos {ns ng len i : Nat} {fs : List Int} {x : Ins} {d : Int} (hd : 1 ≤ d) (hfs : ∀ k, 0 ≤ fs.getD k 0) (hn : numP ns ng len i x = 0) (h : (behindP fs x d).2 = true) : 1 ≤ (behindP fs x d).1 := by
  obtain ⟨op, a, b⟩ := x
  unfold numP at hn
  split at hn
  · omega
  · rename_i hw
    simp only [Bool.not_eq_false, Bool.and_eq_true] at hw
    obtain ⟨⟨ho, ha⟩, hb⟩ := hw
    clear hn hb
    unfold isOpP at ho
    simp only [Bool.and_eq_true, decide_eq_true_eq] at ho
    have hf := hfs a.toNat
    rw [List.getD_eq_getElem?_getD] at hf
    obtain ⟨h1, h17⟩ := ho
    have hop : op = 1 ∨ op = 2 ∨ op = 3 ∨ op = 4 ∨ op = 5 ∨ op = 6 ∨ op = 7 ∨ op = 8 ∨ op = 9 ∨ op = 10 ∨ op = 11 ∨ op = 12 ∨ op = 13 ∨ op = 14 ∨ op = 15 ∨ op = 16 ∨ op = 17 := by omega
    rcases hop with rfl | rfl | rfl | rfl | rfl | rfl | rfl | rfl | rfl | rfl | rfl | rfl | rfl | rfl | rfl | rfl | rfl <;>
      simp [behindP, fitsP, kindA, kindsP] at h ha ⊢ <;> omega
/-- At each instruction the depth is one alone, enough for it, and what goes on behind it has the depth behind. -/
def DepthP (fs : List Int) (len : Nat) (D : List Int) (i : Nat) (x : Ins) : Prop :=
  1 ≤ D.getD i 0 ∧ (behindP fs x (D.getD i 0)).2 = true ∧ (behindP fs x (D.getD i 0)).1 ≤ 8000 ∧ 1 ≤ (behindP fs x (D.getD i 0)).1 ∧ (goesP x.1 = true → i + 1 < len ∧ D.getD (i + 1) 0 = (behindP fs x (D.getD i 0)).1) ∧ ∀ to, targetP x = some to → D.getD to.toNat 0 = (behindP fs x (D.getD i 0)).1
theorem flow_ok {ns ng : Nat} (fs : List Int) (len : Nat) (hfs : ∀ k, 0 ≤ fs.getD k 0) : ∀ (r : List Ins) (i : Nat) (ds : List Int), ds.length = len → r.length + i = len → (∀ j, 0 ≤ ds.getD j 0) → (∀ j (h : j < r.length), numP ns ng len (i + j) r[j] = 0) → flowP fs len i r ds = 0 → ∃ D, Grows ds D ∧ ∀ j (h : j < r.length), DepthP fs len D (i + j) r[j]
  | [], _, ds, _, _, _, _, _ => ⟨ds, Grows.refl _, fun j h => by simp at h⟩
  | x :: r, i, ds, hl, hr, hp, hn, hf => by
    unfold flowP at hf
    rw [List.length_cons] at hr
    have hn0 := hn 0 (by simp)
    rw [Nat.add_zero, List.getElem_cons_zero] at hn0
    by_cases h0 : (atP fs len ds i x).2 = 0
    · rw [if_pos h0] at hf
      -- what the step says
      have hstep : ds.getD i 0 ≠ 0 ∧ (behindP fs x (ds.getD i 0)).2 = true ∧ (behindP fs x (ds.getD i 0)).1 ≤ 8000 ∧ Grows ds (atP fs len ds i x).1 ∧ (goesP x.1 = true → i + 1 < len ∧ (atP fs len ds i x).1.getD (i + 1) 0 = (behindP fs x (ds.getD i 0)).1) ∧ (∀ to, targetP x = some to → (atP fs len ds i x).1.getD to.toNat 0 = (behindP fs x (ds.getD i 0)).1) ∧ (∀ j, 0 ≤ (atP fs len ds i x).1.getD j 0) := by
        have htl : ∀ to, targetP x = some to → to.toNat < len ∧ (i : Int) < to := fun to ht => by
          unfold numP at hn0
          split at hn0
          · omega
          · rw [ht] at hn0
            simp only at hn0
            split at hn0
            · omega
            · omega
        unfold atP at h0 ⊢
        simp only at h0 ⊢
        generalize hd : ds.getD i 0 = d at *
        by_cases hd0 : d = 0
        · rw [if_pos hd0] at h0
          simp at h0
        rw [if_neg hd0] at h0 ⊢
        by_cases hb : (behindP fs x d).2 = false ∨ 8000 < (behindP fs x d).1
        · rw [if_pos hb] at h0
          simp at h0
        rw [if_neg hb] at h0 ⊢
        have hb2 : (behindP fs x d).2 = true := by
          cases hq : (behindP fs x d).2 with
          | true => rfl
          | false => exact absurd (.inl hq) hb
        have hd1 : 1 ≤ d := by have := hp i; rw [hd] at this; omega
        have hb1 := behind_pos hd1 hfs hn0 hb2
        have hb8 : (behindP fs x d).1 ≤ 8000 := by
          apply Classical.byContradiction
          intro hc
          exact hb (.inr (by omega))
        generalize (behindP fs x d).1 = b at *
        by_cases hg : goesP x.1 = true ∧ i + 1 = len
        · rw [if_pos hg] at h0
          simp at h0
        rw [if_neg hg] at h0 ⊢
        have r1 : ∀ e1 : List Int × Bool, e1 = (if goesP x.1 = true then reachP ds (i + 1) b else (ds, true)) → e1.2 = true → Grows ds e1.1 ∧ (goesP x.1 = true → i + 1 < len ∧ e1.1.getD (i + 1) 0 = b) := fun e1 he he2 => by
          by_cases hgo : goesP x.1 = true
          · rw [if_pos hgo] at he
            have hlt : i + 1 < len := by
              have : i + 1 ≠ len := fun e => hg ⟨hgo, e⟩
              omega
            rw [he] at he2 ⊢
            obtain ⟨q1, q2⟩ := reach_ok (by omega) he2
            exact ⟨q2, fun _ => ⟨hlt, q1⟩⟩
          · rw [if_neg hgo] at he
            rw [he]
            exact ⟨Grows.refl _, fun h => absurd h hgo⟩
        generalize hE : (if goesP x.1 = true then reachP ds (i + 1) b else (ds, true)) = e1 at *
        have r1' := r1 e1 rfl
        clear r1
        by_cases he : e1.2 = false
        · rw [if_pos he] at h0
          simp at h0
        rw [if_neg he] at h0 ⊢
        obtain ⟨g1, g2⟩ := r1' (by simpa using he)
        have pos : ∀ es : List Int, Grows ds es → (∀ j, es.getD j 0 ≠ ds.getD j 0 → es.getD j 0 = b) → ∀ j, 0 ≤ es.getD j 0 := fun es hes hj j => by
          by_cases e : es.getD j 0 = ds.getD j 0
          · rw [e]; exact hp j
          · rw [hj j e]; omega
        have e1b : ∀ j, e1.1.getD j 0 ≠ ds.getD j 0 → e1.1.getD j 0 = b := fun j hj => by
          by_cases hgo : goesP x.1 = true
          · rw [if_pos hgo] at hE
            rw [← hE] at hj ⊢
            unfold reachP at hj ⊢
            split
            · rename_i hz
              rw [if_pos hz] at hj
              by_cases hji : j = i + 1
              · subst hji
                have := g2 hgo
                exact getD_set_eq' (by omega)
              · exact absurd (getD_set_ne' hji) hj
            · rename_i hz
              rw [if_neg hz] at hj
              exact absurd rfl hj
          · rw [if_neg hgo] at hE
            rw [← hE] at hj
            exact absurd rfl hj
        cases ht : targetP x with
        | none =>
          rw [ht] at h0
          exact ⟨hd0, hb2, hb8, g1, g2, fun to h => (by cases h), pos _ g1 e1b⟩
        | some to =>
          rw [ht] at h0
          simp only at h0
          obtain ⟨t1, t2⟩ := htl to ht
          have hq : (reachP e1.1 to.toNat b).2 = true := by
            cases hq : (reachP e1.1 to.toNat b).2 with
            | true => rfl
            | false => rw [hq] at h0; simp at h0
          obtain ⟨q1, q2⟩ := reach_ok (by rw [g1.1]; omega) hq
          refine ⟨hd0, hb2, hb8, g1.trans q2, fun hgo => ⟨(g2 hgo).1, ?_⟩, fun to' h => ?_, pos _ (g1.trans q2) fun j hj => ?_⟩
          · have := (g2 hgo).2
            show (reachP e1.1 to.toNat b).1.getD (i + 1) 0 = b
            rw [q2.2.1 _ (by rw [this]; omega), this]
          · obtain rfl := Option.some.inj h
            exact q1
          · show (reachP e1.1 to.toNat b).1.getD j 0 = b
            have hj : (reachP e1.1 to.toNat b).1.getD j 0 ≠ ds.getD j 0 := hj
            by_cases hjt : j = to.toNat
            · rw [hjt]; exact q1
            · have : (reachP e1.1 to.toNat b).1.getD j 0 = e1.1.getD j 0 := by
                unfold reachP
                split
                · exact getD_set_ne' hjt
                · rfl
              rw [this] at hj ⊢
              exact e1b j hj
      obtain ⟨s1, s2, s3, s4, s5, s6, s7⟩ := hstep
      obtain ⟨D, hD, hall⟩ := flow_ok fs len hfs r (i + 1) _ (by rw [s4.1]; exact hl) (by omega) s7 (fun j h => by
        have := hn (j + 1) (by simpa using h)
        rw [List.getElem_cons_succ] at this
        rw [show i + 1 + j = i + (j + 1) by omega]
        exact this) hf
      have hDi : D.getD i 0 = ds.getD i 0 := (s4.trans hD).2.1 i s1
      have hd1 : 1 ≤ ds.getD i 0 := by have := hp i; omega
      have hb1 := behind_pos hd1 hfs hn0 s2
      refine ⟨D, s4.trans hD, fun j hj => ?_⟩
      match j, hj with
      | 0, _ =>
        rw [List.getElem_cons_zero, Nat.add_zero]
        unfold DepthP
        rw [hDi]
        refine ⟨hd1, s2, s3, hb1, fun hgo => ⟨(s5 hgo).1, ?_⟩, fun to ht => ?_⟩
        · have := (s5 hgo).2
          rw [hD.2.1 _ (by rw [this]; omega), this]
        · have := s6 to ht
          rw [hD.2.1 _ (by rw [this]; omega), this]
      | j + 1, hj =>
        rw [List.getElem_cons_succ, show i + (j + 1) = i + 1 + j by omega]
        exact hall j (by simpa using hj)
    · rw [if_neg h0] at hf
      exact absurd hf h0
end Go.Proofs.YtlpnegnpejpdkaaGreatDoor
