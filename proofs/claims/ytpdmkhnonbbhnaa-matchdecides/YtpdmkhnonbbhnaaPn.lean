/- Patterns as trees of plain data; families; what a tree of switches is; the program's way to make one, as a plain function. -/
namespace Go.Proofs.Ytpdmkhnonbbhnaa

abbrev Str := List UInt8
/-- A pattern's kind, name, number. -/
abbrev Lb := Int × Str × Int
/-- Patterns of at most so many levels. -/
def Pn : Nat → Type
  | 0 => Empty
  | d + 1 => Lb × List (Pn d)
/-- A pattern of whatever depth. -/
abbrev Pt := (d : Nat) × Pn d
def Pt.lab : Pt → Lb
  | ⟨0, t⟩ => t.elim
  | ⟨_ + 1, t⟩ => t.1
def Pt.kind (p : Pt) : Int := p.lab.1
def Pt.name (p : Pt) : Str := p.lab.2.1
def Pt.num (p : Pt) : Int := p.lab.2.2
def Pt.kids : Pt → List Pt
  | ⟨0, t⟩ => t.elim
  | ⟨d + 1, t⟩ => t.2.map fun u => ⟨d, u⟩
/-- How many patterns stand in one, itself too. -/
def szn : (d : Nat) → Pn d → Nat
  | 0, t => t.elim
  | d + 1, t => 1 + (t.2.map (szn d)).sum
def Pt.sz (p : Pt) : Nat := szn p.1 p.2
def szs (l : List Pt) : Nat := (l.map Pt.sz).sum
theorem Pt.sz_eq : ∀ p : Pt, p.sz = 1 + szs p.kids
  | ⟨0, t⟩ => t.elim
  | ⟨d + 1, t⟩ => by
    show 1 + (t.2.map (szn d)).sum = 1 + ((t.2.map fun u => (⟨d, u⟩ : Pt)).map Pt.sz).sum
    rw [List.map_map]
    rfl
theorem Pt.sz_pos (p : Pt) : 0 < p.sz := by rw [p.sz_eq]; omega
theorem szs_nil : szs [] = 0 := rfl
theorem szs_cons (p : Pt) (l : List Pt) : szs (p :: l) = p.sz + szs l := by simp [szs]
theorem szs_append (l k : List Pt) : szs (l ++ k) = szs l + szs k := by simp [szs]
theorem sz_le_szs {p : Pt} : ∀ {l : List Pt}, p ∈ l → p.sz ≤ szs l
  | a :: r, h => by
    rw [szs_cons]
    rcases List.mem_cons.1 h with rfl | h
    · omega
    · have := sz_le_szs h
      omega
theorem len_le_szs : ∀ l : List Pt, l.length ≤ szs l
  | [] => by simp
  | a :: r => by
    have := len_le_szs r
    have := a.sz_pos
    rw [szs_cons, List.length_cons]
    omega
/-- The depth is one less at each step down. -/
theorem Pt.kids_lt : ∀ {p q : Pt}, q ∈ p.kids → q.1 < p.1
  | ⟨0, t⟩, _, _ => t.elim
  | ⟨d + 1, t⟩, q, h => by
    obtain ⟨u, _, rfl⟩ := List.mem_map.1 h
    exact Nat.lt_succ_self d
theorem Pt.depth_pos : ∀ p : Pt, 0 < p.1
  | ⟨0, t⟩ => t.elim
  | ⟨_ + 1, _⟩ => Nat.succ_pos _

def wild (p : Pt) : Bool := p.kind == 1 || p.kind == 2

/-- A family: names, numbers of fields. -/
abbrev Fam := List Str × List Int
/-- What is known of names: family, place, number of fields. -/
abbrev Kn := List (Str × Nat × Nat × Nat)
def knowC (i : Nat) : Kn → Nat → List Str → List Int → Option Kn
  | k, _, [], _ => some k
  | _, _, _ :: _, [] => none
  | k, p, n :: ns, x :: xs => if n = [] ∨ (∃ e ∈ k, e.1 = n) ∨ x < 0 ∨ 8 < x then none else knowC i (k ++ [(n, i, p, x.toNat)]) (p + 1) ns xs
def knowF : Nat → Kn → List Fam → Option Kn
  | _, k, [] => some k
  | i, k, f :: fs => if f.1.length = 0 ∨ 24 < f.1.length ∨ f.2.length ≠ f.1.length then none else (knowC i k 0 f.1 f.2).bind fun k' => knowF (i + 1) k' fs
def look (k : Kn) (n : Str) : Option (Nat × Nat × Nat) := (k.find? fun e => e.1 == n).map (·.2)
def looks (k : Kn) (n : Str) : Nat × Nat × Nat := (look k n).getD (0, 0, 0)

/-- A pattern that is not wild, and its row's number. -/
abbrev Sp := Nat × Pt
/-- A column: the path of what it is a field of, its number, its patterns that are not wild. -/
abbrev Col := List Nat × Nat × List Sp
def spotsOf (n : Nat) (lines : List (Nat × List Pt)) : List Sp := lines.filterMap fun l => match l.2[n]? with
  | some p => if wild p then none else some (l.1, p)
  | none => none
def colsOf (around : List Nat) (width : Nat) (lines : List (Nat × List Pt)) : List Col :=
  (List.range width).filterMap fun n => if (spotsOf n lines).isEmpty then none else some (around, n, spotsOf n lines)
def linesOf (spots : List Sp) : List (Nat × List Pt) := spots.map fun s => (s.1, s.2.kids)
def within (k : Kn) (spots : List Sp) (con : Str) (path : List Nat) : List Col := colsOf path (looks k con).2.2 (linesOf spots)

/-- A pattern that is not wild may be, whatever stands within it. -/
def mayBe (k : Kn) (p : Pt) : Bool :=
  if p.kind = 3 then decide (-4611686018427387904 ≤ p.num) && decide (p.num ≤ 4611686018427387903)
  else if p.kind = 4 then match look k p.name with
    | some c => p.kids.length == c.2.2
    | none => false
  else false
def together (k : Kn) (spots : List Sp) : Bool := match spots with
  | [] => true
  | f :: _ => spots.all fun s => s.2.kind == f.2.kind && mayBe k s.2 && (f.2.kind != 4 || (looks k s.2.name).1 == (looks k f.2.name).1)

/-- What a case is of: a name, or a number. -/
abbrev Cs := Str × Int
def csOf (p : Pt) : Cs := if p.kind = 4 then (p.name, 0) else ([], p.num)
/-- The order of cases. -/
def csLt (k : Kn) (a b : Cs) : Bool := decide ((looks k a.1).2.1 < (looks k b.1).2.1) || ((looks k a.1).2.1 == (looks k b.1).2.1 && decide (a.2 < b.2))
/-- A case put into its place in a row in which each stands once. -/
def putCs (k : Kn) (c : Cs) : List Cs → List Cs
  | [] => [c]
  | a :: r => if csLt k c a then c :: a :: r else if csLt k a c then a :: putCs k c r else a :: r
def casesOf (k : Kn) (spots : List Sp) : List Cs := spots.foldr (fun s l => putCs k (csOf s.2) l) []
def isOf (c : Cs) (s : Sp) : Bool := if c.1 = [] then s.2.num == c.2 else s.2.name == c.1
/-- All columns within one, and itself, are right. -/
def rightN (k : Kn) : Nat → List Sp → Bool
  | 0, _ => true
  | f + 1, spots => together k spots && (casesOf k spots).all fun c => (within k (spots.filter (isOf c)) c.1 []).all fun col => rightN k f col.2.2

/-- Trees of switches of at most so many levels: kind, row, path; cases; what else. -/
def Tr : Nat → Type
  | 0 => Unit
  | f + 1 => (Int × Nat × List Nat) × List (Cs × Tr f) × List (Tr f)
def trZero : (f : Nat) → Tr f
  | 0 => ()
  | _ + 1 => ((0, 0, []), [], [])
def hasRow (r : Nat) (c : Col) : Bool := c.2.2.any fun s => s.1 == r
/-- All values that may stand there have a case. -/
def isFull (k : Kn) (fs : List Fam) (cs : List Cs) : Bool := match cs with
  | [] => false
  | c :: _ => c.1 != [] && cs.length == (match fs[(looks k c.1).1]? with | some f => f.1.length | none => 0)
def without (rows : List Nat) (spots : List Sp) : List Nat := rows.filter fun r => !spots.any fun s => s.1 == r
def ofRows (spots : List Sp) (rows : List Nat) : List Sp := spots.filter fun s => rows.contains s.1
/-- The trees of cases, one behind the other; how many nodes there are then. -/
def eachP {α β : Type} (step : α → Nat → β × Nat) : List α → Nat → List β × Nat
  | [], n => ([], n)
  | a :: r, n => ((step a n).1 :: (eachP step r (step a n).2).1, (eachP step r (step a n).2).2)
def treeP (k : Kn) (fs : List Fam) : (f : Nat) → Nat → List Col → List Nat → Tr f × Nat
  | 0, n, _, _ => (trZero 0, n + 1)
  | f + 1, n, cols, rows =>
    if 5000 ≤ n then (trZero (f + 1), n + 1) else match rows with
    | [] => (((1, 0, []), [], []), n + 1)
    | r :: _ => match cols.findIdx? (hasRow r) with
      | none => (((2, r, []), [], []), n + 1)
      | some at' => match cols[at']? with
        | none => (trZero (f + 1), n + 1)
        | some c =>
          let spots := ofRows c.2.2 rows
          let path := c.1 ++ [c.2.1]
          let cs := casesOf k spots
          let a := eachP (fun x m => treeP k fs f m (cols.take at' ++ within k (spots.filter (isOf x)) x.1 path ++ cols.drop (at' + 1)) (without rows (spots.filter fun s => !isOf x s))) cs (n + 1)
          if isFull k fs cs then (((3, 0, path), cs.zip a.1, []), a.2)
          else
            let e := treeP k fs f a.2 (cols.take at' ++ cols.drop (at' + 1)) (without rows spots)
            (((3, 0, path), cs.zip a.1, [e.1]), e.2)
def nestP : (f : Nat) → Tr f → Nat
  | 0, _ => 1
  | f + 1, t => (t.2.2.map (nestP f)).foldl max ((t.2.1.map fun c => nestP f c.2).foldl max 0) + 1
/-- One of some patterns is deeper than so many levels. -/
def above : Nat → Pt → Bool
  | 0, _ => true
  | l + 1, p => p.kind == 4 && p.kids.any (above l)
def deepP (rows : List (List Pt)) : Bool := rows.any fun r => r.any (above 1000)
/-- The rows of a tree. -/
def metP : (f : Nat) → Tr f → List Nat
  | 0, _ => []
  | f + 1, t => (if t.1.1 = 2 then [t.1.2.1] else []) ++ (t.2.1.flatMap fun c => metP f c.2) ++ t.2.2.flatMap (metP f)
/-- A step on the way to a failure: a path, and what stands there: kind, name, number, number of fields. -/
abbrev Stp := List Nat × Lb × Nat
def patOf (k : Kn) (c : Cs) : Lb × Nat := if c.1 = [] then ((3, [], c.2), 0) else ((4, c.1, 0), (looks k c.1).2.2)
def gapP (k : Kn) (con : Str) : List Cs → Nat → Nat
  | [], g => g
  | c :: r, g => gapP k con r (if (con = [] ∧ c.2 = (g : Int)) ∨ (con ≠ [] ∧ (looks k c.1).2.1 = g) then g + 1 else g)
def otherThan (k : Kn) (fs : List Fam) (cs : List Cs) : Lb × Nat := match cs with
  | [] => ((0, [], 0), 0)
  | c :: _ => if c.1 = [] then patOf k ([], (gapP k [] cs 0 : Nat)) else patOf k (match fs[(looks k c.1).1]? with
    | some f => f.1.getD (gapP k c.1 cs 0) []
    | none => [], 0)
/-- The way to the first failure, its last step first. -/
def toFail (k : Kn) (fs : List Fam) : (f : Nat) → Tr f → Option (List Stp)
  | 0, _ => none
  | f + 1, t => if t.1.1 = 1 then some [] else
    match t.2.1.findSome? (fun c => (toFail k fs f c.2).map fun y => y ++ [(t.1.2.2, patOf k c.1)]) with
    | some y => some y
    | none => t.2.2.findSome? fun e => (toFail k fs f e).map fun y => y ++ [(t.1.2.2, otherThan k fs (t.2.1.map (·.1)))]
/-- A pattern with nothing said of its fields. -/
def bare : (d : Nat) → Lb × Nat → Pn (d + 1)
  | 0, q => (q.1, [])
  | _ + 1, q => (q.1, List.replicate q.2 (((1, [], 0), []) : Pn (_ + 1)))
/-- A pattern at a path in one. -/
def setAt : (d : Nat) → Pn d → List Nat → Lb × Nat → Pn d
  | 0, t, _, _ => t.elim
  | d + 1, _, [], q => bare d q
  | d + 1, t, i :: path, q => (t.1, t.2.modify i fun u => setAt d u path q)
def missP (D : Nat) (n : Nat) (way : List Stp) : List (Pn (D + 1)) :=
  way.reverse.foldl (fun l s => match s.1 with
    | [] => l
    | c :: path => l.modify c fun u => setAt (D + 1) u path s.2) (List.replicate n (bare D ((1, [], 0), 0)))
/-- Whole, Idle, Missing. -/
abbrev Cv (D : Nat) := Bool × List Nat × List (Pn (D + 1))
def coverP (D : Nat) (k : Kn) (fs : List Fam) (f : Nat) (t : Tr f) (rows : List (List Pt)) : Cv D :=
  (!(toFail k fs f t).isSome, (List.range rows.length).filter fun r => !(metP f t).contains r, match toFail k fs f t with
    | none => []
    | some way => match rows with
      | [] => []
      | r :: _ => missP D r.length way)
def compileP (f D : Nat) (fs : List Fam) (rows : List (List Pt)) : Int × Option (Tr f × Cv D) :=
  if 200 < rows.length ∨ (∃ r ∈ rows, 16 < r.length) then (2, none) else
  match knowF 0 [] fs with
  | none => (70, none)
  | some k =>
    let lines := (List.range rows.length).zip rows
    let width := (rows.headD []).length
    if (∃ r ∈ rows, r.length ≠ width) ∨ ¬ (∀ c ∈ colsOf [] width lines, rightN k (rows.flatMap (·.map (·.1))).sum c.2.2 = true) then (71, none) else
    let t := treeP k fs f 0 (colsOf [] width lines) (List.range rows.length)
    if 5000 < t.2 then (4, none) else
    if 1000 < nestP f t.1 ∨ deepP rows = true then (3, none) else (0, some (t.1, coverP D k fs f t.1 rows))
end Go.Proofs.Ytpdmkhnonbbhnaa
