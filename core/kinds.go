package core

import "sloth/api"

// How many things there are in a list: so many, or one of these.
const (
	anyNumber = -1
	oneOrMore = -2
)

// row says of a kind of expressions how its text begins, which fields it has, and how many things in each list.
type row struct {
	head                     string
	name, num                bool
	types, args, binds, alts int
}

var kinds = []row{
	api.ExprVar:    {name: true},
	api.ExprInt:    {num: true},
	api.ExprGlobal: {head: "global", name: true, types: anyNumber},
	api.ExprCon:    {head: "con", name: true, types: anyNumber},
	api.ExprApp:    {head: "app", args: 2},
	api.ExprLam:    {head: "lam", args: 1, binds: 1},
	api.ExprLet:    {head: "let", args: 1, binds: oneOrMore},
	api.ExprCase:   {head: "case", args: 1, alts: oneOrMore},
	api.ExprOp:     {head: "op", name: true, args: 2},
	api.ExprSeq:    {head: "seq", args: 2},
	api.ExprHard:   {head: "hard", args: 1, binds: 1},
	api.ExprFail:   {head: "fail", num: true, types: 1},
}

// kindOf tells the kind whose text begins so; 0, if none does.
func kindOf(head string) int {
	for kind, r := range kinds {
		if r.head == head && head != "" {
			return kind
		}
	}
	return 0
}

func fits(things, want int) bool {
	return things == want || want == anyNumber || want == oneOrMore && things > 0
}

// hasForm tells whether an expression is as its kind says, whatever its parts are.
func hasForm(e *api.Expr) bool {
	if e.Kind < api.ExprVar || e.Kind > api.ExprFail {
		return false
	}
	r := kinds[e.Kind]
	if !r.name && e.Name != "" || !r.num && e.Num != 0 {
		return false
	}
	if !fits(len(e.Types), r.types) || !fits(len(e.Args), r.args) || !fits(len(e.Binds), r.binds) || !fits(len(e.Alts), r.alts) {
		return false
	}
	switch e.Kind {
	case api.ExprLam:
		return isZero(&e.Binds[0].Value)
	case api.ExprOp:
		return isSum(e.Name) || isComparison(e.Name)
	case api.ExprInt:
		return isNumber(e.Num)
	case api.ExprFail:
		return api.StuckStop <= e.Num && e.Num <= api.StuckLoop
	}
	return true
}

func isZero(e *api.Expr) bool {
	return e.Kind == 0 && e.Name == "" && e.Num == 0 && len(e.Types)+len(e.Args)+len(e.Binds)+len(e.Alts) == 0
}

func isNumber(n int) bool { return api.MinInt <= n && n <= api.MaxInt }

func isSum(name string) bool {
	switch name {
	case "+", "-", "*", "/", "%":
		return true
	}
	return false
}

func isComparison(name string) bool {
	switch name {
	case "==", "/=", "<", "<=", ">", ">=":
		return true
	}
	return false
}

// hasAltForm tells whether an alternative is as its kind says, where something of that kind of types is looked at.
func hasAltForm(a *api.Alt, seen int) bool {
	switch a.Kind {
	case api.AltCon:
		return a.Num == 0 && seen == api.TyData
	case api.AltInt:
		return a.Con == "" && len(a.Vars) == 0 && seen == api.TyInt && isNumber(a.Num)
	case api.AltElse:
		return a.Con == "" && a.Num == 0 && len(a.Vars) == 0
	}
	return false
}
