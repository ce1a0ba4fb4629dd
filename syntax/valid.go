package syntax

import (
	"sloth/api"
	"sloth/lex"
)

// isModule tells whether Parse gives a module for some text.
func isModule(m api.Module) bool {
	return m.Text == 0 && isToken(m.Name, api.TokUpper) &&
		all(m.Imports, isImport) && all(m.Datas, isData) && all(m.Fixes, isFixity) &&
		all(m.Sigs, isSig) && all(m.Clauses, isDeclared)
}

func all[T any](l []T, is func(T) bool) bool {
	for _, x := range l {
		if !is(x) {
			return false
		}
	}
	return true
}

// isToken tells whether a text is a token's of one of some kinds: the layer below refuses to print what is none.
func isToken(text string, kinds ...int) bool {
	for _, kind := range kinds {
		if _, code := lex.Print([]api.Token{{Kind: kind, Text: text}}); code != api.ErrArg {
			return true
		}
	}
	return false
}

func isOwnOp(name string) bool {
	return name != consName && isToken(name, api.TokOp)
}

func isLower(name string) bool {
	return isToken(name, api.TokLower)
}

func isUpper(name string) bool {
	return isToken(name, api.TokUpper)
}

// isAnyUpper tells whether a name begins with a capital, with or without a module.
func isAnyUpper(name string) bool {
	return isToken(name, api.TokUpper, api.TokQUpper)
}

func isDefName(name string) bool {
	return isLower(name) || isOwnOp(name)
}

func isItem(name string) bool {
	return isUpper(name) || isDefName(name)
}

func isImport(i api.Import) bool {
	return isUpper(i.Module) && (i.Some || len(i.Names) == 0) && all(i.Names, isItem)
}

func isData(d api.Data) bool {
	return isUpper(d.Name) && all(d.Params, isLower) && len(d.Cons) > 0 && dataAbove(d) == api.OK && all(d.Cons, isCon)
}

func isCon(c api.Con) bool {
	return isUpper(c.Name) && all(c.Fields, isType)
}

func isFixity(f api.Fixity) bool {
	switch f.Assoc {
	case api.AssocNone, api.AssocLeft, api.AssocRight:
		return 0 <= f.Level && f.Level <= 9 && isDefName(f.Op)
	}
	return false
}

func isSig(s api.Sig) bool {
	return isDefName(s.Name) && typeAbove(s.Type) == api.OK && isType(s.Type)
}

// isDeclared tells whether a clause may stand outside of all others. Its depth is looked at first: then what follows does not go far down.
func isDeclared(c api.Clause) bool {
	return clauseAbove(c) == api.OK && isClause(c)
}

func isClause(c api.Clause) bool {
	return isDefName(c.Name) && all(c.Pats, isPat) && isTerm(c.Body)
}

func isBranch(b api.Branch) bool {
	return isPat(b.Pat) && isTerm(b.Body)
}

func isType(t api.Type) bool {
	switch t.Kind {
	case api.TyVar:
		return isLower(t.Name) && len(t.Args) == 0
	case api.TyFun:
		return t.Name == "" && len(t.Args) == 2 && all(t.Args, isType)
	case api.TyData:
		return isTypeOf(t.Name, len(t.Args)) && all(t.Args, isType)
	}
	return false
}

// isTypeOf tells whether a data type's name may have so many arguments.
func isTypeOf(name string, args int) bool {
	switch name {
	case unitName:
		return args == 0
	case listName:
		return args == 1
	case pairName:
		return args == 2
	case tripleName:
		return args == 3
	}
	return isAnyUpper(name)
}

func isPat(p api.Pat) bool {
	if p.Kind == api.PatInt {
		return p.Name == "" && len(p.Args) == 0 && isNumber(p.Num)
	}
	if p.Num != 0 {
		return false
	}
	switch p.Kind {
	case api.PatWild:
		return p.Name == "" && len(p.Args) == 0
	case api.PatVar:
		return isLower(p.Name) && len(p.Args) == 0
	case api.PatCon:
		return isPatOf(p.Name, len(p.Args)) && all(p.Args, isPat)
	}
	return false
}

// isPatOf tells whether a constructor may have so many arguments in a pattern.
func isPatOf(name string, args int) bool {
	switch name {
	case unitName, listName:
		return args == 0
	case consName, pairName:
		return args == 2
	case tripleName:
		return args == 3
	}
	return isAnyUpper(name)
}

func isNumber(num int) bool {
	return 0 <= num && num <= api.MaxInt
}

func isTerm(t api.Term) bool {
	return isHeld(t, 0)
}

// isHeld tells whether a term may stand as the function of an application that is itself that of another one, and so on, so many times: only so a tuple's constructor may.
func isHeld(t api.Term, times int) bool {
	if !isShaped(t) {
		return false
	}
	switch t.Kind {
	case api.TermVar:
		return isToken(t.Name, api.TokLower, api.TokQLower) || isOwnOp(t.Name)
	case api.TermCon:
		return isConOf(t.Name, times)
	case api.TermInt:
		return isNumber(t.Num)
	case api.TermApp:
		return isHeld(t.Args[0], times+1) && isTerm(t.Args[1])
	case api.TermFlat, api.TermLeft:
		return isRow(t.Args, 1)
	case api.TermRight:
		return isRow(t.Args, 0)
	}
	return all(t.Pats, isPat) && all(t.Clauses, isClause) && all(t.Args, isTerm) && all(t.Alts, isBranch)
}

// isShaped tells whether a term has the fields of its kind and no others.
func isShaped(t api.Term) bool {
	if t.Name != "" && t.Kind != api.TermVar && t.Kind != api.TermCon || t.Num != 0 && t.Kind != api.TermInt {
		return false
	}
	args, pats, clauses, alts := len(t.Args), len(t.Pats), len(t.Clauses), len(t.Alts)
	has := [...]int{args, pats, clauses, alts}
	switch t.Kind {
	case api.TermVar, api.TermCon, api.TermInt:
		return has == [...]int{0, 0, 0, 0}
	case api.TermApp:
		return has == [...]int{2, 0, 0, 0}
	case api.TermFlat:
		return has == [...]int{args, 0, 0, 0} && args >= 3 && args%2 == 1
	case api.TermLeft, api.TermRight:
		return has == [...]int{args, 0, 0, 0} && args >= 2 && args%2 == 0
	case api.TermLam:
		return has == [...]int{1, pats, 0, 0} && pats > 0
	case api.TermLet:
		return has == [...]int{1, 0, clauses, 0} && clauses > 0
	case api.TermIf:
		return has == [...]int{3, 0, 0, 0}
	case api.TermCase:
		return has == [...]int{1, 0, 0, alts} && alts > 0
	}
	return false
}

// isConOf tells whether a constructor may stand where it is so many times a function's (isHeld).
func isConOf(name string, times int) bool {
	switch name {
	case consName, listName, unitName:
		return true
	case pairName:
		return times >= 2
	case tripleName:
		return times >= 3
	}
	return isAnyUpper(name)
}

// isRow tells whether operands and operators take turns; first is the place of the first operator.
func isRow(row []api.Term, first int) bool {
	for i, t := range row {
		if !isTerm(t) || i%2 == first && !isOperator(t) {
			return false
		}
	}
	return true
}

// isOperator tells whether a term may stand between operands: a name, but none that is made of brackets.
func isOperator(t api.Term) bool {
	return t.Kind == api.TermVar || t.Kind == api.TermCon && t.Name != listName && t.Name != unitName
}
