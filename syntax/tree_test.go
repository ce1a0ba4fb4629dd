package syntax_test

import (
	"fmt"
	"reflect"
	"strings"

	"sloth/api"
)

// Trees in short. What they make has no field besides those named.

func named(name string) api.Term    { return api.Term{Kind: api.TermVar, Name: name} }
func con(name string) api.Term      { return api.Term{Kind: api.TermCon, Name: name} }
func num(n int) api.Term            { return api.Term{Kind: api.TermInt, Num: n} }
func flat(row ...api.Term) api.Term { return api.Term{Kind: api.TermFlat, Args: row} }
func left(row ...api.Term) api.Term { return api.Term{Kind: api.TermLeft, Args: row} }
func right(row ...api.Term) api.Term {
	return api.Term{Kind: api.TermRight, Args: row}
}

func app(f api.Term, args ...api.Term) api.Term {
	for _, a := range args {
		f = api.Term{Kind: api.TermApp, Args: []api.Term{f, a}}
	}
	return f
}

func list(parts ...api.Term) api.Term {
	if len(parts) == 0 {
		return con("[]")
	}
	return app(con(":"), parts[0], list(parts[1:]...))
}

func lam(body api.Term, pats ...api.Pat) api.Term {
	return api.Term{Kind: api.TermLam, Pats: pats, Args: []api.Term{body}}
}

func let(body api.Term, clauses ...api.Clause) api.Term {
	return api.Term{Kind: api.TermLet, Clauses: clauses, Args: []api.Term{body}}
}

func cond(args ...api.Term) api.Term { return api.Term{Kind: api.TermIf, Args: args} }

func cases(of api.Term, alts ...api.Branch) api.Term {
	return api.Term{Kind: api.TermCase, Args: []api.Term{of}, Alts: alts}
}

func alt(p api.Pat, body api.Term) api.Branch { return api.Branch{Pat: p, Body: body} }

func clause(name string, body api.Term, pats ...api.Pat) api.Clause {
	return api.Clause{Name: name, Pats: pats, Body: body}
}

func patVar(name string) api.Pat { return api.Pat{Kind: api.PatVar, Name: name} }
func patInt(n int) api.Pat       { return api.Pat{Kind: api.PatInt, Num: n} }
func patCon(name string, args ...api.Pat) api.Pat {
	return api.Pat{Kind: api.PatCon, Name: name, Args: args}
}

func patList(parts ...api.Pat) api.Pat {
	if len(parts) == 0 {
		return patCon("[]")
	}
	return patCon(":", parts[0], patList(parts[1:]...))
}

func wild() api.Pat { return api.Pat{Kind: api.PatWild} }

func tyVar(name string) api.Type { return api.Type{Kind: api.TyVar, Name: name} }
func data(name string, args ...api.Type) api.Type {
	return api.Type{Kind: api.TyData, Name: name, Args: args}
}
func fun(t, u api.Type) api.Type { return api.Type{Kind: api.TyFun, Args: []api.Type{t, u}} }

// Modules M with one thing.

func withClause(c api.Clause) api.Module {
	return api.Module{Name: "M", Clauses: []api.Clause{c}}
}
func withBody(body api.Term) api.Module  { return withClause(clause("f", body)) }
func withPat(p api.Pat) api.Module       { return withClause(clause("f", num(1), p)) }
func withImport(i api.Import) api.Module { return api.Module{Name: "M", Imports: []api.Import{i}} }
func withData(d api.Data) api.Module     { return api.Module{Name: "M", Datas: []api.Data{d}} }
func withFix(f api.Fixity) api.Module    { return api.Module{Name: "M", Fixes: []api.Fixity{f}} }
func withType(t api.Type) api.Module {
	return api.Module{Name: "M", Sigs: []api.Sig{{Name: "f", Type: t}}}
}

// same tells whether two trees are the same in all; a nil list and an empty one are (W5).
func same(a, b any) bool { return sameValue(reflect.ValueOf(a), reflect.ValueOf(b)) }

func sameValue(a, b reflect.Value) bool {
	switch a.Kind() {
	case reflect.Struct:
		for i := range a.NumField() {
			if !sameValue(a.Field(i), b.Field(i)) {
				return false
			}
		}
		return true
	case reflect.Slice:
		if a.Len() != b.Len() {
			return false
		}
		for i := range a.Len() {
			if !sameValue(a.Index(i), b.Index(i)) {
				return false
			}
		}
		return true
	}
	return a.Equal(b)
}

// short keeps what a failing test tells readable where its input is at a limit.
func short(x any) string {
	s, ok := x.(string)
	if !ok {
		s = strings.NewReplacer("sloth/api", "", "api.", "", "(nil)", "", "syntax_test.", "").Replace(fmt.Sprintf("%+v", x))
	}
	if len(s) > 600 {
		return fmt.Sprintf("%q..", s[:600])
	}
	return fmt.Sprintf("%q", s)
}
