package core_test

import (
	"fmt"
	"testing"

	"sloth/api"
	"sloth/core"
)

func checkMet(t *testing.T, met map[api.Errno]int, least int, codes ...api.Errno) {
	t.Helper()
	t.Log(met)
	for _, code := range codes {
		if met[code] < least {
			t.Errorf("%v is met %d times", code, met[code])
		}
	}
}

// TestRight: P8.1: the programs that the maker makes are right; the second form says so too.
func TestRight(t *testing.T) {
	t.Parallel()
	many(t, 1, 2000, func(k *maker) {
		checkCode(t, told(k.Program), core.Check(k.Program), api.OK)
		checkCode(t, told(k.Program), plainCheck(k.Program), api.OK)
	})
}

// TestPlainCheck: P8.1, P8.3: programs with which something is wrong.
func TestPlainCheck(t *testing.T) {
	t.Parallel()
	met := map[api.Errno]int{}
	many(t, 2, 3000, func(k *maker) {
		for range 8 {
			p := bare(k.Program)
			for range 1 + k.Intn(3)*k.Intn(2) {
				k.spoil(&p)
			}
			code, want := core.Check(p), plainCheck(p)
			if code != want {
				t.Fatalf("Check(%s): %v, want %v\n%+v", told(p), code, want, p)
			}
			if n := core.Size(p); n != plainSize(p) {
				t.Fatalf("Size(%s): %d, want %d\n%+v", told(p), n, plainSize(p), p)
			}
			met[code]++
		}
	})
	checkMet(t, met, 500, api.OK, api.ErrCoreData, api.ErrCoreName, api.ErrCoreType, api.ErrCoreForm)
}

var tooDeep = chain(5000)

// TestPlainType: P8.2: an expression of a right program has its type where its locals are known; with something wrong, what the second form says.
func TestPlainType(t *testing.T) {
	t.Parallel()
	met := map[api.Errno]int{}
	many(t, 3, 1500, func(k *maker) {
		for range 6 {
			x := k.seen[k.Intn(len(k.seen))]
			is, code := core.Type(k.Program, x.locals, x.expr)
			if code != api.OK || !alike(is, x.is) {
				t.Fatalf("Type(%s, %v, %s): %v, %v", told(k.Program), x.locals, toldExpr(x.expr), is, code)
			}
			locals := bare(x.locals)
			for i := range locals {
				locals[i].Value = pick(k.Rand, api.Expr{}, num(1), api.Expr{Kind: 99, Args: []api.Expr{tooDeep}}, local("nobody"))
			}
			q := one(integer, bare(x.expr))
			q.Defs[0].Body.Binds = append(q.Defs[0].Body.Binds, locals...)
			n := len(x.expr.Binds)
			k.spoil(&q)
			var e api.Expr
			if len(q.Defs) > 0 {
				e = q.Defs[0].Body
			}
			if n < len(e.Binds) {
				locals, e.Binds = e.Binds[n:], e.Binds[:n]
			}
			p := k.Program
			if k.Intn(20) == 0 {
				p = bare(p)
				k.spoil(&p)
			}
			is, code = core.Type(p, locals, e)
			wantIs, want := plainType(p, locals, e)
			if code != want || !alike(is, wantIs) {
				t.Fatalf("Type(%s, %v, %s): %v %v, want %v %v\n%+v", told(p), locals, toldExpr(e), is, code, wantIs, want, e)
			}
			met[code]++
		}
	})
	checkMet(t, met, 100, api.OK, api.ErrCoreName, api.ErrCoreType, api.ErrCoreForm)
	checkMet(t, met, 1, api.ErrCoreData)
}

// TestBodies: P8.9: each body has its definition's type.
func TestBodies(t *testing.T) {
	t.Parallel()
	many(t, 4, 1500, func(k *maker) {
		for _, d := range k.Defs {
			is, code := core.Type(k.Program, nil, d.Body)
			if code != api.OK || !alike(is, d.Type) {
				t.Errorf("Type(%s, %s): %v, %v", told(k.Program), d.Name, is, code)
			}
		}
	})
}

// localsOf tells the local names of a definition.
func localsOf(d *api.Def) []string {
	var l []string
	each(&d.Body, func(name *string, binds bool) {
		if binds {
			l = append(l, *name)
		}
	})
	return l
}

// renamed is the program with another name for a local of a definition, where it is bound and where it is spoken of.
func renamed(p api.Program, def int, from, to string) api.Program {
	p = bare(p)
	each(&p.Defs[def].Body, func(name *string, _ bool) {
		if *name == from {
			*name = to
		}
	})
	return p
}

// otherLocals is the program with other names for all locals.
func otherLocals(k *maker, p api.Program) api.Program {
	for i := range p.Defs {
		names := localsOf(&p.Defs[i])
		for _, j := range k.Perm(len(names)) {
			p = renamed(p, i, names[j], fmt.Sprint("other ", j))
		}
		for j := range names {
			p = renamed(p, i, fmt.Sprint("other ", j), fmt.Sprint("y", len(names)-j))
		}
	}
	return p
}

// TestRenamed: P8.9: one local's name turned to another one.
func TestRenamed(t *testing.T) {
	t.Parallel()
	turned := 0
	many(t, 5, 3000, func(k *maker) {
		def := k.Intn(len(k.Defs))
		names := localsOf(&k.Defs[def])
		if len(names) == 0 {
			return
		}
		turned++
		q := renamed(k.Program, def, names[k.Intn(len(names))], pick(k.Rand, "new", `"`, `\ `, "~~"))
		checkCode(t, told(q), core.Check(q), api.OK)
		if is, code := core.Same(k.Program, q); !is || code != api.OK {
			t.Errorf("Same(%s, %s): %v, %v", told(k.Program), told(q), is, code)
		}
	})
	if turned < 1000 {
		t.Error("few:", turned)
	}
}

// TestSamePlain: P8.4, P8.10: programs that are one, and nearly so.
func TestSamePlain(t *testing.T) {
	t.Parallel()
	met, yes, no := map[api.Errno]int{}, 0, 0
	many(t, 6, 2000, func(k *maker) {
		p, q := otherLocals(k, k.Program), otherLocals(k, k.Program)
		for _, x := range [][2]api.Program{{p, p}, {p, k.Program}, {k.Program, q}, {p, q}} {
			if is, code := core.Same(x[0], x[1]); !is || code != api.OK {
				t.Fatalf("Same(%s, %s): %v, %v", told(x[0]), told(x[1]), is, code)
			}
		}
		for range 8 {
			q := bare(q)
			k.spoil(&q)
			is, code := core.Same(p, q)
			want, wantCode := plainSame(p, q)
			back, backCode := core.Same(q, p)
			if is != want || code != wantCode || back != is || backCode != code {
				t.Fatalf("Same(%s, %s): %v %v, back %v %v, want %v %v", told(p), told(q), is, code, back, backCode, want, wantCode)
			}
			met[code]++
			if is {
				yes++
			} else if code == api.OK {
				no++
			}
		}
	})
	t.Log("same:", yes, "other:", no)
	if yes < 100 || no < 500 {
		t.Error("few:", yes, no)
	}
	checkMet(t, met, 100, api.ErrCoreName, api.ErrCoreType, api.ErrCoreForm)
}

// TestThereAndBack: P8.8: Read of Print is the program; Print of Read is one text for all that Read as the same program.
func TestThereAndBack(t *testing.T) {
	t.Parallel()
	many(t, 7, 1500, func(k *maker) {
		text, code := core.Print(k.Program)
		want, wantCode := plainPrint(k.Program)
		if text != want || code != wantCode {
			t.Fatalf("Print: %s %v, want %s %v", text, code, want, wantCode)
		}
		for _, s := range []string{text, k.loose(text), k.loose(text)} {
			p, code := core.Read(s)
			if code != api.OK || !alike(p, k.Program) {
				t.Fatalf("Read(%s): %+v, %v\nwant %+v", s, p, code, k.Program)
			}
			if again, code := core.Print(p); again != text || code != api.OK {
				t.Fatalf("Print of Read(%s): %s, %v", s, again, code)
			}
		}
	})
}

// TestPlainRead: P8.6: texts with something changed in them.
func TestPlainRead(t *testing.T) {
	t.Parallel()
	met := map[api.Errno]int{}
	many(t, 8, 1500, func(k *maker) {
		text := told(k.Program)
		for range 12 {
			s := k.spoilText(text)
			p, code := core.Read(s)
			want, wantCode := plainReadText(s)
			if code != wantCode || !alike(p, want) {
				t.Fatalf("Read(%q): %+v, %v\nwant %+v, %v", s, p, code, want, wantCode)
			}
			met[code]++
		}
	})
	checkMet(t, met, 1000, api.OK, api.ErrCoreText)
}

// spoilText changes a piece of a text, or a byte.
func (k *maker) spoilText(text string) string {
	if k.Intn(2) == 0 {
		i := k.Intn(len(text))
		return text[:i] + pick(k.Rand, "", "(", ")", `"`, `\`, " ", "a", "0", "-", "\x7f", "\x00", "é", ".", "'", "\t", "\v") + text[min(len(text), i+k.Intn(3)):]
	}
	at := pieces.FindAllStringIndex(text, -1)
	i, j := at[k.Intn(len(at))], at[k.Intn(len(at))]
	if i[0] > j[0] {
		i, j = j, i
	}
	other := text[i[0]:i[1]]
	switch k.Intn(3) {
	case 0: // a piece in another one's place
		return text[:j[0]] + other + text[j[1]:]
	case 1: // a piece away
		return text[:i[0]] + text[i[1]:]
	}
	return text[:i[0]] + pick(k.Rand, "Int", "a", "List", "(List Int)", "(a -> b)", "->", "()", `"x"`, "7", "(else 1)", "(fail 1 Int)", "data", "def", "con", "A.B", "A.B.C", "a.b") + " " + text[i[0]:]
}
