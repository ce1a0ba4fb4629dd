package meaning_test

import (
	"reflect"
	"testing"

	"sloth/api"
	"sloth/core"
	"sloth/meaning"
)

func sameProgram(p, q api.Program) bool {
	same, code := core.Same(p, q)
	return same && code == api.OK
}

// checkRefused: Run answers that error, and an outcome that is zero.
func checkRefused(t *testing.T, p api.Program, entry string, input []int, fuel int, want api.Errno) {
	t.Helper()
	o, code := meaning.Run(p, entry, input, fuel)
	if code != want || !reflect.DeepEqual(o, api.Outcome{}) {
		t.Errorf("Run of %d definitions, %q, %d numbers, %d: %+v, %v, want %v", len(p.Defs), entry, len(input), fuel, o, code, want)
	}
}

// TestRefused: the errors, in their order: each alone, and with all that come behind it.
func TestRefused(t *testing.T) {
	good := read(t, `(def "m" () Int 7) (def "p" (a) (List a) (con "Nil" a)) (def "q" (a) Int 7) (def "f" () (Int -> Int) (lam "x" Int "x")) (def "i" () ((List Int) -> Int) (lam "l" (List Int) 1))`)
	bad := api.Program{Defs: []api.Def{{Name: "m"}}}
	long := make([]int, api.MaxInput+1)
	longWrong := make([]int, api.MaxInput+1)
	longWrong[3] = api.MaxInt + 1
	for _, x := range []struct {
		p     api.Program
		entry string
		input []int
		fuel  int
		want  api.Errno
	}{
		{good, "m", long, 5, api.ErrLong},
		{good, "i", long, 5, api.ErrLong},
		{good, "m", longWrong, 5, api.ErrLong},
		{good, "m", long, -1, api.ErrLong},
		{bad, "m", long, 5, api.ErrLong},
		{good, "nobody", long, 5, api.ErrLong},
		{bad, "nobody", longWrong, api.MaxSteps + 1, api.ErrLong},
		{good, "m", []int{api.MaxInt + 1}, 5, api.ErrArg},
		{good, "i", []int{api.MaxInt + 1}, 5, api.ErrArg},
		{good, "i", []int{1, 2, api.MinInt - 1}, 5, api.ErrArg},
		{good, "i", []int{-1 << 63, 1}, 5, api.ErrArg},
		{good, "i", []int{1, 1<<63 - 1}, 5, api.ErrArg},
		{bad, "m", []int{api.MaxInt + 1}, 5, api.ErrArg},
		{bad, "nobody", []int{api.MaxInt + 1}, -1, api.ErrArg},
		{good, "nobody", []int{api.MaxInt + 1}, 5, api.ErrArg},
		{good, "m", nil, -1, api.ErrArg},
		{good, "m", nil, -1 << 63, api.ErrArg},
		{good, "m", nil, api.MaxSteps + 1, api.ErrArg},
		{good, "m", nil, 1<<63 - 1, api.ErrArg},
		{bad, "m", nil, -1, api.ErrArg},
		{good, "nobody", nil, api.MaxSteps + 1, api.ErrArg},
		{bad, "nobody", nil, api.MaxSteps + 1, api.ErrArg},
		{bad, "m", nil, 5, api.ErrCoreType},
		{bad, "nobody", nil, 5, api.ErrCoreType},
		{good, "nobody", nil, 5, api.ErrMeaningEntry},
		{good, "", nil, 5, api.ErrMeaningEntry},
		{good, "M", nil, 5, api.ErrMeaningEntry},
		{good, "p", nil, 5, api.ErrMeaningEntry},
		{good, "q", nil, 5, api.ErrMeaningEntry}, // its type would do
		{good, "f", []int{1}, 0, api.ErrMeaningEntry},
		{api.Program{}, "m", nil, 0, api.ErrMeaningEntry},
	} {
		checkRefused(t, x.p, x.entry, x.input, x.fuel, x.want)
	}
	// at the limits all is well
	most := make([]int, api.MaxInput)
	most[0], most[1] = api.MinInt, api.MaxInt
	for _, fuel := range []int{0, api.MaxSteps} {
		run(t, good, "m", most, fuel)
		run(t, good, "i", most, fuel)
	}
}

// TestCheck: W8: what core.Check says of a program is the answer, also if it is wrong where the entry does not lead.
func TestCheck(t *testing.T) {
	deep := api.Expr{Kind: api.ExprInt}
	for range api.MaxDeep {
		deep = api.Expr{Kind: api.ExprSeq, Args: []api.Expr{{Kind: api.ExprInt}, deep}}
	}
	big := api.Program{Defs: make([]api.Def, api.MaxCore/3+1)}
	for _, text := range []string{
		`(def "m" () Int 7) (def "m" () Int 7)`,
		`(def "m" () Int "x")`,
		`(def "m" () Int 7) (def "n" () Int (con "Nobody"))`,
		`(def "m" () Bool 7)`,
		`(def "m" () Int (case 1 (else 2) (int 1 3)))`,
		`(def "m" () (Int -> Int) (lam "x" Int (let (("x" Int 1)) "x")))`,
		`(data Bool () ("x")) (def "m" () Int 7)`,
		`(def "m" () M.T (fail 1 M.T))`,
	} {
		p, code := core.Read(text)
		if code != api.OK || core.Check(p) == api.OK {
			t.Fatal("the test is wrong:", text)
		}
		checkRefused(t, p, "m", nil, 100, core.Check(p))
		checkRefused(t, p, "nobody", nil, 100, core.Check(p))
		checkRefused(t, p, "m", []int{-1 << 63}, 100, api.ErrArg)
	}
	checkRefused(t, api.Program{Defs: []api.Def{{Name: "m", Type: api.Type{Kind: api.TyInt}, Body: deep}}}, "m", nil, 100, api.ErrNest)
	checkRefused(t, big, "m", nil, 100, api.ErrBig)
	// an expression of no kind, a number that is none
	for _, e := range []api.Expr{{}, {Kind: 13}, {Kind: -1}, {Kind: api.ExprInt, Num: api.MaxInt + 1}, {Kind: api.ExprInt, Name: "x"}, {Kind: api.ExprApp}, {Kind: api.ExprCase}, {Kind: api.ExprLet}} {
		checkRefused(t, api.Program{Defs: []api.Def{{Name: "m", Type: api.Type{Kind: api.TyInt}, Body: e}}}, "m", nil, 100, api.ErrCoreForm)
	}
}
