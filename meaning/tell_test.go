package meaning_test

import (
	"fmt"
	"strings"
	"testing"
	"time"

	"sloth/api"
	"sloth/core"
	"sloth/elab"
	"sloth/meaning"
)

// items writes what was told.
func items(l []api.Item) string {
	var b strings.Builder
	for _, x := range l {
		switch {
		case x.Con == "":
			fmt.Fprint(&b, " ", x.Num)
		case x.Num == 0:
			b.WriteString(" " + x.Con)
		default:
			fmt.Fprint(&b, " wrong item ", x)
		}
	}
	return b.String()
}

// told writes an outcome: how it ended, its steps, a colon, what was told. What has no meaning there must be zero.
func told(o api.Outcome) string {
	stuck := map[int]string{api.StuckStop: "stop", api.StuckMatch: "match", api.StuckZero: "zero", api.StuckLoop: "loop", api.StuckForm: "form"}
	end := map[int]string{api.Done: "done", api.OutOfFuel: "fuel"}[o.Kind]
	if o.Kind == api.Stuck {
		end = stuck[o.Stuck]
	} else if o.Stuck != 0 {
		end = ""
	}
	if end == "" || o.Fault != (api.Fault{}) {
		return fmt.Sprintf("wrong outcome: %+v", o)
	}
	return fmt.Sprint(end, " ", o.Steps, ":", items(o.Told))
}

func short(s string) string {
	if len(s) > 1500 {
		s = s[:700] + " .. " + s[len(s)-700:]
	}
	return s
}

// read reads a right program.
func read(t *testing.T, text string) api.Program {
	t.Helper()
	p, code := core.Read(text)
	if code == api.OK {
		code = core.Check(p)
	}
	if code != api.OK {
		t.Fatalf("the test is wrong: %s: %v", short(text), code)
	}
	return p
}

// run runs what must not be refused.
func run(t *testing.T, p api.Program, entry string, input []int, fuel int) api.Outcome {
	t.Helper()
	o, code := meaning.Run(p, entry, input, fuel)
	if code != api.OK {
		t.Fatalf("Run(%s, %d numbers, %d): %v", entry, len(input), fuel, code)
	}
	return o
}

// check: of the program of that text comes what is wanted, with its entry m.
func check(t *testing.T, text string, input []int, fuel int, want string) {
	t.Helper()
	if got := told(run(t, read(t, text), "m", input, fuel)); got != want {
		t.Errorf("%s, input %d: %s, want %s", short(text), input, short(got), short(want))
	}
}

// checkAll: the same, with enough fuel and without input, and with all that is less: the run is the same up to there (P10.3, P10.4).
func checkAll(t *testing.T, text, want string) {
	t.Helper()
	p := read(t, text)
	whole := run(t, p, "m", nil, 10000)
	if got := told(whole); got != want {
		t.Errorf("%s: %s, want %s", text, got, want)
		return
	}
	if second := told(plainRun(p, "m", nil, 10000)); second != want {
		t.Errorf("%s: the second form says %s, want %s", text, second, want)
	}
	for fuel := range whole.Steps {
		o := run(t, p, "m", nil, fuel)
		if o.Kind != api.OutOfFuel || o.Steps != fuel || !strings.HasPrefix(items(whole.Told), items(o.Told)) {
			t.Errorf("%s: with fuel %d %s, in all %s", text, fuel, told(o), told(whole))
		}
	}
	for _, fuel := range []int{whole.Steps, whole.Steps + 1, api.MaxSteps} {
		if got := told(run(t, p, "m", nil, fuel)); got != want {
			t.Errorf("%s: with fuel %d %s, want %s", text, fuel, got, want)
		}
	}
}

// checkSource: of a module Main with these declarations and its definition main comes what is wanted, whatever the steps are.
func checkSource(t *testing.T, decls string, input []int, fuel int, want string) {
	t.Helper()
	p, err := elab.Elab([]string{"module Main; " + decls})
	if err != nil {
		t.Fatalf("the test is wrong: %s: %v", decls, err)
	}
	end, items, _ := strings.Cut(told(run(t, p, "Main.main", input, fuel)), ":")
	if got := strings.Fields(end)[0] + ":" + items; got != want {
		t.Errorf("%s, input %d: %s, want %s", decls, input, short(got), short(want))
	}
}

// soon: what it does takes no longer than work of so many steps may.
func soon(t *testing.T, what string, do func()) {
	t.Helper()
	done := make(chan struct{})
	go func() {
		defer close(done)
		do()
	}()
	select {
	case <-done:
	case <-time.After(2 * time.Minute):
		t.Fatal("too long:", what)
	}
}

// numbers writes a text so many times, with the number of each in the place of # and the next one in that of $.
func numbers(n int, text string) string {
	var b strings.Builder
	for i := range n {
		b.WriteString(strings.NewReplacer("#", fmt.Sprint(i), "$", fmt.Sprint(i+1)).Replace(text))
	}
	return b.String()
}

// list writes a list of numbers as an expression.
func list(l ...int) string {
	s := `(con "Nil" Int)`
	for i := len(l) - 1; i >= 0; i-- {
		s = fmt.Sprintf(`(app (app (con "Cons" Int) %d) %s)`, l[i], s)
	}
	return s
}
