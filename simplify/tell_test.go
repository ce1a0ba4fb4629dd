package simplify_test

import (
	"fmt"
	"strings"
	"testing"
	"time"

	"sloth/api"
	"sloth/core"
	"sloth/meaning"
	"sloth/simplify"
)

func short(s string) string {
	if len(s) > 3000 {
		s = s[:1500] + " .. " + s[len(s)-1500:]
	}
	return s
}

// printed writes a right program.
func printed(p api.Program) string {
	s, code := core.Print(p)
	if code != api.OK {
		return fmt.Sprintf("%v of %d definitions", code, len(p.Defs))
	}
	return short(s)
}

// read reads a right program.
func read(t *testing.T, text string) api.Program {
	t.Helper()
	p, code := core.Read(text)
	if code == api.OK {
		code = core.Check(p)
	}
	if code != api.OK {
		t.Fatalf("the test is wrong: %s: %v", short(text), code)
	}
	return p
}

// simple simplifies what must not be refused; the answer is right (P11.2).
func simple(t *testing.T, p api.Program, rounds int) api.Program {
	t.Helper()
	q, code := simplify.Simplify(p, rounds)
	if code != api.OK {
		t.Fatalf("%d rounds of %s: %v", rounds, printed(p), code)
	}
	if code := core.Check(q); code != api.OK {
		t.Fatalf("%d rounds of %s: Check says %v", rounds, printed(p), code)
	}
	return q
}

func same(p, q api.Program) bool {
	same, code := core.Same(p, q)
	return same && code == api.OK
}

// checkSame: so many rounds of p come to what is wanted.
func checkSame(t *testing.T, p api.Program, rounds int, want api.Program) {
	t.Helper()
	if q := simple(t, p, rounds); !same(q, want) {
		t.Errorf("%d rounds of\n%s\ncome to\n%s\nwant\n%s", rounds, printed(p), printed(q), printed(want))
	}
}

// checkCode: Simplify answers that error, and an empty program beside every one.
func checkCode(t *testing.T, what string, p api.Program, rounds int, want api.Errno) {
	t.Helper()
	q, code := simplify.Simplify(p, rounds)
	if code != want {
		t.Errorf("%s, %d rounds: %v, want %v", what, rounds, code, want)
	}
	if code != api.OK && (q.Datas != nil || q.Defs != nil) {
		t.Errorf("%s, %d rounds: a program beside %v", what, rounds, code)
	}
}

// run runs what must not be refused.
func run(t *testing.T, p api.Program, entry string, input []int, fuel int) api.Outcome {
	t.Helper()
	o, code := meaning.Run(p, entry, input, fuel)
	if code != api.OK {
		t.Fatalf("Run(%s, %d numbers, %d): %v\n%s", entry, len(input), fuel, code, printed(p))
	}
	return o
}

// told writes an outcome: how it ended, its steps, a colon, what was told.
func told(o api.Outcome) string {
	end := map[int]string{api.Done: "done", api.OutOfFuel: "fuel"}[o.Kind]
	if o.Kind == api.Stuck {
		end = map[int]string{api.StuckStop: "stop", api.StuckMatch: "match", api.StuckZero: "zero", api.StuckLoop: "loop"}[o.Stuck]
	}
	s := fmt.Sprint(end, " ", o.Steps, ":")
	for _, x := range o.Told {
		if x.Con == "" {
			s += fmt.Sprint(" ", x.Num)
		} else {
			s += " " + x.Con
		}
	}
	return s
}

// soon: what it does takes no longer than work of such a size may.
func soon(t *testing.T, what string, do func()) {
	t.Helper()
	done := make(chan struct{})
	go func() {
		defer close(done)
		do()
	}()
	select {
	case <-done:
	case <-time.After(2 * time.Minute):
		t.Fatal("too long:", what)
	}
}

// numbers writes a text so many times, with the number of each in the place of # and the next one in that of $.
func numbers(n int, text string) string {
	var b strings.Builder
	for i := range n {
		b.WriteString(strings.NewReplacer("#", fmt.Sprint(i), "$", fmt.Sprint(i+1)).Replace(text))
	}
	return b.String()
}

// nested writes texts within one another, so many times: what stands ahead (numbered as above), what is innermost, what stands behind.
func nested(n int, ahead, inner, behind string) string {
	return numbers(n, ahead) + inner + strings.Repeat(behind, n)
}
