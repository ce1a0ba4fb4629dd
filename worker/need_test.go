package worker

import (
	"testing"

	"sloth/api"
	"sloth/core"
)

// TestWaitsByWords: an expression that waits, by the chapter's words, wherever it may stand: the functions among them are asked for nowhere else, since no argument that is a function is needed.
func TestWaitsByWords(t *testing.T) {
	w := world{"none": nil, "one": make([]param, 1), "two": make([]param, 2)}
	for text, want := range map[string]bool{
		`"x"`: false, `1`: false, `(con "Cons" Int)`: false, `(con "Nil" Int)`: false, `(global "none")`: false, `(global "one")`: false,
		`(op + 1 2)`: true, `(seq 1 2)`: true, `(case 1 (else 2))`: true, `(let (("x" Int 1)) 2)`: true, `(hard "x" Int 1 2)`: true, `(fail 1 Int)`: true,
		`(app "x" 1)`: true, `(app (app "x" 1) 2)`: true,
		`(app (con "Cons" Int) 1)`: false, `(app (app (con "Cons" Int) 1) "l")`: false,
		`(app (global "none") 1)`: true, `(app (app (global "none") 1) 2)`: true,
		`(app (global "one") 1)`: true, `(app (app (global "one") 1) 2)`: true,
		`(app (global "two") 1)`: false, `(app (app (global "two") 1) 2)`: true, `(app (app (app (global "two") 1) 2) 3)`: true,
		`(app (case 1 (else "x")) 1)`: true, `(app (let (("x" Int 1)) "y") 1)`: true, `(app (seq 1 (con "Cons" Int)) 1)`: true, `(app (hard "x" Int 1 (global "two")) 1)`: true, `(app (fail 1 Int) 1)`: true,
	} {
		p, code := core.Read(`(def "m" () Int ` + text + `)`)
		if code != api.OK {
			t.Fatal("the test is wrong:", text)
		}
		if got := w.waits(&p.Defs[0].Body); got != want {
			t.Errorf("%s: %v", text, got)
		}
	}
}
