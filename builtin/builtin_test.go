package builtin_test

import (
	"fmt"
	"testing"

	"sloth/builtin"
	"sloth/types"
)

// TestDatas: DOC.md: the data types that are always there; each answer is new memory.
func TestDatas(t *testing.T) {
	const want = "Bool [] False True; Unit [] Unit; List [a] Nil Cons a (List a); Pair [a b] Pair a b; Triple [a b c] Triple a b c; "
	for range 2 {
		got := ""
		for _, d := range builtin.Datas() {
			got += fmt.Sprint(d.Name, " ", d.Params)
			for _, c := range d.Cons {
				got += " " + c.Name
				for i, f := range c.Fields {
					text, _ := types.Print(f)
					got += " " + text
					c.Fields[i].Name = "spoilt"
				}
			}
			got += "; "
			d.Name = "spoilt"
		}
		if got != want {
			t.Errorf("%s, want %s", got, want)
		}
	}
}
