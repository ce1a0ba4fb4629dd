package meaning_test

import (
	"fmt"
	"math/rand"
	"strings"
	"testing"

	"sloth/api"
)

// TestOperators: DOC.md: by hand, what each of the eleven operators makes of numbers at both ends of the range and around 0.
func TestOperators(t *testing.T) {
	const least, most = "-4611686018427387904", "4611686018427387903"
	for _, x := range [][3]string{
		{"+", "2 3", "5"}, {"+", most + " 1", least}, {"+", least + " -1", most}, {"+", least + " " + least, "0"}, {"+", most + " " + most, "-2"}, {"+", least + " " + most, "-1"}, {"+", "-1 1", "0"},
		{"-", "2 3", "-1"}, {"-", least + " 1", most}, {"-", most + " -1", least}, {"-", "0 " + least, least}, {"-", "-1 " + most, least}, {"-", "-2 " + most, most}, {"-", least + " " + least, "0"},
		{"*", "-2 3", "-6"}, {"*", least + " -1", least}, {"*", most + " " + most, "1"}, {"*", most + " 2", "-2"}, {"*", least + " 2", "0"}, {"*", least + " " + most, least}, {"*", "2147483648 2147483648", least},
		{"*", "2147483648 2147483647", "4611686016279904256"}, {"*", "3037000500 3037000500", "145474192"}, {"*", least + " " + least, "0"},
		{"/", "7 2", "3"}, {"/", "-7 2", "-3"}, {"/", "7 -2", "-3"}, {"/", "-7 -2", "3"}, {"/", "1 2", "0"}, {"/", "-1 2", "0"}, {"/", least + " -1", least}, {"/", least + " 1", least}, {"/", most + " -1", "-4611686018427387903"},
		{"/", "0 " + least, "0"}, {"/", least + " " + most, "-1"}, {"/", most + " " + least, "0"}, {"/", least + " 2", "-2305843009213693952"}, {"/", "0 5", "0"},
		{"%", "7 2", "1"}, {"%", "-7 2", "-1"}, {"%", "7 -2", "1"}, {"%", "-7 -2", "-1"}, {"%", least + " -1", "0"}, {"%", least + " 10", "-4"}, {"%", most + " 10", "3"}, {"%", most + " " + least, most}, {"%", least + " " + most, "-1"}, {"%", "0 -3", "0"},
		{"==", "3 3", "True"}, {"==", "3 4", "False"}, {"==", least + " " + most, "False"}, {"==", least + " " + least, "True"},
		{"/=", "3 3", "False"}, {"/=", "3 4", "True"}, {"/=", most + " -1", "True"}, {"/=", most + " " + most, "False"},
		{"<", "3 3", "False"}, {"<", "3 4", "True"}, {"<", "4 3", "False"}, {"<", least + " " + most, "True"}, {"<", most + " " + least, "False"}, {"<", "-1 0", "True"},
		{"<=", "3 3", "True"}, {"<=", "3 4", "True"}, {"<=", "4 3", "False"}, {"<=", least + " " + most, "True"}, {"<=", most + " " + least, "False"},
		{">", "3 3", "False"}, {">", "3 4", "False"}, {">", "4 3", "True"}, {">", least + " " + most, "False"}, {">", most + " " + least, "True"}, {">", "0 -1", "True"},
		{">=", "3 3", "True"}, {">=", "3 4", "False"}, {">=", "4 3", "True"}, {">=", least + " " + most, "False"}, {">=", most + " " + least, "True"},
	} {
		is := "Int"
		if x[2] == "True" || x[2] == "False" {
			is = "Bool"
		}
		checkAll(t, `(def "m" () `+is+` (op `+x[0]+` `+x[1]+`))`, "done 5: "+x[2])
	}
	for _, op := range []string{"/", "%"} {
		for _, n := range []string{"0", "1", "-1", least, most} {
			checkAll(t, `(def "m" () Int (op `+op+` `+n+` 0))`, "zero 4:")
		}
	}
}

// TestPlainOperators: DOC.md: the operators against numbers without end, at many pairs.
func TestPlainOperators(t *testing.T) {
	r := rand.New(rand.NewSource(1))
	var l []int
	for _, n := range []int{0, 1, 2, 3, 7, 10, 1 << 31, 3037000499, 3037000500, 1 << 32, 1 << 61, api.MaxInt - 1, api.MaxInt} {
		l = append(l, n, -n, -n-1)
	}
	for range 40 {
		n := r.Int() >> 1 >> r.Intn(62)
		l = append(l, n, -n)
	}
	for _, op := range []string{"+", "-", "*", "/", "%", "==", "/=", "<", "<=", ">", ">="} {
		is := map[bool]string{true: "Bool", false: "Int"}[strings.ContainsAny(op, "=<>")]
		for _, a := range l {
			text, want := `(con "Nil" `+is+`)`, []string{"Nil"}
			for _, b := range l {
				v, ok := plainOp(op, a, b)
				if !ok {
					continue
				}
				if m, ok := v.(made); ok {
					v = m.name
				}
				text = fmt.Sprintf(`(app (app (con "Cons" %s) (op %s %d %d)) %s)`, is, op, a, b, text)
				want = append(want, fmt.Sprint(v), "Cons")
			}
			var back strings.Builder
			for i := len(want) - 1; i >= 0; i-- {
				back.WriteString(" " + want[i])
			}
			o := run(t, read(t, `(def "m" () (List `+is+`) `+text+`)`), "m", nil, 100000)
			if o.Kind != api.Done || items(o.Told) != back.String() {
				t.Errorf("%s with %d first: %s, want %s", op, a, items(o.Told), back.String())
			}
		}
	}
}
