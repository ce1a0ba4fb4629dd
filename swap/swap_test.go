package swap_test

import (
	"reflect"
	"testing"

	"sloth/api"
	"sloth/swap"
	"sloth/types"
)

func typ(text string) api.Type {
	t, code := types.Read(text)
	if code != api.OK {
		panic("no type: " + text)
	}
	return t
}

func TestPlaces(t *testing.T) {
	if got, want := swap.Places([]string{"b", "a", "c"}), (map[string]int{"b": 0, "a": 1, "c": 2}); !reflect.DeepEqual(got, want) {
		t.Error(got)
	}
	if got := swap.Places(nil); len(got) != 0 {
		t.Error(got)
	}
}

// TestPut: all parameters give place at one time; what is put is not gone through.
func TestPut(t *testing.T) {
	s := swap.Swap{Places: swap.Places([]string{"a", "b"}), Types: []api.Type{typ("(List b)"), typ("(a -> Int)")}}
	for _, x := range []struct{ text, want string }{
		{"Int", "Int"}, {"a", "(List b)"}, {"b", "(a -> Int)"}, {"Bool", "Bool"},
		{"(a -> b)", "((List b) -> (a -> Int))"}, {"(Pair (List b) (Pair Int a))", "(Pair (List (a -> Int)) (Pair Int (List b)))"},
	} {
		of := typ(x.text)
		got, code := types.Print(s.Put(of))
		if code != api.OK || got != x.want {
			t.Errorf("%s: %s, want %s", x.text, got, x.want)
		}
		if again, _ := types.Print(of); again != x.text {
			t.Errorf("%s has become %s", x.text, again)
		}
		list := s.List([]api.Type{of, typ("b")})
		if first, _ := types.Print(list[0]); len(list) != 2 || first != x.want || !reflect.DeepEqual(list[1], typ("(a -> Int)")) {
			t.Error(x.text, list)
		}
	}
	if got := s.List(nil); len(got) != 0 {
		t.Error(got)
	}
}

// TestNothing: with no types all stays as it is.
func TestNothing(t *testing.T) {
	for _, text := range []string{"Int", "a", "(Pair a (b -> Int))"} {
		if got := (swap.Swap{}).Put(typ(text)); !reflect.DeepEqual(got, typ(text)) {
			t.Error(text, got)
		}
		if got := (swap.Swap{}).List([]api.Type{typ(text)}); !reflect.DeepEqual(got, []api.Type{typ(text)}) {
			t.Error(text, got)
		}
	}
}
