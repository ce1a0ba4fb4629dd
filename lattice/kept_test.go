package lattice

import (
	"slices"
	"testing"

	"sloth/api"
)

// TestKept: what was worked out is not worked out again, and stands by its number.
func TestKept(t *testing.T) {
	k := kept[string, int]{numbers: map[string]int{}}
	var worked []string
	work := func(key string) int {
		worked = append(worked, key)
		return len(key)
	}
	for i, x := range []struct {
		key  string
		want int
	}{{"one", 0}, {"three", 1}, {"one", 0}, {"", 2}, {"three", 1}, {"", 2}} {
		if n := k.number(x.key, work); n != x.want || k.values[n] != len(x.key) {
			t.Error(i, x.key, n, k.values)
		}
	}
	if !slices.Equal(worked, []string{"one", "three", ""}) {
		t.Error(worked)
	}
}

// TestOneOrder: parts of one shape have one order.
func TestOneOrder(t *testing.T) {
	number, truth := api.Type{Kind: api.TyInt}, api.Type{Kind: api.TyData, Name: "Bool"}
	arrow := func(a, b api.Type) api.Type { return api.Type{Kind: api.TyFun, Args: []api.Type{a, b}} }
	o, code := orderOf(arrow(arrow(number, truth), arrow(truth, number)))
	if code != api.OK || o.from != o.to || o.from.from != o.from.to {
		t.Error(o, code)
	}
}
