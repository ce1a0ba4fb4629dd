package ring_test

import (
	"math/rand"
	"slices"
	"testing"

	"sloth/ring"
)

func TestOf(t *testing.T) {
	for _, x := range []struct{ needs, want [][]int }{
		{nil, nil},
		{[][]int{{}}, [][]int{{0}}},
		{[][]int{{0}}, [][]int{{0}}},
		{[][]int{{1}, {2}, {}}, [][]int{{0}, {1}, {2}}},
		{[][]int{{1}, {0}}, [][]int{{0, 1}}},
		{[][]int{{1, 1}, {2}, {0}, {0}}, [][]int{{0, 1, 2}, {3}}},
		{[][]int{{3}, {1}, {0}, {2, 1}, {0}}, [][]int{{0, 2, 3}, {1}, {4}}},
		{[][]int{{1}, {0, 2}, {3}, {2}}, [][]int{{0, 1}, {2, 3}}},
		{[][]int{{1}, {2}, {1, 0}, {4}, {3}}, [][]int{{0, 1, 2}, {3, 4}}},
	} {
		if got := ring.Of(x.needs); !slices.EqualFunc(got, x.want, slices.Equal) {
			t.Errorf("Of(%v): %v, want %v", x.needs, got, x.want)
		}
		checkBehind(t, x.needs, x.want)
	}
}

// TestRandom: two things are of one ring just if each leads to the other.
func TestRandom(t *testing.T) {
	r := rand.New(rand.NewSource(1))
	for range 300 {
		n := 1 + r.Intn(12)
		needs := make([][]int, n)
		leads := make([][]bool, n)
		for i := range needs {
			leads[i] = make([]bool, n)
			leads[i][i] = true
			for range r.Intn(3) {
				other := r.Intn(n)
				needs[i] = append(needs[i], other)
				leads[i][other] = true
			}
		}
		for k := range n {
			for i := range n {
				for j := range n {
					leads[i][j] = leads[i][j] || leads[i][k] && leads[k][j]
				}
			}
		}
		var want [][]int
		for i := range n {
			var members []int
			for j := range n {
				if leads[i][j] && leads[j][i] {
					members = append(members, j)
				}
			}
			if members[0] == i {
				want = append(want, members)
			}
		}
		if got := ring.Of(needs); !slices.EqualFunc(got, want, slices.Equal) {
			t.Fatalf("Of(%v): %v, want %v", needs, got, want)
		}
		checkBehind(t, needs, want)
	}
}

// checkBehind: Behind tells just these rings, each behind all that it needs.
func checkBehind(t *testing.T, needs, want [][]int) {
	t.Helper()
	got := ring.Behind(needs)
	place := make([]int, len(needs))
	for at, members := range got {
		for _, d := range members {
			place[d] = at
		}
	}
	for d, l := range needs {
		for _, n := range l {
			if place[n] > place[d] {
				t.Fatalf("Behind(%v): %v: %d stands ahead of %d", needs, got, d, n)
			}
		}
	}
	slices.SortFunc(got, func(a, b []int) int { return a[0] - b[0] })
	if !slices.EqualFunc(got, want, slices.Equal) {
		t.Fatalf("Behind(%v): %v, want those of %v", needs, got, want)
	}
}

// TestLong: a very long row, and a very long ring.
func TestLong(t *testing.T) {
	const n = 100000
	needs := make([][]int, n)
	for i := range n - 1 {
		needs[i] = []int{i + 1}
	}
	if got := ring.Of(needs); len(got) != n {
		t.Error(len(got))
	}
	if got := ring.Behind(needs); len(got) != n || got[0][0] != n-1 || got[n-1][0] != 0 {
		t.Error(len(got))
	}
	needs[n-1] = []int{0}
	if got := ring.Of(needs); len(got) != 1 || len(got[0]) != n {
		t.Error(len(got))
	}
}
