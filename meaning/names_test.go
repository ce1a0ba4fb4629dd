package meaning

import (
	"math/bits"
	"testing"
)

// TestNames: each part of many is found, by few ways.
func TestNames(t *testing.T) {
	n := noNames()
	parts := []*names{n}
	for level := 1; level <= 4000; level++ {
		n = n.with(&cell{number(level)})
		parts = append(parts, n)
	}
	for _, n := range parts {
		for level := 1; level <= n.level; level += 1 + n.level/50 {
			if c := n.cell(place{level, 0}); c != parts[level].cells[0] {
				t.Fatalf("part %d of %d: %v", level, n.level, c.holds)
			}
			ways := 0
			for m := n; m.level > level; m = m.towards(level) {
				ways++
			}
			if most := 3 * bits.Len(uint(n.level)); ways > most {
				t.Fatalf("part %d of %d: %d ways, at most %d would do", level, n.level, ways, most)
			}
		}
	}
}

// TestLetCells: a let makes the cells of the names that are asked for, each once, with all its names in sight.
func TestLetCells(t *testing.T) {
	values := make([]expr, 30000)
	n := noNames().with(&cell{}).withLet(values)
	inner := n.with(&cell{}).with(&cell{})
	for _, at := range []int{7, 29999, 0, 7} {
		c := inner.cell(place{2, at})
		if c.holds != (late{&values[at], n}) || c != n.cell(place{2, at}) {
			t.Fatal(at, c.holds)
		}
	}
	if len(n.let.made) != 3 {
		t.Error(len(n.let.made))
	}
}
