package rules

import "testing"

func TestNeighbours(t *testing.T) {
	middle, count := cell{3, 4}, 0
	for y := range 256 {
		for x := range 256 {
			if middle.neighbours(cell{x, y}) {
				count++
			}
		}
	}
	if count != 8 {
		t.Errorf("Words: a cell has %d neighbours", count)
	}
	for _, c := range []struct {
		a, b cell
		want bool
	}{
		{cell{0, 0}, cell{0, 0}, false},
		{cell{0, 0}, cell{1, 1}, true},
		{cell{1, 1}, cell{0, 0}, true},
		{cell{7, 0}, cell{6, 1}, true},
		{cell{7, 0}, cell{5, 0}, false},
		{cell{5, 0}, cell{7, 0}, false},
		{cell{7, 0}, cell{7, 2}, false},
		{cell{7, 2}, cell{7, 0}, false},
		{cell{7, 0}, cell{0, 1}, false},
	} {
		if got := c.a.neighbours(c.b); got != c.want {
			t.Errorf("Words: %v and %v are neighbours: %t", c.a, c.b, got)
		}
	}
}

func TestOnField(t *testing.T) {
	for _, c := range []struct {
		at   cell
		want bool
	}{
		{cell{0, 0}, true}, {cell{7, 7}, true}, {cell{7, 0}, true}, {cell{0, 7}, true},
		{cell{8, 0}, false}, {cell{0, 8}, false}, {cell{255, 7}, false}, {cell{7, 255}, false},
		{cell{-1, 0}, false}, {cell{0, -1}, false},
	} {
		if got := c.at.onField(); got != c.want {
			t.Errorf("Words: %v is on the field: %t", c.at, got)
		}
	}
}
