package garrison_test

import (
	"fmt"
	"strings"
	"testing"

	"garrison/api"
	"garrison/garrison"
)

type piece struct {
	number, owner, kind, x, y, health int
}

// picture: what the bytes of a state tell.
type picture struct {
	turn, last int
	gold       []int
	ore        [8][8]int // by y, then x
	units      []piece
}

// read takes the bytes of a state apart, and fails where they are too few or too many.
func read(t *testing.T, bytes string) picture {
	t.Helper()
	rest := bytes
	one := func() int {
		if rest == "" {
			t.Fatalf("Words: the bytes of a state end too early: %x", bytes)
		}
		v := int(rest[0])
		rest = rest[1:]
		return v
	}
	two := func() int {
		high := one()
		return 256*high + one()
	}
	var p picture
	p.turn, p.last = two(), two()
	for range one() {
		p.gold = append(p.gold, two())
	}
	for y := range 8 {
		for x := range 8 {
			p.ore[y][x] = one()
		}
	}
	for range one() {
		p.units = append(p.units, piece{two(), one(), one(), one(), one(), one()})
	}
	if rest != "" {
		t.Fatalf("Words: the bytes of a state go on: %x", rest)
	}
	return p
}

// text tells a picture without the ore: turn and last unit; the gold; the units.
func (p picture) text() string {
	s := fmt.Sprint(p.turn, " ", p.last, ";")
	for _, g := range p.gold {
		s += fmt.Sprint(" ", g)
	}
	for _, u := range p.units {
		s += fmt.Sprintf("; %d:%d%c%d%d,%d", u.number, u.owner, " BWS"[u.kind], u.x, u.y, u.health)
	}
	return s
}

// worth: all gold and all ore.
func (p picture) worth() int {
	sum := 0
	for _, g := range p.gold {
		sum += g
	}
	for _, row := range p.ore {
		for _, o := range row {
			sum += o
		}
	}
	return sum
}

func (p picture) find(number int) (piece, bool) {
	for _, u := range p.units {
		if u.number == number {
			return u, true
		}
	}
	return piece{}, false
}

func (p picture) free(x, y int) bool {
	for _, u := range p.units {
		if u.x == x && u.y == y {
			return false
		}
	}
	return x >= 0 && x < 8 && y >= 0 && y < 8
}

type order [5]int

// turn makes the bytes of one turn.
func turn(orders ...order) string {
	b := []byte{byte(len(orders))}
	for _, o := range orders {
		for _, v := range o {
			b = append(b, byte(v))
		}
	}
	return string(b)
}

// turns makes bytes of a text: "player unit what x y", a comma between two commands, a | between turns.
func turns(s string) string {
	out := ""
	for _, part := range strings.Split(s, "|") {
		var orders []order
		for _, c := range strings.Split(part, ",") {
			var o order
			if n, _ := fmt.Sscan(c, &o[0], &o[1], &o[2], &o[3], &o[4]); n == 5 {
				orders = append(orders, o)
			} else if strings.TrimSpace(c) != "" {
				panic("no command: " + c)
			}
		}
		out += turn(orders...)
	}
	return out
}

// fold is Fold where it must be OK.
func fold(t *testing.T, seed, players int, bytes string) picture {
	t.Helper()
	state, _, e := garrison.Fold(seed, players, bytes)
	if e != api.OK {
		t.Fatalf("P3: Fold(%d, %d, %x): %d", seed, players, bytes, e)
	}
	return read(t, state)
}

// row: a match's turns, and the picture behind them.
type row struct {
	name        string
	turns, want string
}

func checkRows(t *testing.T, seed, players int, rows []row) {
	t.Helper()
	for _, r := range rows {
		if got := fold(t, seed, players, turns(r.turns)).text(); got != r.want {
			t.Errorf("P3: %s: %s, want %s", r.name, got, r.want)
		}
	}
}
