package garrison_test

import (
	"fmt"
	"strings"
	"testing"

	"garrison/api"
	"garrison/garrison"
)

type spot [2]int

// model is the rules once more, written another way (a map from cells to units), to hold Fold against.
type model struct {
	turn, last, players int
	gold                map[int]int
	ore                 map[spot]int
	on                  map[spot]*piece
	done                map[int]bool
	did                 map[string]int
}

func newModel(seed, players int) *model {
	m := &model{players: players, gold: map[int]int{}, ore: map[spot]int{}, on: map[spot]*piece{}, did: map[string]int{}}
	for i := range 64 {
		x, y := i%8, i/8
		m.ore[spot{x, y}] = []int{0, 0, 0, 0, 1, 2, 3}[(seed+3*x+5*y+x*y)%7]
	}
	for p := range players {
		m.gold[p] = 2
		// players 1 and 2 begin at the right, players 1 and 3 below
		at, beside := spot{0, 0}, spot{1, 1}
		if p == 1 || p == 2 {
			at[0], beside[0] = 7, 6
		}
		if p == 1 || p == 3 {
			at[1], beside[1] = 7, 6
		}
		m.come(p, 1, at)
		m.come(p, 2, beside)
	}
	return m
}

func (m *model) come(owner, kind int, at spot) int {
	m.last++
	m.on[at] = &piece{m.last, owner, kind, at[0], at[1], []int{0, 20, 5, 8}[kind]}
	return m.last
}

func (m *model) numbered(n int) *piece {
	for _, u := range m.on {
		if u.number == n {
			return u
		}
	}
	return nil
}

func (m *model) bases() map[int]bool {
	in := map[int]bool{}
	for _, u := range m.on {
		if u.kind == 1 {
			in[u.owner] = true
		}
	}
	return in
}

func (m *model) do(orders []order) {
	m.done = map[int]bool{}
	for _, o := range orders {
		if [4]int(o[1:]) == [4]int{} {
			for at, u := range m.on {
				if u.kind == 1 && u.owner == o[0] {
					delete(m.on, at)
					m.did["give up"]++
				}
			}
			continue
		}
		u := m.numbered(o[1])
		if u == nil || u.owner != o[0] || m.done[u.number] || o[3] > 7 || o[4] > 7 {
			continue
		}
		if dx, dy := o[3]-u.x, o[4]-u.y; dx*dx <= 1 && dy*dy <= 1 && dx*dx+dy*dy > 0 {
			if word := m.one(u, o[2], spot{o[3], o[4]}); word != "" {
				m.done[u.number] = true
				m.did[word]++
			}
		}
	}
	m.turn++
	in := m.bases()
	for at, u := range m.on {
		if !in[u.owner] {
			delete(m.on, at)
			m.did["out"]++
		}
	}
}

// one does a command that is allowed, and names it; or answers nothing.
func (m *model) one(u *piece, what int, to spot) string {
	other := m.on[to]
	switch {
	case what == 1 && u.kind != 1 && other == nil:
		delete(m.on, spot{u.x, u.y})
		u.x, u.y = to[0], to[1]
		m.on[to] = u
		return "move"
	case what == 2 && other != nil && other.owner != u.owner:
		other.health -= []int{0, 2, 1, 3}[u.kind]
		if other.health <= 0 {
			delete(m.on, to)
			return "kill"
		}
		return "hit"
	case what == 3 && u.kind == 2 && m.ore[to] > 0:
		m.ore[to]--
		m.gold[u.owner]++
		return "dig"
	case (what == 4 || what == 5) && u.kind == 1 && other == nil && m.gold[u.owner] >= what-2 && len(m.on) < 40:
		m.gold[u.owner] -= what - 2
		m.done[m.come(u.owner, what-2, to)] = true
		return []string{"hire", "train"}[what-4]
	}
	return ""
}

func (m *model) bytes() string {
	out := []byte{byte(m.turn / 256), byte(m.turn % 256), byte(m.last / 256), byte(m.last % 256), byte(m.players)}
	for p := range m.players {
		out = append(out, byte(m.gold[p]/256), byte(m.gold[p]%256))
	}
	for i := range 64 {
		out = append(out, byte(m.ore[spot{i % 8, i / 8}]))
	}
	out = append(out, byte(len(m.on)))
	for n := 1; n <= m.last; n++ {
		if u := m.numbered(n); u != nil {
			out = append(out, byte(n/256), byte(n%256), byte(u.owner), byte(u.kind), byte(u.x), byte(u.y), byte(u.health))
		}
	}
	return string(out)
}

// dice: numbers that look thrown, and are the same in each run.
type dice uint64

func (d *dice) below(n int) int {
	*d = *d*6364136223846793005 + 1442695040888963407
	return int(uint64(*d) >> 33 % uint64(n))
}

// throw makes a command: mostly one that could be done.
func (m *model) throw(d *dice) order {
	if d.below(400) == 0 {
		return order{d.below(m.players + 1)}
	}
	if d.below(20) == 0 {
		return order{d.below(6), d.below(m.last + 2), d.below(8), d.below(256), d.below(256)}
	}
	u := m.numbered(1 + d.below(m.last))
	if u == nil {
		return order{d.below(m.players), d.below(m.last + 1), 1 + d.below(5), d.below(9), d.below(9)}
	}
	o := order{u.owner, u.number, 1 + d.below(5), (u.x + d.below(3) + 255) % 256, (u.y + d.below(3) + 255) % 256}
	if d.below(12) == 0 {
		o[0] = d.below(4)
	}
	return o
}

func TestFoldAgainstModel(t *testing.T) {
	did := map[string]int{}
	for n := range 120 {
		d := dice(n)
		seed, players := d.below(1000), 2+n%3
		m, bytes := newModel(seed, players), ""
		for range 150 {
			before := m.last
			var orders []order
			for range d.below(37) {
				orders = append(orders, m.throw(&d))
			}
			m.do(orders)
			bytes += turn(orders...)
			state, _, e := garrison.Fold(seed, players, bytes)
			if e != api.OK || state != m.bytes() {
				t.Fatalf("P3: match %d, turn %d: %d, %s, want %s (%d units ahead)", n, m.turn, e, read(t, state).text(), read(t, m.bytes()).text(), before)
			}
			if len(m.bases()) <= 1 {
				m.did["over"]++
				break
			}
		}
		if _, _, e := garrison.Fold(seed, players, bytes+"\x00"); (e == api.ErrOver) != (len(m.bases()) <= 1) {
			t.Errorf("P3: match %d: a turn more: %d", n, e)
		}
		for word, times := range m.did {
			did[word] += times
		}
	}
	for _, word := range strings.Fields("move hit kill dig hire train out over") {
		if did[word] < 20 {
			t.Errorf("the thrown matches show too little of %q: %v", word, did)
		}
	}
}

// TestWorth: gold and ore behind every turn of thrown matches.
func TestWorth(t *testing.T) {
	for n := range 30 {
		d := dice(1000 + n)
		seed, players := d.below(1000), 2+n%3
		m := newModel(seed, players)
		list, states := []string{}, []string{m.bytes()}
		for len(m.bases()) > 1 && m.turn < 60 {
			var orders []order
			for range 20 {
				orders = append(orders, m.throw(&d))
			}
			m.do(orders)
			list = append(list, turn(orders...))
			state, _, e := garrison.Fold(seed, players, strings.Join(list, ""))
			must(t, "P3: Fold", e)
			states = append(states, state)
		}
		checkWorth(t, fmt.Sprint("match ", n), seed, players, list, states)
	}
}
