package garrison_test

import (
	"math"
	"strings"
	"testing"

	"garrison/api"
	"garrison/garrison"
)

// guest and table are a match once more, written another way, to hold a host against: a table keeps the bytes of its turns and asks Fold for all the rest.
type guest struct {
	number, taken int
	queue         []string
	quit          string // "", "asked" or "told"
}

type table struct {
	seed, players int
	guests        map[string]*guest
	paused        bool
	sealed        []string
}

// onlooker is a watcher once more.
type onlooker struct {
	table *table
	seen  int // up to which turn
}

// hall is a host once more.
type hall struct {
	rooms     int
	tables    []*table
	onlookers []*onlooker
}

func (b *table) bytes() string { return strings.Join(b.sealed, "") }

func (b *table) phase() int {
	if len(b.guests) < b.players {
		return 1
	}
	if _, _, e := garrison.Fold(b.seed, b.players, b.bytes()+"\x00"); e == api.ErrOver {
		return 3
	}
	return 2
}

func (b *table) view(t *testing.T) api.View {
	v := api.View{Phase: b.phase(), Paused: b.paused, Players: len(b.guests), Turn: len(b.sealed), Winner: -1}
	for _, g := range b.guests {
		v.Waiting += len(g.queue)
	}
	for _, u := range fold(t, b.seed, b.players, b.bytes()).units {
		if v.Phase == 3 {
			v.Winner = u.owner
		}
	}
	return v
}

func (b *table) join(name string) (int, api.Errno) {
	if len(name) == 0 || len(name) > 12 || b.guests[name] != nil {
		return 0, api.ErrName
	}
	if len(b.guests) == b.players {
		return 0, api.ErrState
	}
	taken := map[int]bool{}
	for _, g := range b.guests {
		taken[g.number] = true
	}
	n := 0
	for taken[n] {
		n++
	}
	b.guests[name] = &guest{number: n}
	return n, api.OK
}

func (b *table) leave(name string) api.Errno {
	g := b.guests[name]
	switch {
	case g == nil:
		return api.ErrName
	case b.phase() == 3 || g.quit != "":
		return api.ErrState
	case b.phase() == 1:
		delete(b.guests, name)
	default:
		g.quit = "asked"
	}
	return api.OK
}

func (b *table) pause(name string, on bool) api.Errno {
	switch {
	case b.guests[name] == nil:
		return api.ErrName
	case b.phase() != 2:
		return api.ErrState
	}
	b.paused = on
	return api.OK
}

func (b *table) submit(name string, seq int, bytes string) api.Errno {
	g := b.guests[name]
	switch {
	case g == nil:
		return api.ErrName
	case b.phase() != 2 || b.paused || g.quit != "":
		return api.ErrState
	case seq != g.taken+1:
		return api.ErrSeq
	case len(bytes) != 5 || int(bytes[0]) != g.number:
		return api.ErrBytes
	case len(g.queue) > 7:
		return api.ErrFull
	}
	g.taken++
	g.queue = append(g.queue, bytes)
	return api.OK
}

func (b *table) tick() {
	if b.phase() != 2 || b.paused {
		return
	}
	sealed, count := "", 0
	for n := range b.players {
		for _, g := range b.guests {
			if g.number != n {
				continue
			}
			if g.quit == "asked" {
				g.queue = append([]string{string([]byte{byte(n), 0, 0, 0, 0})}, g.queue...)
				g.quit = "told"
			}
			sealed += strings.Join(g.queue, "")
			count += len(g.queue)
			g.queue = nil
		}
	}
	b.sealed = append(b.sealed, string([]byte{byte(count)})+sealed)
}

func (a *hall) create(seed, players int) (int, api.Errno) {
	if seed < 0 || seed > 999 || players < 2 || players > 4 {
		return 0, api.ErrArg
	}
	if len(a.tables) == a.rooms {
		return 0, api.ErrFull
	}
	a.tables = append(a.tables, &table{seed: seed, players: players, guests: map[string]*guest{}})
	return len(a.tables) - 1, api.OK
}

func (a *hall) tick(matches []int) api.Errno {
	seen := map[int]bool{}
	for _, m := range matches {
		if m < 0 || m >= len(a.tables) || seen[m] {
			return api.ErrArg
		}
		seen[m] = true
	}
	for n, b := range a.tables {
		if len(seen) == 0 || seen[n] {
			b.tick()
		}
	}
	return api.OK
}

func (a *hall) watch(b *table) (int, api.Errno) {
	if b == nil {
		return 0, api.ErrMatch
	}
	if len(a.onlookers) == 20 {
		return 0, api.ErrFull
	}
	a.onlookers = append(a.onlookers, &onlooker{b, len(b.sealed)})
	return len(a.onlookers) - 1, api.OK
}

func (a *hall) poll(watcher, most int) (string, api.Errno) {
	if watcher < 0 || watcher >= len(a.onlookers) {
		return "", api.ErrWatch
	}
	o := a.onlookers[watcher]
	left := o.table.sealed[o.seen:]
	switch {
	case most < 0:
		return "", api.ErrArg
	case len(left) == 0 && o.table.phase() == 3:
		return "", api.ErrOver
	case most < len(left):
		left = left[:most]
	}
	o.seen += len(left)
	return strings.Join(left, ""), api.OK
}

// playWatch throws a call of those who watch.
func (a *hall) playWatch(t *testing.T, h *garrison.Host, d *dice, match int, b *table) (string, api.Errno) {
	t.Helper()
	if d.below(4) == 0 {
		want, e := a.watch(b)
		got, f := h.Watch(match)
		return same(t, "Watch", got, want, f, e)
	}
	watcher, most := d.below(len(a.onlookers)+2)-1, d.below(6)-1
	if d.below(8) == 0 {
		most = math.MaxInt
	}
	want, e := a.poll(watcher, most)
	got, f := h.Poll(watcher, most)
	return same(t, "Poll", got, want, f, e)
}

// play throws one call at both, and answers the name of the call and what it answered.
func (a *hall) play(t *testing.T, h *garrison.Host, d *dice) (string, api.Errno) {
	t.Helper()
	call, match, name := d.below(21), d.below(len(a.tables)+1), d.guest()
	if d.below(40) == 0 {
		match = -1
	}
	var b *table
	if match >= 0 && match < len(a.tables) {
		b = a.tables[match]
	}
	switch {
	case call >= 16:
		return a.playWatch(t, h, d, match, b)
	case call == 0:
		seed, players := d.below(1010)-5, 1+d.below(5)
		want, e := a.create(seed, players)
		got, f := h.Create(seed, players)
		return same(t, "Create", got, want, f, e)
	case call == 1:
		list := d.list(len(a.tables))
		return same(t, "Tick", 0, 0, h.Tick(list...), a.tick(list))
	case call <= 4:
		want, e := 0, api.ErrMatch
		if b != nil {
			want, e = b.join(name)
		}
		got, f := h.Join(match, name)
		return same(t, "Join", got, want, f, e)
	case call == 5 && d.below(3) == 0:
		e := api.ErrMatch
		if b != nil {
			e = b.leave(name)
		}
		return same(t, "Leave", 0, 0, h.Leave(match, name), e)
	case call == 6:
		on, e := d.below(4) == 0, api.ErrMatch
		if b != nil {
			e = b.pause(name, on)
		}
		return same(t, "Pause", 0, 0, h.Pause(match, name, on), e)
	}
	e, seq, bytes := api.ErrMatch, d.below(9), d.bytes(t, b, name)
	if b != nil {
		if g := b.guests[name]; g != nil && d.below(12) > 0 {
			seq = g.taken + 1
		}
		e = b.submit(name, seq, bytes)
	}
	return same(t, "Submit", 0, 0, h.Submit(match, name, seq, bytes), e)
}

func same[T comparable](t *testing.T, call string, got, want T, f, e api.Errno) (string, api.Errno) {
	t.Helper()
	if got != want || f != e {
		t.Fatalf("%s: %v, %d, want %v, %d", call, got, f, want, e)
	}
	return call, e
}

func (d *dice) guest() string {
	if d.below(30) == 0 {
		return []string{"", "a name too long", "eve"}[d.below(3)]
	}
	return names[d.below(4)]
}

func (d *dice) list(matches int) []int {
	var list []int
	for range d.below(4) {
		list = append(list, d.below(10*matches+1)/10)
	}
	return list
}

// bytes: a command that the player's units could mostly do.
func (d *dice) bytes(t *testing.T, b *table, name string) string {
	if b == nil || b.guests[name] == nil || d.below(15) == 0 {
		return strings.Repeat(string([]byte{byte(d.below(4))}), d.below(7))
	}
	g := b.guests[name]
	units := fold(t, b.seed, b.players, b.bytes()).units
	for range 8 {
		if len(units) == 0 {
			break
		}
		if u := units[d.below(len(units))]; u.owner == g.number {
			return turn(order{g.number, u.number, 1 + d.below(5), u.x + d.below(3) - 1, u.y + d.below(3) - 1})[1:]
		}
	}
	return turn(order{g.number, d.below(3), d.below(3)})[1:]
}

// check holds all that can be seen of a host against its model.
func (a *hall) check(t *testing.T, h *garrison.Host) {
	t.Helper()
	for m, b := range a.tables {
		if v, e := h.Look(m); v != b.view(t) || e != api.OK {
			t.Fatalf("P8: Look(%d): %+v, %d, want %+v", m, v, e, b.view(t))
		}
		state, hash, _ := garrison.Fold(b.seed, b.players, b.bytes())
		if s, e := h.State(m); s != state || e != api.OK {
			t.Fatalf("P7: State(%d): %d, %s, want %s", m, e, read(t, s).text(), read(t, state).text())
		}
		if x, e := h.Hash(m, len(b.sealed)); x != hash || e != api.OK {
			t.Fatalf("P8: Hash(%d, %d): %s, %d, want %s", m, len(b.sealed), x, e, hash)
		}
	}
	if _, e := h.Look(len(a.tables)); e != api.ErrMatch {
		t.Fatalf("P5: there are more than %d matches", len(a.tables))
	}
}

// TestHostAgainstModel: thrown calls are answered, and change what is seen, as the model says.
func TestHostAgainstModel(t *testing.T) {
	seen := map[string]int{}
	for n := range 60 {
		d := dice(5000 + n)
		a := &hall{rooms: 1 + n%8}
		h := newHost(t, a.rooms)
		for range 900 {
			call, e := a.play(t, h, &d)
			seen[call+" "+string(rune('0'+e))]++
			a.check(t, h)
		}
		for m, b := range a.tables {
			checkPlayed(t, "thrown calls", h, m, b.seed, b.players, b.sealed...)
			seen["over"] += b.phase() / 3
		}
		for w := range 21 {
			want, e := a.poll(w, 1000)
			got, f := h.Poll(w, 1000)
			same(t, "Poll of what is left", got, want, f, e)
		}
	}
	for _, word := range strings.Split("Create 0,Create 1,Create 7,Tick 0,Tick 1,Join 0,Join 2,Join 3,Join 4,Leave 0,Leave 2,Leave 3,Leave 4,Pause 0,Pause 2,Pause 3,Pause 4,Submit 0,Submit 2,Submit 3,Submit 4,Submit 5,Submit 6,Submit 7,Watch 0,Watch 2,Watch 7,Poll 0,Poll 1,Poll 8,Poll 9,over", ",") {
		if seen[word] < 10 {
			t.Errorf("the thrown calls show too little of %q: %v", word, seen)
		}
	}
}
