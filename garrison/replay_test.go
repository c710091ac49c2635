package garrison_test

import (
	"cmp"
	"fmt"
	"slices"
	"strings"
	"testing"

	"garrison/api"
	"garrison/garrison"
)

// record: a match from Create to its end, and what was seen of it on the way.
type record struct {
	seed, players  int
	states, hashes []string   // by the match, behind each turn
	told           []string   // each turn, as a watcher from the start was told it
	taken          [][]string // by player: the commands that were taken
	left           []int      // by player: ahead of which turn it left, or -1
}

func newRecord(seed, players int) *record {
	return &record{seed: seed, players: players, taken: make([][]string, players), left: slices.Repeat([]int{-1}, players)}
}

// commandsIn: the commands of one turn.
func commandsIn(turn string) []string {
	var list []string
	for part := range slices.Chunk([]byte(turn[1:]), 5) {
		list = append(list, string(part))
	}
	return list
}

func ordersIn(turn string) []order {
	var list []order
	for _, c := range commandsIn(turn) {
		list = append(list, order{int(c[0]), int(c[1]), int(c[2]), int(c[3]), int(c[4])})
	}
	return list
}

// see keeps how the match is now.
func (r *record) see(t *testing.T, h *garrison.Host, match int) {
	t.Helper()
	state, e := h.State(match)
	must(t, "P8: State", e)
	hash, e := h.Hash(match, len(r.states))
	must(t, "P8: Hash", e)
	r.states, r.hashes = append(r.states, state), append(r.hashes, hash)
}

// ask lets a player submit some commands; those that are taken are kept.
func (r *record) ask(t *testing.T, h *garrison.Host, match, player int, d *dice) {
	t.Helper()
	p := read(t, r.states[len(r.states)-1])
	for range d.below(10) {
		c := turn(p.throw(d, player))[1:]
		if h.Submit(match, names[player], len(r.taken[player])+1, c) == api.OK {
			r.taken[player] = append(r.taken[player], c)
		}
	}
}

// throw makes a command of the player's, mostly one that could be done: a unit strikes, if it can, and a Soldier marches.
func (p picture) throw(d *dice, player int) order {
	own := slices.DeleteFunc(slices.Clone(p.units), func(u piece) bool { return u.owner != player })
	if len(own) == 0 || d.below(12) == 0 {
		own = p.units
	}
	u := own[d.below(len(own))]
	for _, v := range p.units {
		dx, dy := v.x-u.x, v.y-u.y
		if v.owner == u.owner || d.below(4) == 0 {
			continue
		}
		if dx*dx <= 1 && dy*dy <= 1 {
			return order{player, u.number, 2, v.x, v.y}
		}
		if u.kind == 3 && v.kind == 1 {
			return order{player, u.number, 1, u.x + cmp.Compare(dx, 0), u.y + cmp.Compare(dy, 0)}
		}
	}
	return order{player, u.number, 1 + d.below(5), (u.x + d.below(3) + 255) % 256, (u.y + d.below(3) + 255) % 256}
}

// leave lets a player leave, if it may.
func (r *record) leave(h *garrison.Host, match, player int) {
	if h.Leave(match, names[player]) == api.OK {
		r.left[player] = len(r.told)
	}
}

// playOut plays a match of thrown commands, of the last so many of its players, to its end; from the turn 150 on players leave.
func playOut(t *testing.T, seed, players, awake int, d *dice) (*garrison.Host, *record) {
	t.Helper()
	h := newHost(t, 1)
	open(t, h, seed, players)
	watch(t, h, 0, 0)
	watch(t, h, 0, 1)
	for want, name := range names[:players] {
		join(t, h, 0, name, want)
	}
	r := newRecord(seed, players)
	r.see(t, h, 0)
	for look(t, h, 0).Phase == api.Goes {
		for range players {
			r.ask(t, h, 0, players-1-d.below(awake), d)
		}
		if d.below(200) == 0 || len(r.told) >= 150 {
			r.leave(h, 0, d.below(players))
		}
		must(t, "P7: Tick", h.Tick())
		r.see(t, h, 0)
		told, e := h.Poll(0, 1)
		must(t, "P9: Poll", e)
		r.told = append(r.told, told)
	}
	if told, e := h.Poll(1, len(r.told)); told != strings.Join(r.told, "") || e != api.OK {
		t.Fatalf("P10: the turns are told otherwise at the end: %d", e)
	}
	refuses(t, "P9: over", h, api.ErrOver, polls(h, 0, 1), polls(h, 1, 1))
	return h, r
}

// checkReplay: the turns that were told, folded, are the match, behind every turn.
func (r *record) checkReplay(t *testing.T, h *garrison.Host, match int) {
	t.Helper()
	for n := range r.states {
		state, hash, e := garrison.Fold(r.seed, r.players, strings.Join(r.told[:n], ""))
		if state != r.states[n] || hash != r.hashes[n] || e != api.OK {
			t.Fatalf("P10: folded behind turn %d: %d, %s, want %s", n, e, read(t, state).text(), read(t, r.states[n]).text())
		}
		if again, e := h.Hash(match, n); again != hash || e != api.OK {
			t.Fatalf("P10: the hash behind turn %d is %s, %d at the end, and was %s", n, again, e, hash)
		}
	}
}

// checkTaken: what was taken stands in the turns, each player's in its order, or waits, and nothing else stands there but that a player left.
func (r *record) checkTaken(t *testing.T, waiting int) {
	t.Helper()
	stands := make([][]string, r.players)
	for n, turn := range r.told {
		list := commandsIn(turn)
		if int(turn[0]) != len(list) || !slices.IsSortedFunc(list, func(a, b string) int { return int(a[0]) - int(b[0]) }) {
			t.Fatalf("P7: turn %d is not player by player: %x", n, turn)
		}
		for player, at := range r.left {
			if at == n {
				first := slices.IndexFunc(list, func(c string) bool { return int(c[0]) == player })
				if first < 0 || list[first] != string([]byte{byte(player), 0, 0, 0, 0}) {
					t.Fatalf("P5: turn %d does not begin with the giving up of %d: %x", n, player, turn)
				}
				list = slices.Delete(list, first, first+1)
			}
		}
		for _, c := range list {
			stands[c[0]] = append(stands[c[0]], c)
		}
	}
	for player, taken := range r.taken {
		most := min(len(stands[player]), len(taken))
		if !slices.Equal(stands[player], taken[:most]) {
			t.Fatalf("P10: of player %d stands %x, and taken was %x", player, stands[player], taken)
		}
		waiting -= len(taken) - most
	}
	if waiting != 0 {
		t.Errorf("P10: %d commands more wait than were taken and stand in no turn", waiting)
	}
}

// checkWorth: gold and ore are spent on units, and on nothing else; it answers how often what was done.
func checkWorth(t *testing.T, what string, seed, players int, told, states []string) map[string]int {
	t.Helper()
	m := newModel(seed, players)
	for n, turn := range told {
		hired, trained := m.did["hire"], m.did["train"]
		m.do(ordersIn(turn))
		ahead, behind := read(t, states[n]).worth(), read(t, states[n+1]).worth()
		if spent := 2*(m.did["hire"]-hired) + 3*(m.did["train"]-trained); ahead-behind != spent {
			t.Fatalf("P11: %s, turn %d: %d, then %d, but %d was spent", what, n+1, ahead, behind, spent)
		}
	}
	return m.did
}

// TestReplay: matches of 2, 3 and 4 players, from Create to the end.
func TestReplay(t *testing.T) {
	did := map[string]int{}
	for n := range 45 {
		d := dice(8000 + n)
		seed, players := d.below(1000), 2+n%3
		h, r := playOut(t, seed, players, 1+d.below(players), &d)
		r.checkReplay(t, h, 0)
		r.checkTaken(t, look(t, h, 0).Waiting)
		for word, times := range checkWorth(t, fmt.Sprint("match ", n), seed, players, r.told, r.states) {
			did[word] += times
		}
		if !slices.ContainsFunc(r.left, func(at int) bool { return at >= 0 }) {
			did["stormed"]++
		}
	}
	for _, word := range strings.Fields("move hit kill dig hire train out stormed") {
		if did[word] < 5 {
			t.Errorf("the matches show too little of %q: %v", word, did)
		}
	}
}

// TestWaitsOrStands: at any time a command that was taken stands in one turn, or waits.
func TestWaitsOrStands(t *testing.T) {
	for n := range 20 {
		d, players := dice(9000+n), 2+n%3
		h, r := newHost(t, 1), newRecord(n, players)
		going(t, h, n, players)
		watch(t, h, 0, 0)
		r.see(t, h, 0)
		for range 200 {
			if d.below(3) > 0 {
				r.ask(t, h, 0, d.below(players), &d)
			} else {
				must(t, "P6: Pause", h.Pause(0, "ann", d.below(3) == 0))
				must(t, "P7: Tick", h.Tick())
			}
			if view := look(t, h, 0); view.Turn == len(r.states) {
				r.see(t, h, 0)
				told, e := h.Poll(0, 2)
				must(t, "P9: Poll", e)
				r.told = append(r.told, told)
			}
			view := look(t, h, 0)
			r.checkTaken(t, view.Waiting)
			if view.Phase == api.Over {
				break
			}
		}
		r.checkReplay(t, h, 0)
	}
}

// TestStormedTold: a Base that is hit until it is gone; who watched has the whole match.
func TestStormedTold(t *testing.T) {
	h := duel(t)
	watch(t, h, 0, 0)
	way := raid + strings.Repeat("0 5 2 6 6|", 2) + "0 5 1 6 6|" + strings.Repeat("0 5 2 7 7|", 7)
	sealed := walk(t, h, 0, map[string]int{}, strings.Split(strings.TrimSuffix(way, "|"), "|")...)
	told, e := h.Poll(0, 1000)
	must(t, "P9: Poll", e)
	if want := strings.Join(sealed, ""); told != want {
		t.Errorf("P9: told: %x, want %x", told, want)
	}
	state, hash, e := garrison.Fold(0, 2, told)
	must(t, "P3: Fold", e)
	if s, _ := h.State(0); s != state {
		t.Errorf("P10: folded: %s, want %s", read(t, state).text(), read(t, s).text())
	}
	if x, _ := h.Hash(0, len(sealed)); x != hash {
		t.Errorf("P10: the hash folded: %s, want %s", hash, x)
	}
	if _, _, e := garrison.Fold(0, 2, told+"\x00"); e != api.ErrOver {
		t.Errorf("P10: a turn more: %d", e)
	}
	refuses(t, "P9: over", h, api.ErrOver, polls(h, 0, 1))
}
