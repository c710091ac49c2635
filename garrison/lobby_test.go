package garrison_test

import (
	"fmt"
	"math"
	"strings"
	"testing"

	"garrison/api"
	"garrison/garrison"
)

func TestNew(t *testing.T) {
	for rooms := -3; rooms <= 12; rooms++ {
		h, e := garrison.New(rooms)
		if may := rooms >= 1 && rooms <= 8; may != (e == api.OK) || may != (h != nil) || !may && e != api.ErrArg {
			t.Errorf("P4: New(%d): %v, %d", rooms, h, e)
		}
	}
	for _, rooms := range []int{math.MinInt, math.MaxInt, 1 << 32, 1<<32 + 1, 257} {
		if h, e := garrison.New(rooms); h != nil || e != api.ErrArg {
			t.Errorf("P4: New(%d): %v, %d", rooms, h, e)
		}
	}
	h := newHost(t, 8)
	if snapshot(h) != "" || h.Tick() != api.OK {
		t.Error("P4: a new host is not without matches")
	}
}

func TestCreate(t *testing.T) {
	for rooms := 1; rooms <= 8; rooms++ {
		h := newHost(t, rooms)
		for want := range rooms {
			refuses(t, "P4: what may not be", h, api.ErrArg, create(h, -1, 2), create(h, 1000, 2), create(h, 0, 1), create(h, 0, 5))
			if n, e := h.Create(want, 2+want%3); n != want || e != api.OK {
				t.Errorf("P4: match %d of %d: %d, %d", want, rooms, n, e)
			}
			checkLook(t, "a new match", h, want, api.View{Phase: api.Open, Winner: -1})
			checkPlayed(t, "a new match", h, want, want, 2+want%3)
		}
		refuses(t, "P4: a match too many", h, api.ErrFull, create(h, 0, 2), create(h, 999, 4))
		refuses(t, "P4: which error is first", h, api.ErrArg, create(h, -1, 2), create(h, 0, 5))
	}
}

func TestCreateBounds(t *testing.T) {
	for _, c := range []struct {
		seed, players int
		e             api.Errno
	}{
		{0, 2, api.OK}, {999, 2, api.OK}, {0, 3, api.OK}, {999, 4, api.OK},
		{-1, 2, api.ErrArg}, {1000, 2, api.ErrArg}, {math.MinInt, 2, api.ErrArg}, {math.MaxInt, 2, api.ErrArg},
		{0, 1, api.ErrArg}, {0, 0, api.ErrArg}, {0, -2, api.ErrArg}, {0, 5, api.ErrArg}, {0, math.MinInt, api.ErrArg}, {0, math.MaxInt, api.ErrArg},
	} {
		h := newHost(t, 1)
		if n, e := h.Create(c.seed, c.players); n != 0 || e != c.e {
			t.Errorf("P4: Create(%d, %d): %d, %d, want %d", c.seed, c.players, n, e, c.e)
		}
	}
}

// TestOverKeepsItsRoom: matches never go away.
func TestOverKeepsItsRoom(t *testing.T) {
	h := newHost(t, 2)
	over(t, h, 2)
	over(t, h, 3)
	refuses(t, "P4: two that are over", h, api.ErrFull, create(h, 0, 2))
}

func TestHostsAreApart(t *testing.T) {
	a, b := newHost(t, 2), newHost(t, 2)
	for _, h := range []*garrison.Host{a, b} {
		going(t, h, 5, 3)
		open(t, h, 6, 2)
	}
	before := snapshot(b)
	must(t, "Submit", a.Submit(0, "ann", 1, bytesOf("0 2 1 2 2")))
	must(t, "Leave", a.Leave(0, "bob"))
	must(t, "Tick", a.Tick())
	must(t, "Pause", a.Pause(0, "cat", true))
	join(t, a, 1, "ann", 0)
	if snapshot(b) != before || snapshot(a) == before {
		t.Error("P2: one host's calls are seen in another")
	}
	must(t, "Submit", b.Submit(0, "ann", 1, bytesOf("0 2 1 2 2")))
	join(t, b, 1, "ann", 0)
}

// TestNoSuchMatch: ErrMatch stands ahead of all other errors.
func TestNoSuchMatch(t *testing.T) {
	h := newHost(t, 4)
	going(t, h, 0, 2)
	open(t, h, 0, 2)
	for _, m := range []int{math.MinInt, -1, 2, 3, 4, 8, 1 << 32, math.MaxInt} {
		what := fmt.Sprint("P5: the match ", m)
		refuses(t, what, h, api.ErrMatch,
			joins(h, m, "eve"), joins(h, m, ""), joins(h, m, "ann"),
			leaves(h, m, "ann"), leaves(h, m, ""),
			pauses(h, m, "ann", true), pauses(h, m, "", true),
			submits(h, m, "ann", 1, bytesOf("0 2 1 2 2")), submits(h, m, "", 0, ""),
			looks(h, m), states(h, m), hashes(h, m, 0), hashes(h, m, -1), watches(h, m))
		refuses(t, what, h, api.ErrArg, ticks(h, m))
	}
}

func TestNames(t *testing.T) {
	long := strings.Repeat("n", 12)
	for _, name := range []string{"a", long, "\x00", "\xff\xfe", " ", "éééééé", strings.Repeat("\x00", 12)} {
		h := newHost(t, 1)
		open(t, h, 0, 2)
		join(t, h, 0, name, 0)
		refuses(t, "P5: a name that a player has", h, api.ErrName, joins(h, 0, name))
		must(t, "P5: Leave", h.Leave(0, name))
		refuses(t, "P5: who left has no name", h, api.ErrName, leaves(h, 0, name))
		join(t, h, 0, name, 0)
	}
	h := newHost(t, 1)
	open(t, h, 0, 2)
	for _, name := range []string{"", long + "n", "ééééééé", strings.Repeat("\x00", 13), strings.Repeat("n", 1<<16)} {
		refuses(t, "P5: no name", h, api.ErrName, joins(h, 0, name), leaves(h, 0, name), pauses(h, 0, name, true), submits(h, 0, name, 1, ""))
	}
	join(t, h, 0, "ann", 0)
	join(t, h, 0, "Ann", 1)
}

func TestNamesOfOtherMatches(t *testing.T) {
	h := newHost(t, 3)
	going(t, h, 0, 2)
	open(t, h, 1, 2)
	join(t, h, 1, "bob", 0)
	refuses(t, "P5: a player of another match", h, api.ErrName, leaves(h, 1, "ann"), pauses(h, 1, "ann", true), submits(h, 1, "ann", 1, bytesOf("0 2 1 2 2")))
	join(t, h, 1, "ann", 1)
	must(t, "P6: Submit", h.Submit(1, "ann", 1, bytesOf("1 4 1 5 5")))
	checkLook(t, "the match beside it", h, 0, api.View{Phase: api.Goes, Players: 2, Winner: -1})
	checkLook(t, "its match", h, 1, api.View{Phase: api.Goes, Players: 2, Waiting: 1, Winner: -1})
}

func TestJoinAll(t *testing.T) {
	for players := 2; players <= 4; players++ {
		h := newHost(t, 1)
		open(t, h, 3, players)
		for n, name := range names[:players] {
			checkLook(t, "ahead of "+name, h, 0, api.View{Phase: api.Open, Players: n, Winner: -1})
			must(t, "P7: Tick", h.Tick())
			join(t, h, 0, name, n)
		}
		checkLook(t, "all are there", h, 0, api.View{Phase: api.Goes, Players: players, Winner: -1})
		refuses(t, "P5: a match that goes", h, api.ErrState, joins(h, 0, "eve"))
		refuses(t, "P5: which error is first", h, api.ErrName, joins(h, 0, "ann"), joins(h, 0, ""), joins(h, 0, strings.Repeat("n", 13)))
		checkPlayed(t, "no turn so far", h, 0, 3, players)
	}
}

func TestJoinWhereItIsOver(t *testing.T) {
	h := newHost(t, 1)
	over(t, h, 2)
	refuses(t, "P5: a match that is over", h, api.ErrState, joins(h, 0, "eve"))
	refuses(t, "P5: which error is first", h, api.ErrName, joins(h, 0, "ann"), joins(h, 0, ""))
}

// TestLeaveOpen: whoever left makes room, and the least number that is free is the next.
func TestLeaveOpen(t *testing.T) {
	h := newHost(t, 1)
	open(t, h, 0, 4)
	there := 0
	for _, s := range strings.Fields("+ann0 +bob1 +cat2 -ann +eve0 -bob -cat +ann1 -eve +bob0 +cat2 -ann -bob -cat +dan0 -dan +ann0 +bob1 +cat2 -bob +bob1 -ann -bob +eve0 +ann1") {
		name := strings.TrimRight(s[1:], "0123")
		if s[0] == '-' {
			must(t, "P5: Leave "+name, h.Leave(0, name))
			there--
		} else {
			join(t, h, 0, name, int(s[len(s)-1]-'0'))
			there++
		}
		checkLook(t, s, h, 0, api.View{Phase: api.Open, Players: there, Winner: -1})
	}
	refuses(t, "P5: who is there no longer", h, api.ErrName, leaves(h, 0, "bob"), pauses(h, 0, "bob", true), submits(h, 0, "bob", 1, ""))
	join(t, h, 0, "bob", 3)
	checkLook(t, "all are there", h, 0, api.View{Phase: api.Goes, Players: 4, Winner: -1})
	must(t, "P6: whoever has the number commands", h.Submit(0, "ann", 1, bytesOf("1 4 1 5 5")))
	must(t, "P6: whoever has the number commands", h.Submit(0, "bob", 1, bytesOf("3 8 1 2 5")))
	must(t, "P7: Tick", h.Tick())
	checkPlayed(t, "numbers that were free", h, 0, 0, 4, turns("1 4 1 5 5,3 8 1 2 5"))
}

// TestLastLeavesOpen: the last of the seats can be given back too, and no command is made of it.
func TestLastLeavesOpen(t *testing.T) {
	h := newHost(t, 1)
	open(t, h, 0, 2)
	join(t, h, 0, "ann", 0)
	must(t, "P5: Leave", h.Leave(0, "ann"))
	join(t, h, 0, "ann", 0)
	join(t, h, 0, "bob", 1)
	must(t, "P7: Tick", h.Tick())
	checkPlayed(t, "who left and came back did not give up", h, 0, 0, 2, turns(""))
	must(t, "P5: and may give up", h.Leave(0, "ann"))
}
