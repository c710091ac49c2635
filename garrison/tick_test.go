package garrison_test

import (
	"fmt"
	"math"
	"slices"
	"strings"
	"testing"

	"garrison/api"
)

// TestSealed: the commands stand player by player, each one's in the order in which they were taken.
func TestSealed(t *testing.T) {
	for _, c := range []struct{ name, submitted, sealed string }{
		{"nothing", "", ""},
		{"one", "0 2 1 2 2", "0 2 1 2 2"},
		{"one of the last player", "2 6 1 5 2", "2 6 1 5 2"},
		{"dig, then train", "0 2 3 0 1,0 1 5 1 0", "0 2 3 0 1,0 1 5 1 0"},
		{"train, then dig", "0 1 5 1 0,0 2 3 0 1", "0 1 5 1 0,0 2 3 0 1"},
		{"the same cell, and the first player is the last to ask", "1 4 1 5 5,1 3 4 6 6,0 1 4 1 1,0 2 1 2 2,0 1 4 1 1", "0 1 4 1 1,0 2 1 2 2,0 1 4 1 1,1 4 1 5 5,1 3 4 6 6"},
		{"all three, mixed", "2 6 1 5 2,1 4 1 5 5,0 2 1 2 2,2 5 4 6 1,1 3 4 6 6,0 1 4 1 1", "0 2 1 2 2,0 1 4 1 1,1 4 1 5 5,1 3 4 6 6,2 6 1 5 2,2 5 4 6 1"},
	} {
		h := newHost(t, 1)
		going(t, h, 0, 3)
		if c.submitted != "" {
			submit(t, h, 0, map[string]int{}, c.submitted)
		}
		must(t, "P7: Tick", h.Tick())
		checkPlayed(t, c.name, h, 0, 0, 3, turns(c.sealed))
		must(t, "P7: Tick", h.Tick())
		checkPlayed(t, c.name+", then nothing", h, 0, 0, 3, turns(c.sealed), turns(""))
	}
}

// TestFirstPlayerFirst: the order of the players is seen in what is done.
func TestFirstPlayerFirst(t *testing.T) {
	h := duel(t)
	seqs := map[string]int{}
	for _, commands := range []string{"1 4 1 5 5,0 2 1 2 2", "1 4 1 4 4,0 2 1 3 3", "1 4 2 3 3,0 2 1 2 2"} {
		submit(t, h, 0, seqs, commands)
		must(t, "P7: Tick", h.Tick())
	}
	state, _ := h.State(0)
	if got, want := read(t, state).text(), "3 4; 2 2; 1:0B00,20; 2:0W22,5; 3:1B77,20; 4:1W44,5"; got != want {
		t.Errorf("P7: who asked first was done first: %s, want %s", got, want)
	}
}

// TestGiveUpIsFirst: with its Base gone, what the Base was to hire does not come.
func TestGiveUpIsFirst(t *testing.T) {
	h := newHost(t, 1)
	going(t, h, 0, 3)
	submit(t, h, 0, map[string]int{}, "1 3 4 7 6,0 1 4 1 0,1 4 3 5 6,2 6 1 5 2,"+strings.TrimSuffix(strings.Repeat("1 4 1 5 5,", 6), ","))
	refuses(t, "P6: 8 wait", h, api.ErrFull, submits(h, 0, "bob", 9, bytesOf("1 4 1 5 5")))
	must(t, "P5: Leave, where 8 wait", h.Leave(0, "bob"))
	checkLook(t, "the command of giving up is not counted", h, 0, api.View{Phase: api.Goes, Players: 3, Waiting: 10, Winner: -1})
	must(t, "P7: Tick", h.Tick())
	sealed := turns("0 1 4 1 0,1 0 0 0 0,1 3 4 7 6,1 4 3 5 6," + strings.Repeat("1 4 1 5 5,", 6) + "2 6 1 5 2")
	checkPlayed(t, "giving up", h, 0, 0, 3, sealed)
	state, _ := h.State(0)
	if p := read(t, state); p.last != 7 || p.gold[1] != 3 {
		t.Errorf("P5: its Base hired, or its Worker did not dig: %s", p.text())
	}
	must(t, "P7: Tick", h.Tick())
	checkPlayed(t, "behind giving up", h, 0, 0, 3, sealed, turns(""))
}

// TestFullTurn: four players with 8 commands each give up in one turn: 36 commands.
func TestFullTurn(t *testing.T) {
	h := newHost(t, 1)
	going(t, h, 0, 4)
	sealed, seqs := "", map[string]int{}
	for p := range 4 {
		moves := strings.TrimSuffix(strings.Repeat(fmt.Sprintf("%d %d 3 2 1,", p, 2*p+2), 8), ",")
		submit(t, h, 0, seqs, moves)
		sealed += fmt.Sprintf("%d 0 0 0 0,%s,", p, moves)
		must(t, "P5: Leave", h.Leave(0, names[p]))
	}
	checkLook(t, "32 wait", h, 0, api.View{Phase: api.Goes, Players: 4, Waiting: 32, Winner: -1})
	must(t, "P7: Tick", h.Tick())
	checkPlayed(t, "36 commands", h, 0, 0, 4, turns(sealed))
	checkLook(t, "no one wins", h, 0, api.View{Phase: api.Over, Players: 4, Turn: 1, Winner: -1})
}

func TestTickNamed(t *testing.T) {
	h := newHost(t, 8)
	for seed := range 5 {
		going(t, h, seed, 2+seed%3)
	}
	want := []int{0, 0, 0, 0, 0}
	for _, list := range [][]int{{}, {0}, {4}, {4, 0}, {1, 2, 3}, nil, {3, 1, 4, 0, 2}, {2}, {0, 1, 2, 3, 4}} {
		must(t, "P7: Tick", h.Tick(list...))
		for m := range want {
			if len(list) == 0 || slices.Contains(list, m) {
				want[m]++
			}
			if v := look(t, h, m); v.Turn != want[m] {
				t.Errorf("P7: Tick(%v): match %d has turn %d, want %d", list, m, v.Turn, want[m])
			}
		}
	}
	for m, n := range want {
		checkPlayed(t, "turns without commands", h, m, m, 2+m%3, strings.Split(strings.Repeat("\x00", n), "")...)
	}
}

func TestTickRefused(t *testing.T) {
	h := newHost(t, 8)
	for seed := range 3 {
		going(t, h, seed, 2)
	}
	open(t, h, 3, 2)
	over(t, h, 2)
	must(t, "Submit", h.Submit(0, "ann", 1, step))
	must(t, "Leave", h.Leave(1, "ann"))
	for _, list := range [][]int{
		{-1}, {5}, {7}, {8}, {math.MinInt}, {math.MaxInt}, {1 << 32},
		{0, 5}, {5, 0}, {0, 1, 2, -1}, {-1, 0}, {-1, -1},
		{0, 0}, {0, 1, 0}, {1, 2, 2}, {3, 3}, {4, 4}, {0, 1, 2, 3, 4, 0}, {0, 1, 2, 3, 4, 5}, slices.Repeat([]int{2}, 1000),
	} {
		refuses(t, fmt.Sprint("P7: Tick of ", list), h, api.ErrArg, ticks(h, list...))
	}
	refuses(t, "P7: no match so far", newHost(t, 1), api.ErrArg, ticks(newHost(t, 1), 0))
}

// TestTickPassesOver: what is open, paused or over has no turn, named or not.
func TestTickPassesOver(t *testing.T) {
	h := newHost(t, 8)
	open(t, h, 0, 2)
	join(t, h, 0, "ann", 0)
	over(t, h, 2)
	paused := going(t, h, 0, 2)
	must(t, "Submit", h.Submit(paused, "ann", 1, step))
	must(t, "Pause", h.Pause(paused, "ann", true))
	refuses(t, "P7: nothing to do", h, api.OK, ticks(h), ticks(h, 0), ticks(h, 1), ticks(h, 2), ticks(h, 2, 1, 0))
	goes := going(t, h, 0, 2)
	before := look(t, h, paused)
	must(t, "P7: Tick", h.Tick(0, 1, 2, goes))
	must(t, "P7: Tick", h.Tick())
	if v := look(t, h, goes); v.Turn != 2 || look(t, h, paused) != before || look(t, h, 0).Turn != 0 || look(t, h, 1).Turn != 1 {
		t.Errorf("P7: beside matches that do not go: %+v", v)
	}
}

func TestThousandTurns(t *testing.T) {
	h := newHost(t, 2)
	going(t, h, 0, 2)
	going(t, h, 9, 3)
	for n := range 1000 {
		checkLook(t, "on the way", h, 0, api.View{Phase: api.Goes, Players: 2, Turn: n, Winner: -1})
		must(t, "P7: Tick", h.Tick(0))
	}
	refuses(t, "P7: no turn more", h, api.OK, ticks(h, 0), ticks(h, 0))
	full := strings.Split(strings.Repeat("\x00", 1000), "")
	checkPlayed(t, "1000 turns", h, 0, 0, 2, full...)
	for seq := 1; seq <= 8; seq++ {
		must(t, "P6: Submit behind 1000 turns", h.Submit(0, "ann", seq, step))
	}
	refuses(t, "P6: a ninth", h, api.ErrFull, submits(h, 0, "ann", 9, step))
	must(t, "P5: Leave behind 1000 turns", h.Leave(0, "bob"))
	refuses(t, "P5: once", h, api.ErrState, leaves(h, 0, "bob"))
	must(t, "P6: Pause behind 1000 turns", h.Pause(0, "bob", true))
	must(t, "P6: Pause behind 1000 turns", h.Pause(0, "bob", false))
	must(t, "P7: Tick", h.Tick())
	checkLook(t, "behind 1000 turns", h, 0, api.View{Phase: api.Goes, Players: 2, Turn: 1000, Waiting: 8, Winner: -1})
	checkPlayed(t, "1000 turns", h, 0, 0, 2, full...)
	checkLook(t, "the match beside it", h, 1, api.View{Phase: api.Goes, Players: 3, Turn: 1, Winner: -1})
}

func TestOverWithTheThousandth(t *testing.T) {
	h := duel(t)
	for range 999 {
		must(t, "P7: Tick", h.Tick())
	}
	must(t, "P5: Leave", h.Leave(0, "ann"))
	must(t, "P7: Tick", h.Tick())
	checkLook(t, "over", h, 0, api.View{Phase: api.Over, Players: 2, Turn: 1000, Winner: 1})
	checkPlayed(t, "over", h, 0, 0, 2, append(strings.Split(strings.Repeat("\x00", 999), ""), turns("0 0 0 0 0"))...)
}

func TestTickKeepsNoList(t *testing.T) {
	h := newHost(t, 4)
	for seed := range 3 {
		going(t, h, seed, 2)
	}
	room := []int{2, 0, 7, 7, 7, 7, 7, 7, 7, 7}
	must(t, "P7: Tick", h.Tick(room[:2]...))
	if !slices.Equal(room, []int{2, 0, 7, 7, 7, 7, 7, 7, 7, 7}) {
		t.Errorf("P2: Tick wrote into its list, or behind it: %v", room)
	}
	room[0], room[1] = 1, 1
	must(t, "P7: Tick", h.Tick())
	h.Tick(room[:2]...)
	h.Tick(room...)
	if !slices.Equal(room, []int{1, 1, 7, 7, 7, 7, 7, 7, 7, 7}) {
		t.Errorf("P2: Tick wrote into a list that it refused: %v", room)
	}
	for m, want := range []int{2, 1, 2} {
		if v := look(t, h, m); v.Turn != want {
			t.Errorf("P2: match %d has turn %d, want %d", m, v.Turn, want)
		}
	}
}
