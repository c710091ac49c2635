package garrison_test

import (
	"fmt"
	"math"
	"strings"
	"testing"

	"garrison/api"
)

// TestExamples: the rows of the document's section 'Examples' that call a host.
func TestExamples(t *testing.T) {
	h := newHost(t, 1)
	if n, e := h.Create(0, 2); n != 0 || e != api.OK {
		t.Errorf("Create: %d, %d", n, e)
	}
	join(t, h, 0, "ann", 0)
	join(t, h, 0, "bob", 1)
	checkLook(t, "two joined", h, 0, api.View{Phase: 2, Players: 2, Winner: -1})
	must(t, "Submit", h.Submit(0, "ann", 1, step))
	must(t, "Tick", h.Tick())
	state, e := h.State(0)
	must(t, "State", e)
	if p := read(t, state); p.turn != 1 || p.units[1] != (piece{2, 0, 2, 2, 2, 5}) {
		t.Errorf("State: %s", p.text())
	}
	refuses(t, "the same by bob", h, api.ErrBytes, submits(h, 0, "bob", 1, step))
	must(t, "Leave", h.Leave(0, "bob"))
	must(t, "Tick", h.Tick(0))
	checkLook(t, "bob left", h, 0, api.View{Phase: 3, Players: 2, Turn: 2, Winner: 0})
}

func TestHash(t *testing.T) {
	h := newHost(t, 2)
	open(t, h, 40, 3)
	going(t, h, 41, 2)
	checkPlayed(t, "an open match", h, 0, 40, 3)
	must(t, "Submit", h.Submit(1, "bob", 1, bytesOf("1 4 1 5 5")))
	checkPlayed(t, "a command that waits", h, 1, 41, 2)
	played := []string{turns("1 4 1 5 5")}
	must(t, "Tick", h.Tick())
	for seq := 2; seq <= 6; seq++ {
		checkPlayed(t, "some turns", h, 1, 41, 2, played...)
		c := []string{"1 4 1 4 4", "1 4 1 3 3", "1 4 2 2 2", "1 4 3 3 4", "1 4 1 2 3"}[seq-2]
		must(t, "Submit", h.Submit(1, "bob", seq, bytesOf(c)))
		must(t, "Tick", h.Tick())
		played = append(played, turns(c))
	}
	must(t, "Leave", h.Leave(1, "bob"))
	must(t, "Tick", h.Tick())
	played = append(played, turns("1 0 0 0 0"))
	checkPlayed(t, "over", h, 1, 41, 2, played...)
	for match, last := range []int{0, 7} {
		for _, turn := range []int{math.MinInt, -1, last + 1, last + 1<<32, math.MaxInt} {
			refuses(t, fmt.Sprint("P8: Hash of turn ", turn), h, api.ErrArg, hashes(h, match, turn))
		}
	}
}

// TestWinners: each player of 2, 3 or 4 may be the last that is in; the others give up, in one turn or one by one.
func TestWinners(t *testing.T) {
	for players := 2; players <= 4; players++ {
		for winner := range players {
			h := newHost(t, 2)
			going(t, h, 0, players)
			going(t, h, 0, players)
			turn := 0
			for p, name := range names[:players] {
				if p == winner {
					continue
				}
				must(t, "P5: Leave", h.Leave(0, name))
				refuses(t, "P5: once", h, api.ErrState, leaves(h, 0, name))
				checkLook(t, "ahead of the turn", h, 0, api.View{Phase: api.Goes, Players: players, Turn: turn, Winner: -1})
				must(t, "P7: Tick", h.Tick(0))
				turn++
				refuses(t, "P5: once, behind the turn", h, api.ErrState, leaves(h, 0, name))
				must(t, "P5: Leave", h.Leave(1, name))
			}
			end := api.View{Phase: api.Over, Players: players, Turn: turn, Winner: winner}
			checkLook(t, "one by one", h, 0, end)
			must(t, "P7: Tick", h.Tick())
			checkLook(t, "one by one, and a tick", h, 0, end)
			end.Turn = 1
			checkLook(t, "in one turn", h, 1, end)
			checkOver(t, players, winner)
		}
	}
}

// checkOver: what a match that is over refuses, to those who gave up and to the winner.
func checkOver(t *testing.T, players, winner int) {
	t.Helper()
	h := newHost(t, 1)
	going(t, h, 0, players)
	for p, name := range names[:players] {
		if p != winner {
			must(t, "P5: Leave", h.Leave(0, name))
		}
	}
	must(t, "P7: Tick", h.Tick())
	for p, name := range names[:players] {
		refuses(t, "P5, P6: over", h, api.ErrState, leaves(h, 0, name), pauses(h, 0, name, true), submits(h, 0, name, 1, string([]byte{byte(p), 1, 4, 1, 0})))
	}
	refuses(t, "P5, P6: over, and no player", h, api.ErrName, leaves(h, 0, "eve"), pauses(h, 0, "eve", true), submits(h, 0, "eve", 1, step))
}

func TestNoOneWins(t *testing.T) {
	for players := 2; players <= 4; players++ {
		h := newHost(t, 1)
		going(t, h, 0, players)
		for _, name := range names[2:players] {
			must(t, "P5: Leave", h.Leave(0, name))
			must(t, "P7: Tick", h.Tick())
		}
		must(t, "P5: Leave", h.Leave(0, "ann"))
		must(t, "P6: Submit", h.Submit(0, "bob", 1, bytesOf("1 0 0 0 0")))
		must(t, "P7: Tick", h.Tick())
		checkLook(t, "the last two give up at once", h, 0, api.View{Phase: api.Over, Players: players, Turn: players - 1, Winner: -1})
	}
}

// TestStormed: a match that ends by a Base that is hit until it is gone.
func TestStormed(t *testing.T) {
	h := duel(t)
	seqs, played := map[string]int{}, []string{}
	way := raid + strings.Repeat("0 5 2 6 6|", 2) + "0 5 1 6 6|" + strings.Repeat("0 5 2 7 7|", 7)
	list := strings.Split(strings.TrimSuffix(way, "|"), "|")
	for n, commands := range list {
		checkLook(t, "the storm", h, 0, api.View{Phase: api.Goes, Players: 2, Turn: n, Winner: -1})
		submit(t, h, 0, seqs, commands)
		must(t, "P7: Tick", h.Tick())
		played = append(played, turns(commands))
	}
	checkLook(t, "stormed", h, 0, api.View{Phase: api.Over, Players: 2, Turn: len(list), Winner: 0})
	checkPlayed(t, "stormed", h, 0, 0, 2, played...)
	refuses(t, "P5: bob is out, and it is over", h, api.ErrState, leaves(h, 0, "bob"), leaves(h, 0, "ann"))
}
