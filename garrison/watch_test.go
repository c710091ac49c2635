package garrison_test

import (
	"fmt"
	"math"
	"slices"
	"strings"
	"testing"

	"garrison/api"
	"garrison/garrison"
)

// stroll: turns of ann and bob that go nowhere, each other than the one ahead of it; the third and the sixth have no command.
var stroll = []string{"0 2 1 2 2", "1 4 1 5 5,1 4 3 5 6", "", "0 2 3 2 1,0 1 4 1 0,1 3 4 6 7", "0 2 1 3 3", "", "1 9 9 9 9"}

// walk lets the turns be played in a match of ann and bob, and answers their bytes, one by one.
func walk(t *testing.T, h *garrison.Host, match int, seqs map[string]int, list ...string) []string {
	t.Helper()
	var sealed []string
	for _, commands := range list {
		if commands != "" {
			submit(t, h, match, seqs, commands)
		}
		must(t, "P7: Tick", h.Tick(match))
		sealed = append(sealed, turns(commands))
	}
	return sealed
}

// TestWatchNumbers: they go on through all matches of a host, whatever their phase, and a refusal takes none.
func TestWatchNumbers(t *testing.T) {
	h, other := allPhases(t), allPhases(t)
	for n := range 20 {
		refuses(t, "P9: no such match", h, api.ErrMatch, watches(h, -1), watches(h, 4), watches(h, 5), watches(h, math.MinInt), watches(h, math.MaxInt))
		refuses(t, "P9: no such watcher yet", h, api.ErrWatch, polls(h, n, 0), polls(h, n, 1), polls(h, n, -1))
		watch(t, h, n*7%4, n)
	}
	for match := range 4 {
		refuses(t, "P9: 20 watch", h, api.ErrFull, watches(h, match))
	}
	refuses(t, "P9: 20 watch, and no such match", h, api.ErrMatch, watches(h, -1), watches(h, 4), watches(h, math.MaxInt))
	refuses(t, "P9: 20 watch a host, not a match", h, api.ErrFull, watches(h, going(t, h, 5, 2)))
	must(t, "P7: Tick", h.Tick())
	for n := range 20 {
		if n*7%4 == 3 {
			refuses(t, "P9: over when it began to watch", h, api.ErrOver, polls(h, n, 1))
		} else if n*7%4 == 1 {
			poll(t, h, n, 2, "\x00")
		} else {
			poll(t, h, n, 2)
		}
	}
	refuses(t, "P2: the other host has no watcher", other, api.ErrWatch, polls(other, 0, 1), polls(other, 19, 1))
	watch(t, other, 1, 0)
	poll(t, other, 0, 9)
}

// TestTwentyOfOneMatch: all see the same.
func TestTwentyOfOneMatch(t *testing.T) {
	h := duel(t)
	for n := range 20 {
		watch(t, h, 0, n)
	}
	refuses(t, "P9: 20 watch", h, api.ErrFull, watches(h, 0))
	sealed := walk(t, h, 0, map[string]int{}, stroll...)
	for n := range 20 {
		poll(t, h, n, n, sealed[:min(n, 7)]...)
	}
	for n := range 20 {
		poll(t, h, n, 7, sealed[min(n, 7):]...)
		poll(t, h, n, 7)
	}
}

// TestFromNowOn: who begins to watch sees what is sealed behind it, also of what waits already, and nothing ahead of it.
func TestFromNowOn(t *testing.T) {
	h := newHost(t, 2)
	open(t, h, 0, 2)
	watch(t, h, 0, 0)
	join(t, h, 0, "eve", 0)
	watch(t, h, 0, 1)
	must(t, "Leave", h.Leave(0, "eve"))
	join(t, h, 0, "ann", 0)
	must(t, "Tick", h.Tick())
	join(t, h, 0, "bob", 1)
	watch(t, h, 0, 2)
	seqs, sealed := map[string]int{}, []string{}
	from := []int{0, 0, 0}
	for n, commands := range stroll {
		if commands != "" {
			submit(t, h, 0, seqs, commands)
		}
		from = append(from, n)
		watch(t, h, 0, n+3)
		must(t, "P7: Tick", h.Tick())
		sealed = append(sealed, turns(commands))
	}
	must(t, "P6: Pause", h.Pause(0, "bob", true))
	watch(t, h, 0, len(from))
	must(t, "P7: Tick", h.Tick())
	must(t, "P6: Pause", h.Pause(0, "bob", false))
	from = append(from, len(sealed))
	for watcher, n := range from {
		poll(t, h, watcher, 100, sealed[n:]...)
	}
	must(t, "P5: Leave", h.Leave(0, "ann"))
	must(t, "P7: Tick", h.Tick())
	watch(t, h, 0, len(from))
	for watcher := range from {
		poll(t, h, watcher, 100, turns("0 0 0 0 0"))
	}
	for watcher := range len(from) + 1 {
		refuses(t, "P9: it has seen all", h, api.ErrOver, polls(h, watcher, 0), polls(h, watcher, 1), polls(h, watcher, 100))
	}
}

// TestPieces: however many are asked for, each turn is told once, in its order, as many as there are and no more.
func TestPieces(t *testing.T) {
	mosts := []int{1, 2, 3, 6, 7, 8, 36, 1000, 1001, math.MaxInt32, math.MaxInt - 1, math.MaxInt}
	h := duel(t)
	seqs := map[string]int{}
	for n := range mosts {
		watch(t, h, 0, n)
	}
	for _, list := range [][]string{stroll, {}, {"0 2 1 2 2"}, {"", ""}} {
		sealed := walk(t, h, 0, seqs, list...)
		for watcher, most := range mosts {
			for part := range slices.Chunk(sealed, most) {
				poll(t, h, watcher, 0)
				poll(t, h, watcher, most, part...)
			}
			poll(t, h, watcher, 0)
			poll(t, h, watcher, most)
		}
	}
}

// TestPollAndTick: turns are told while others come.
func TestPollAndTick(t *testing.T) {
	h := duel(t)
	watch(t, h, 0, 0)
	seqs := map[string]int{}
	sealed := walk(t, h, 0, seqs, stroll[:3]...)
	poll(t, h, 0, 2, sealed[:2]...)
	sealed = append(sealed, walk(t, h, 0, seqs, stroll[3:5]...)...)
	poll(t, h, 0, 2, sealed[2:4]...)
	sealed = append(sealed, walk(t, h, 0, seqs, stroll[5:]...)...)
	poll(t, h, 0, 3, sealed[4:]...)
	sealed = append(sealed, walk(t, h, 0, seqs, "", "0 2 1 2 2", "")...)
	poll(t, h, 0, 1, sealed[7:8]...)
	must(t, "P5: Leave", h.Leave(0, "bob"))
	must(t, "P7: Tick", h.Tick())
	poll(t, h, 0, 0)
	poll(t, h, 0, 2, sealed[8:]...)
	poll(t, h, 0, 0)
	poll(t, h, 0, 1, turns("1 0 0 0 0"))
	refuses(t, "P9: it has seen all", h, api.ErrOver, polls(h, 0, 0), polls(h, 0, 1))
}

// TestSeveralMatches: a watcher sees its own match alone, and takes nothing from another watcher.
func TestSeveralMatches(t *testing.T) {
	h := newHost(t, 8)
	for seed := range 8 {
		going(t, h, seed, 2)
	}
	for match := range 8 {
		watch(t, h, match, 2*match)
		watch(t, h, 7-match, 2*match+1)
	}
	var sealed [8][]string
	for match := range 8 {
		sealed[match] = walk(t, h, match, map[string]int{}, stroll[:match]...)
	}
	must(t, "P5: Leave", h.Leave(3, "ann"))
	must(t, "P7: Tick", h.Tick())
	for match := range sealed {
		sealed[match] = append(sealed[match], "\x00")
	}
	sealed[3][3] = turns("0 0 0 0 0")
	for match := range 8 {
		half := len(sealed[match]) / 2
		poll(t, h, 2*match, half, sealed[match][:half]...)
		poll(t, h, 15-2*match, 9, sealed[match]...)
		poll(t, h, 2*match, 9, sealed[match][half:]...)
	}
	refuses(t, "P9: the match that is over", h, api.ErrOver, polls(h, 6, 1), polls(h, 9, 1))
	for _, watcher := range []int{0, 1, 2, 3, 4, 5, 7, 8, 10, 11, 12, 13, 14, 15} {
		poll(t, h, watcher, 1)
	}
}

// TestNothingSealed: where a tick seals no turn there is nothing to see.
func TestNothingSealed(t *testing.T) {
	h := allWatched(t)
	must(t, "P7: Tick", h.Tick(0, 2, 3))
	refuses(t, "P7: refused", h, api.ErrArg, ticks(h, 1, 1), ticks(h, 1, 4), ticks(h, -1, 1))
	for watcher := range 3 {
		poll(t, h, watcher, 1)
	}
	must(t, "P6: Pause", h.Pause(2, "dan", false))
	must(t, "P7: Tick", h.Tick(2))
	poll(t, h, 2, 2, "\x00")
	poll(t, h, 1, 1)
}

// TestFullTurnTold: 36 commands, and with them the match is over.
func TestFullTurnTold(t *testing.T) {
	h := newHost(t, 1)
	going(t, h, 0, 4)
	watch(t, h, 0, 0)
	want := "\x24"
	for p, name := range names {
		want += string([]byte{byte(p), 0, 0, 0, 0})
		for seq := 1; seq <= 8; seq++ {
			c := string([]byte{byte(p), byte(seq), 255, byte(10 * seq), byte(p)})
			must(t, "P6: Submit", h.Submit(0, name, seq, c))
			want += c
		}
	}
	for _, name := range []string{"dan", "bob", "ann", "cat"} {
		must(t, "P5: Leave", h.Leave(0, name))
	}
	poll(t, h, 0, 1)
	must(t, "P7: Tick", h.Tick())
	poll(t, h, 0, 0)
	poll(t, h, 0, 1, want)
	refuses(t, "P9: over", h, api.ErrOver, polls(h, 0, 1))
	checkPlayed(t, "36 commands", h, 0, 0, 4, want)
}

// TestGiveUpTold: that a player gives up stands in one turn, ahead of its others; a command of noughts that was submitted stands in its place.
func TestGiveUpTold(t *testing.T) {
	h := newHost(t, 1)
	going(t, h, 0, 4)
	watch(t, h, 0, 0)
	seqs := map[string]int{}
	submit(t, h, 0, seqs, "2 6 1 5 2,1 4 1 5 5,0 2 1 2 2,2 5 4 6 0")
	must(t, "P5: Leave", h.Leave(0, "cat"))
	must(t, "P7: Tick", h.Tick())
	poll(t, h, 0, 9, turns("0 2 1 2 2,1 4 1 5 5,2 0 0 0 0,2 6 1 5 2,2 5 4 6 0"))
	refuses(t, "P5: it gave up", h, api.ErrState, leaves(h, 0, "cat"), submits(h, 0, "cat", 3, bytesOf("2 6 1 5 2")))
	submit(t, h, 0, seqs, "3 8 1 2 5,3 0 0 0 0,3 7 4 1 7")
	must(t, "P7: Tick", h.Tick())
	poll(t, h, 0, 9, turns("3 8 1 2 5,3 0 0 0 0,3 7 4 1 7"))
	must(t, "P5: Leave", h.Leave(0, "bob"))
	must(t, "P5: Leave", h.Leave(0, "ann"))
	must(t, "P7: Tick", h.Tick())
	poll(t, h, 0, 9, turns("0 0 0 0 0,1 0 0 0 0"))
	refuses(t, "P9: over", h, api.ErrOver, polls(h, 0, 9))
}

// TestThousandTold: behind 1000 turns a match is not over, so there is nothing to tell, yet no end.
func TestThousandTold(t *testing.T) {
	h := duel(t)
	watch(t, h, 0, 0)
	watch(t, h, 0, 1)
	seqs, sealed := map[string]int{}, []string{}
	for n := range 1000 {
		sealed = append(sealed, walk(t, h, 0, seqs, fmt.Sprintf("%d 9 9 %d %d", n%2, n%256, n/256))...)
		poll(t, h, 0, 1, sealed[n])
	}
	must(t, "P7: Tick", h.Tick())
	must(t, "P6: Submit", h.Submit(0, "ann", seqs["ann"]+1, step))
	must(t, "P7: Tick", h.Tick(0))
	poll(t, h, 0, 1)
	poll(t, h, 1, 999, sealed[:999]...)
	poll(t, h, 1, 1000, sealed[999])
	poll(t, h, 1, 1000)
	watch(t, h, 0, 2)
	poll(t, h, 2, 1)
	checkPlayed(t, "1000 turns", h, 0, 0, 2, sealed...)
}

func TestOverWithTheThousandthTold(t *testing.T) {
	h := duel(t)
	watch(t, h, 0, 0)
	for range 999 {
		must(t, "P7: Tick", h.Tick())
	}
	must(t, "P5: Leave", h.Leave(0, "ann"))
	must(t, "P7: Tick", h.Tick())
	poll(t, h, 0, math.MaxInt, strings.Repeat("\x00", 999), turns("0 0 0 0 0"))
	refuses(t, "P9: over", h, api.ErrOver, polls(h, 0, math.MaxInt))
}

// TestPollErrors: each error, the first that applies, and nothing is lost with it.
func TestPollErrors(t *testing.T) {
	h := newHost(t, 2)
	going(t, h, 0, 2)
	going(t, h, 1, 2)
	watch(t, h, 0, 0) // its match goes on
	watch(t, h, 1, 1) // its match will be over, and it has not seen the end
	watch(t, h, 1, 2) // its match will be over, and it has seen all
	seqs := map[string]int{}
	sealed := walk(t, h, 0, seqs, stroll...)
	must(t, "P5: Leave", h.Leave(1, "bob"))
	must(t, "P7: Tick", h.Tick(1))
	poll(t, h, 2, 1, turns("1 0 0 0 0"))
	watch(t, h, 1, 3) // its match was over when it began
	for _, most := range []int{math.MinInt, -1, 0, 1, 9, math.MaxInt} {
		for _, watcher := range []int{math.MinInt, -1, 4, 5, 19, 20, 21, 1 << 32, math.MaxInt} {
			refuses(t, fmt.Sprintf("P9: Poll(%d, %d): no such watcher", watcher, most), h, api.ErrWatch, polls(h, watcher, most))
		}
		for watcher := range 4 {
			if most < 0 {
				refuses(t, fmt.Sprintf("P9: Poll(%d, %d): below 0", watcher, most), h, api.ErrArg, polls(h, watcher, most))
			} else if watcher >= 2 {
				refuses(t, fmt.Sprintf("P9: Poll(%d, %d): seen all", watcher, most), h, api.ErrOver, polls(h, watcher, most))
			}
		}
	}
	poll(t, h, 0, 3, sealed[:3]...)
	refuses(t, "P9: below 0", h, api.ErrArg, polls(h, 0, -1), polls(h, 0, -4))
	poll(t, h, 0, 9, sealed[3:]...)
	poll(t, h, 1, 9, turns("1 0 0 0 0"))
	watch(t, h, 0, 4)
}

// TestToldStays: what was told to one watcher is not changed by what comes later, and is what others are told.
func TestToldStays(t *testing.T) {
	h := duel(t)
	watch(t, h, 0, 0)
	watch(t, h, 0, 1)
	var told, copies []string
	keep := func(watcher, most int) {
		text, e := h.Poll(watcher, most)
		must(t, "P9: Poll", e)
		told, copies = append(told, text), append(copies, strings.Clone(text))
	}
	seqs := map[string]int{}
	for range 5 {
		walk(t, h, 0, seqs, stroll...)
		for range len(stroll) - 1 {
			keep(0, 1)
		}
	}
	keep(0, 100)
	first := strings.Join(copies, "")
	must(t, "P5: Leave", h.Leave(0, "bob"))
	must(t, "P7: Tick", h.Tick())
	keep(0, 1)
	first += turns("1 0 0 0 0")
	keep(1, 20)
	keep(1, 20)
	if second := strings.Join(copies[len(copies)-2:], ""); second != first {
		t.Errorf("P10: told to one: %x, to another: %x", first, second)
	}
	if !slices.Equal(told, copies) {
		t.Errorf("P10: what was told is changed: %x, was %x", told, copies)
	}
}

// TestWatchingChangesNothing: a match that is watched is as one that is not.
func TestWatchingChangesNothing(t *testing.T) {
	plain, watched := duel(t), duel(t)
	one, two := map[string]int{}, map[string]int{}
	for n, commands := range stroll {
		watch(t, watched, 0, n)
		walk(t, plain, 0, one, commands)
		walk(t, watched, 0, two, commands)
		watched.Poll(n/2, n)
		for turn := range n + 2 {
			a, _ := plain.Hash(0, turn)
			if b, e := watched.Hash(0, turn); a != b || e != api.OK {
				t.Fatalf("P9: Hash(0, %d): %s, %d, want %s", turn, b, e, a)
			}
		}
		checkLook(t, "watched", watched, 0, look(t, plain, 0))
	}
}
