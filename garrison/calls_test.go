package garrison_test

import (
	"math"
	"slices"
	"strings"
	"sync"
	"testing"

	"garrison/api"
	"garrison/garrison"
)

var (
	oddNumbers = []int{math.MinInt, -1, 0, 1, 2, 4, 5, 8, 9, 36, 999, 1000, 1001, math.MaxInt}
	oddTexts   = []string{"", "\x00", "\x01", "a", "\xff\xfe", "\x00\x02\x01\x02\x02", strings.Repeat("\x00", 1001), strings.Repeat("\xff", 1000), strings.Repeat("long", 1000)}
)

// TestNoCallPanics: a panic ends the test.
func TestNoCallPanics(t *testing.T) {
	for _, a := range oddNumbers {
		for _, text := range oddTexts {
			for _, b := range oddNumbers {
				if state, hash, e := garrison.Fold(a, b, text); e != api.OK && (state != "" || hash != "") {
					t.Errorf("P1: Fold(%d, %d, %.20q): a result beside the error %d", a, b, text, e)
				}
			}
			callAll(newHost(t, 1), a, text)
			callAll(allPhases(t), a, text)
			callAll(allWatched(t), a, text)
		}
		garrison.New(a)
	}
}

// allPhases: a host with a match that is open, one that goes, one that is paused and one that is over, and room for another.
func allPhases(t *testing.T) *garrison.Host {
	h := newHost(t, 5)
	open(t, h, 0, 2)
	going(t, h, 1, 3)
	must(t, "Pause", h.Pause(going(t, h, 2, 4), "ann", true))
	over(t, h, 2)
	return h
}

// allWatched: the same, with a watcher of each match, by the match's number.
func allWatched(t *testing.T) *garrison.Host {
	h := allPhases(t)
	for match := range 4 {
		watch(t, h, match, match)
	}
	return h
}

func callAll(h *garrison.Host, number int, text string) {
	h.Create(number, 2)
	h.Create(0, number)
	for _, name := range []string{text, "ann"} {
		h.Join(number, name)
		h.Pause(number, name, true)
		h.Pause(number, name, false)
		h.Submit(number, name, number, text)
		h.Leave(number, name)
	}
	h.Tick()
	h.Tick(number)
	h.Tick(oddNumbers...)
	h.Look(number)
	h.State(number)
	h.Hash(number, number)
	h.Watch(number)
	for _, most := range oddNumbers {
		h.Poll(number, most)
	}
}

func TestListsAreLeftAlone(t *testing.T) {
	h, _ := garrison.New(2)
	room := []int{1, 0, 7, 8}
	h.Tick(room[:2]...)
	if !slices.Equal(room, []int{1, 0, 7, 8}) {
		t.Errorf("P2: Tick wrote into its list: %v", room)
	}
}

type answer struct {
	state, hash string
	e           api.Errno
}

func ask(k int) answer {
	texts := []string{"", "\x00", turns(raid), turns("1 0 0 0 0"), turns("1 0 0 0 0|"), turns(visit + "1 3 2 7 6"), "\x01", turns("0 1 4 1 0|0 2 3 2 1")}
	state, hash, e := garrison.Fold(k%5*250, 2+k%4, texts[k%len(texts)])
	return answer{state, hash, e}
}

// TestFoldHangsOnItsArguments: asked again, in another order and side by side, Fold answers the same.
func TestFoldHangsOnItsArguments(t *testing.T) {
	const many = 160
	var first [many]answer
	for k := range many {
		first[k] = ask(k)
	}
	for k := many - 1; k >= 0; k-- {
		if ask(k) != first[k] {
			t.Fatalf("P2: asked again, call %d answers otherwise", k)
		}
	}
	var again [many]answer
	var group sync.WaitGroup
	for k := range many {
		group.Go(func() { again[k] = ask(k) })
	}
	group.Wait()
	if again != first {
		t.Error("P2: asked side by side, a call answers otherwise")
	}
}

func FuzzFold(f *testing.F) {
	f.Add(0, 2, "")
	f.Add(999, 4, turns(raid))
	f.Add(-1, 5, "\xff")
	f.Add(4, 3, turns("1 0 0 0 0|0 0 0 0 0|"))
	f.Fuzz(func(t *testing.T, seed, players int, bytes string) {
		state, hash, e := garrison.Fold(seed, players, bytes)
		if e != api.OK {
			if state != "" || hash != "" {
				t.Errorf("P1: a result beside the error %d", e)
			}
			return
		}
		p := read(t, state)
		if len(hash) != 16 || len(p.gold) != players || len(p.units) > 40 || p.turn > 1000 {
			t.Errorf("P3: %s, %s", hash, p.text())
		}
	})
}
