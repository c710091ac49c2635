package garrison_test

import (
	"runtime"
	"slices"
	"strings"
	"sync"
	"testing"

	"garrison/api"
	"garrison/garrison"
)

// checkNumbers makes half as many calls again as there are numbers, all at once: each number is given out once, and the other calls are answered ErrFull.
func checkNumbers(t *testing.T, what string, bound int, call func(k int) (int, api.Errno)) {
	t.Helper()
	numbers := make([]int, bound+bound/2)
	var group sync.WaitGroup
	for k := range numbers {
		group.Go(func() {
			n, e := call(k)
			if e == api.ErrFull {
				n = bound
			}
			numbers[k] = n
		})
	}
	group.Wait()
	slices.Sort(numbers)
	for k, n := range numbers {
		if n != min(k, bound) {
			t.Fatalf("%s: the numbers that were given out: %v", what, numbers)
		}
	}
}

// TestCreateSideBySide: no match's number is given out twice, and none is left out.
func TestCreateSideBySide(t *testing.T) {
	for range 50 {
		h := newHost(t, 8)
		checkNumbers(t, "P4", 8, func(k int) (int, api.Errno) { return h.Create(k, 2) })
	}
}

// TestWatchSideBySide: no watcher's number is given out twice, and none is left out.
func TestWatchSideBySide(t *testing.T) {
	for range 50 {
		h := newHost(t, 3)
		for seed := range 3 {
			going(t, h, seed, 2)
		}
		checkNumbers(t, "P9", 20, func(k int) (int, api.Errno) { return h.Watch(k % 3) })
		must(t, "P7: Tick", h.Tick())
		for watcher := range 20 {
			poll(t, h, watcher, 9, "\x00")
		}
	}
}

// TestMatchesSideBySide: what befalls a match hangs on its own calls, whatever is done to others at the same time.
func TestMatchesSideBySide(t *testing.T) {
	const rounds = 60
	h := newHost(t, 8)
	for seed := range 8 {
		going(t, h, seed, 2)
	}
	var played [8][]string
	var group sync.WaitGroup
	for m := range 8 {
		group.Go(func() {
			for seq := 1; seq <= rounds; seq++ {
				c := []string{"0 2 1 2 2", "0 2 3 2 1", "0 2 1 1 1", "0 1 4 1 0"}[(seq+m)%4]
				h.Submit(m, "ann", seq, bytesOf(c))
				h.Tick(m)
				h.Look(m)
				h.State((m + 1) % 8)
				h.Hash((m+2)%8, seq)
				played[m] = append(played[m], turns(c))
			}
		})
	}
	group.Wait()
	for m := range 8 {
		checkPlayed(t, "side by side", h, m, m, 2, played[m]...)
	}
}

// TestTicksSideBySide: each tick seals one turn of each match, and each command stands in one turn.
func TestTicksSideBySide(t *testing.T) {
	h := newHost(t, 8)
	for seed := range 8 {
		going(t, h, seed, 4)
	}
	must(t, "Pause", h.Pause(7, "ann", true))
	taken := make([]int, len(names))
	var group sync.WaitGroup
	for range 10 {
		group.Go(func() {
			for range 10 {
				h.Tick()
				h.Tick(3, 1)
			}
		})
	}
	for p, name := range names {
		group.Go(func() { taken[p] = submitAll(h, name, p) })
	}
	group.Wait()
	for m, want := range []int{100, 200, 100, 200, 100, 100, 100, 0} {
		if v := look(t, h, m); v.Turn != want {
			t.Errorf("P7: match %d has turn %d, want %d", m, v.Turn, want)
		}
	}
	h.Tick()
	for p, name := range names {
		if e := h.Submit(0, name, taken[p]+1, string([]byte{byte(p), 9, 9, 9, 9})); e != api.OK {
			t.Errorf("P6: %s: %d commands were taken, and the next is answered %d", name, taken[p], e)
		}
	}
	checkLook(t, "side by side", h, 0, api.View{Phase: api.Goes, Players: 4, Turn: 101, Waiting: 4, Winner: -1})
}

// TestPollSideBySide: while turns are sealed, each is told to a watcher once, however many ask for it; who asks alone is told them in their order.
func TestPollSideBySide(t *testing.T) {
	const rounds = 200
	h := duel(t)
	watch(t, h, 0, 0)
	watch(t, h, 0, 1)
	var group sync.WaitGroup
	group.Go(func() {
		for seq := 1; seq <= rounds; seq++ {
			h.Submit(0, "ann", seq, string([]byte{0, byte(seq), 9, 9, 9}))
			h.Tick()
		}
		h.Leave(0, "ann")
		h.Tick()
	})
	var shared [4][]string
	for k := range shared {
		group.Go(func() { shared[k] = pollToTheEnd(h, 0, 1) })
	}
	alone := ""
	group.Go(func() { alone = strings.Join(pollToTheEnd(h, 1, 3), "") })
	group.Wait()
	var want []string
	for seq := 1; seq <= rounds; seq++ {
		want = append(want, string([]byte{1, 0, byte(seq), 9, 9, 9}))
	}
	want = append(want, turns("0 0 0 0 0"))
	if alone != strings.Join(want, "") {
		t.Errorf("P9: told to one who asks alone: %x", alone)
	}
	told := slices.Sorted(slices.Values(slices.Concat(shared[:]...)))
	if slices.Sort(want); !slices.Equal(told, want) {
		t.Errorf("P9: told to four who ask side by side: %x", told)
	}
}

// pollToTheEnd polls until there is nothing more, and answers all that was told.
func pollToTheEnd(h *garrison.Host, watcher, most int) []string {
	var told []string
	for {
		text, e := h.Poll(watcher, most)
		if e != api.OK {
			return told
		}
		if text == "" {
			runtime.Gosched()
			continue
		}
		told = append(told, text)
	}
}

// submitAll submits commands that do nothing, and tells how many were taken.
func submitAll(h *garrison.Host, name string, player int) int {
	taken := 0
	for range 500 {
		if h.Submit(0, name, taken+1, string([]byte{byte(player), 0, 9, 0, 0})) == api.OK {
			taken++
		}
	}
	return taken
}

// TestAnswersHangOnCalls: the same calls on two hosts are answered alike.
func TestAnswersHangOnCalls(t *testing.T) {
	var first string
	for k := range 5 {
		h := newHost(t, 4)
		for seed := range 4 {
			going(t, h, seed, 2+seed%3)
		}
		for watcher := range 4 {
			watch(t, h, 3-watcher, watcher)
		}
		submit(t, h, 1, map[string]int{}, "2 6 1 5 2,0 2 1 2 2,1 4 1 5 5")
		must(t, "Leave", h.Leave(2, "dan"))
		must(t, "Tick", h.Tick())
		must(t, "Tick", h.Tick(3, 0))
		s := snapshot(h)
		for watcher := range 4 {
			told, e := h.Poll(watcher, 2)
			must(t, "Poll", e)
			s += told
		}
		if k == 0 {
			first = s
		} else if s != first || strings.Count(s, "\n") != 4 {
			t.Fatalf("P2: the same calls are answered otherwise:\n%s\n%s", first, s)
		}
	}
}
