package garrison_test

import (
	"fmt"
	"strings"
	"testing"

	"garrison/api"
	"garrison/garrison"
)

var names = []string{"ann", "bob", "cat", "dan"}

func newHost(t *testing.T, rooms int) *garrison.Host {
	t.Helper()
	h, e := garrison.New(rooms)
	if h == nil || e != api.OK {
		t.Fatalf("P4: New(%d): %v, %d", rooms, h, e)
	}
	return h
}

// open makes a match that no one joined yet.
func open(t *testing.T, h *garrison.Host, seed, players int) int {
	t.Helper()
	n, e := h.Create(seed, players)
	if e != api.OK {
		t.Fatalf("P4: Create(%d, %d): %d", seed, players, e)
	}
	return n
}

// going makes a match that goes: of ann, bob and so on.
func going(t *testing.T, h *garrison.Host, seed, players int) int {
	t.Helper()
	n := open(t, h, seed, players)
	for want, name := range names[:players] {
		join(t, h, n, name, want)
	}
	return n
}

// duel: a host with one match of ann and bob, with seed 0, number 0.
func duel(t *testing.T) *garrison.Host {
	t.Helper()
	h := newHost(t, 1)
	going(t, h, 0, 2)
	return h
}

// over: a match that ended with its first turn; the last of its players won.
func over(t *testing.T, h *garrison.Host, players int) int {
	t.Helper()
	n := going(t, h, 0, players)
	for _, name := range names[:players-1] {
		must(t, "Leave", h.Leave(n, name))
	}
	must(t, "Tick", h.Tick(n))
	return n
}

func join(t *testing.T, h *garrison.Host, match int, name string, want int) {
	t.Helper()
	if n, e := h.Join(match, name); n != want || e != api.OK {
		t.Fatalf("P5: Join(%d, %q): %d, %d, want %d", match, name, n, e, want)
	}
}

func must(t *testing.T, what string, e api.Errno) {
	t.Helper()
	if e != api.OK {
		t.Fatalf("%s: %d", what, e)
	}
}

// bytesOf: the bytes of a command, "player unit what x y".
func bytesOf(command string) string {
	return turns(command)[1:]
}

// submit lets ann, bob and so on submit commands as turns tells them ("player unit what x y", a comma between two), each by its player, with the numbers that come next.
func submit(t *testing.T, h *garrison.Host, match int, seqs map[string]int, commands string) {
	t.Helper()
	for _, c := range strings.Split(commands, ",") {
		b := bytesOf(c)
		name := names[b[0]]
		seqs[name]++
		must(t, "P6: Submit "+c, h.Submit(match, name, seqs[name], b))
	}
}

func look(t *testing.T, h *garrison.Host, match int) api.View {
	t.Helper()
	v, e := h.Look(match)
	must(t, "P8: Look", e)
	return v
}

func checkLook(t *testing.T, what string, h *garrison.Host, match int, want api.View) {
	t.Helper()
	if v := look(t, h, match); v != want {
		t.Errorf("P8: %s: %+v, want %+v", what, v, want)
	}
}

// checkPlayed: the match's state, and the hash behind each turn, are those of these turns.
func checkPlayed(t *testing.T, what string, h *garrison.Host, match, seed, players int, list ...string) {
	t.Helper()
	for n := range len(list) + 1 {
		state, hash, e := garrison.Fold(seed, players, strings.Join(list[:n], ""))
		must(t, "P3: Fold", e)
		if got, e := h.Hash(match, n); got != hash || e != api.OK {
			t.Errorf("P8: %s: Hash(%d, %d): %s, %d, want %s", what, match, n, got, e, hash)
		}
		if got, e := h.State(match); n == len(list) && (got != state || e != api.OK) {
			t.Errorf("P7: %s: State(%d): %d, %s, want %s", what, match, e, read(t, got).text(), read(t, state).text())
		}
	}
	if got, e := h.Hash(match, len(list)+1); got != "" || e != api.ErrArg {
		t.Errorf("P8: %s: there are more than %d turns: %s, %d", what, len(list), got, e)
	}
}

// watch begins to watch, and must be given this number.
func watch(t *testing.T, h *garrison.Host, match, want int) {
	t.Helper()
	if n, e := h.Watch(match); n != want || e != api.OK {
		t.Fatalf("P9: Watch(%d): %d, %d, want %d", match, n, e, want)
	}
}

// poll: the watcher is told these turns.
func poll(t *testing.T, h *garrison.Host, watcher, most int, want ...string) {
	t.Helper()
	if got, e := h.Poll(watcher, most); got != strings.Join(want, "") || e != api.OK {
		t.Errorf("P9: Poll(%d, %d): %x, %d, want %x", watcher, most, got, e, want)
	}
}

// snapshot: all that can be seen of a host, but for the turns that its watchers have not seen.
func snapshot(h *garrison.Host) string {
	out := ""
	for watcher := range api.MaxWatchers + 1 {
		if told, e := h.Poll(watcher, 0); e != api.ErrWatch {
			out += fmt.Sprintf("%d: %x %d, ", watcher, told, e)
		}
	}
	for match := 0; ; match++ {
		view, e := h.Look(match)
		if e != api.OK {
			return out
		}
		state, _ := h.State(match)
		out += fmt.Sprintf("%+v %x", view, state)
		for turn := range view.Turn + 1 {
			hash, _ := h.Hash(match, turn)
			out += " " + hash
		}
		out += "\n"
	}
}

// refuses: the calls answer the error, nothing beside it, and change nothing that can be seen.
func refuses(t *testing.T, what string, h *garrison.Host, want api.Errno, calls ...func() (any, api.Errno)) {
	t.Helper()
	before := snapshot(h)
	for k, call := range calls {
		got, e := call()
		if e != want {
			t.Errorf("%s: call %d: %d, want %d", what, k, e, want)
		}
		if got != nil && got != 0 && got != "" && got != (api.View{}) {
			t.Errorf("P1: %s: call %d: beside the error stands %v", what, k, got)
		}
	}
	if after := snapshot(h); after != before {
		t.Errorf("P1: %s: changed with an error:\n%s\n%s", what, before, after)
	}
}

// calls, one by one, in a form that refuses takes

func create(h *garrison.Host, seed, players int) func() (any, api.Errno) {
	return func() (any, api.Errno) { return pair(h.Create(seed, players)) }
}

func joins(h *garrison.Host, match int, name string) func() (any, api.Errno) {
	return func() (any, api.Errno) { return pair(h.Join(match, name)) }
}

func leaves(h *garrison.Host, match int, name string) func() (any, api.Errno) {
	return func() (any, api.Errno) { return nil, h.Leave(match, name) }
}

func pauses(h *garrison.Host, match int, name string, on bool) func() (any, api.Errno) {
	return func() (any, api.Errno) { return nil, h.Pause(match, name, on) }
}

func submits(h *garrison.Host, match int, name string, seq int, bytes string) func() (any, api.Errno) {
	return func() (any, api.Errno) { return nil, h.Submit(match, name, seq, bytes) }
}

func ticks(h *garrison.Host, matches ...int) func() (any, api.Errno) {
	return func() (any, api.Errno) { return nil, h.Tick(matches...) }
}

func looks(h *garrison.Host, match int) func() (any, api.Errno) {
	return func() (any, api.Errno) { return pair(h.Look(match)) }
}

func states(h *garrison.Host, match int) func() (any, api.Errno) {
	return func() (any, api.Errno) { return pair(h.State(match)) }
}

func hashes(h *garrison.Host, match, turn int) func() (any, api.Errno) {
	return func() (any, api.Errno) { return pair(h.Hash(match, turn)) }
}

func watches(h *garrison.Host, match int) func() (any, api.Errno) {
	return func() (any, api.Errno) { return pair(h.Watch(match)) }
}

func polls(h *garrison.Host, watcher, most int) func() (any, api.Errno) {
	return func() (any, api.Errno) { return pair(h.Poll(watcher, most)) }
}

func pair[T any](value T, e api.Errno) (any, api.Errno) { return value, e }
