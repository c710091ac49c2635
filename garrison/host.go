package garrison

import (
	"slices"
	"sync"
	"sync/atomic"

	"garrison/api"
	"garrison/play"
	"garrison/rules"
)

// Host hosts matches. Its calls may be made at the same time: a room is filled once, and so is a watcher's place, and a match minds its own mutex.
type Host struct {
	made     counter
	rooms    []atomic.Pointer[play.Match] // by the match's number; nil where there is none yet
	came     counter
	watchers [api.MaxWatchers]atomic.Pointer[play.Watcher] // by the watcher's number, likewise
}

// New makes a host (P4).
func New(rooms int) (*Host, api.Errno) {
	if rooms < 1 || rooms > api.MaxRooms {
		return nil, api.ErrArg
	}
	return &Host{rooms: make([]atomic.Pointer[play.Match], rooms)}, api.OK
}

// Create makes a match (P4).
func (h *Host) Create(seed int, players int) (int, api.Errno) {
	if !rules.MayBegin(seed, players) {
		return 0, api.ErrArg
	}
	number, ok := h.made.next(len(h.rooms))
	if !ok {
		return 0, api.ErrFull
	}
	h.rooms[number].Store(play.New(seed, players))
	return number, api.OK
}

// Join lets a player in (P5).
func (h *Host) Join(match int, name string) (int, api.Errno) {
	m := h.find(match)
	if m == nil {
		return 0, api.ErrMatch
	}
	return m.Join(name)
}

// Leave lets a player go (P5).
func (h *Host) Leave(match int, name string) api.Errno {
	m := h.find(match)
	if m == nil {
		return api.ErrMatch
	}
	return m.Leave(name)
}

// Pause pauses a match, or not (P6).
func (h *Host) Pause(match int, name string, on bool) api.Errno {
	m := h.find(match)
	if m == nil {
		return api.ErrMatch
	}
	return m.Pause(name, on)
}

// Submit takes a command (P6).
func (h *Host) Submit(match int, name string, seq int, bytes string) api.Errno {
	m := h.find(match)
	if m == nil {
		return api.ErrMatch
	}
	return m.Submit(name, seq, bytes)
}

// Tick seals turns (P7).
func (h *Host) Tick(matches ...int) api.Errno {
	chosen, ok := h.choose(matches)
	if !ok {
		return api.ErrArg
	}
	var group sync.WaitGroup
	for _, m := range chosen {
		group.Go(m.Tick)
	}
	group.Wait()
	return api.OK
}

// Look tells how a match is (P8).
func (h *Host) Look(match int) (api.View, api.Errno) {
	m := h.find(match)
	if m == nil {
		return api.View{}, api.ErrMatch
	}
	return m.Look(), api.OK
}

// State tells the bytes of a match's state (P8).
func (h *Host) State(match int) (string, api.Errno) {
	m := h.find(match)
	if m == nil {
		return "", api.ErrMatch
	}
	return m.State(), api.OK
}

// Hash tells the hash of a state (P8).
func (h *Host) Hash(match int, turn int) (string, api.Errno) {
	m := h.find(match)
	if m == nil {
		return "", api.ErrMatch
	}
	return m.Hash(turn)
}

// Watch begins to watch a match (P9).
func (h *Host) Watch(match int) (int, api.Errno) {
	m := h.find(match)
	if m == nil {
		return 0, api.ErrMatch
	}
	number, ok := h.came.next(len(h.watchers))
	if !ok {
		return 0, api.ErrFull
	}
	h.watchers[number].Store(m.Watch())
	return number, api.OK
}

// Poll tells turns (P9).
func (h *Host) Poll(watcher int, most int) (string, api.Errno) {
	w := h.findWatcher(watcher)
	if w == nil {
		return "", api.ErrWatch
	}
	return w.Poll(most)
}

// find: the match of this number, or nil.
func (h *Host) find(match int) *play.Match {
	if match < 0 || match >= len(h.rooms) {
		return nil
	}
	return h.rooms[match].Load()
}

// findWatcher: the watcher of this number, or nil.
func (h *Host) findWatcher(watcher int) *play.Watcher {
	if watcher < 0 || watcher >= len(h.watchers) {
		return nil
	}
	return h.watchers[watcher].Load()
}

// choose finds the matches of these numbers, or all if there are none; false, if a number is no match's or is there twice.
func (h *Host) choose(numbers []int) ([]*play.Match, bool) {
	if len(numbers) == 0 {
		return h.all(), true
	}
	var chosen []*play.Match
	for _, n := range numbers {
		m := h.find(n)
		if m == nil || slices.Contains(chosen, m) {
			return nil, false
		}
		chosen = append(chosen, m)
	}
	return chosen, true
}

func (h *Host) all() []*play.Match {
	var list []*play.Match
	for n := range h.rooms {
		if m := h.rooms[n].Load(); m != nil {
			list = append(list, m)
		}
	}
	return list
}
