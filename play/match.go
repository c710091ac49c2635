// Package play: a match with its players, from the first that joins to the end.
package play

import (
	"slices"
	"strings"
	"sync"

	"garrison/api"
	"garrison/rules"
	"garrison/wire"
)

// Match is a match with its players. Each of its methods holds its mutex, so that any number of them may be called at once.
type Match struct {
	sync.Mutex
	state    *rules.State
	hashes   []string  // of the states, by turn
	seats    []*player // by number; nil where no one is there
	paused   bool
	watchers []*Watcher
}

// New makes a match that is open, of a seed and so many players as may be.
func New(seed, players int) *Match {
	m := &Match{state: rules.Begin(seed, players), seats: make([]*player, players)}
	m.keepHash()
	return m
}

// Join lets a player in, and tells its number.
func (m *Match) Join(name string) (int, api.Errno) {
	m.Lock()
	defer m.Unlock()
	if name == "" || len(name) > api.MaxName || m.named(name) != nil {
		return 0, api.ErrName
	}
	number := m.freeSeat()
	if number < 0 {
		return 0, api.ErrState
	}
	// a copy, for the name may be a piece of a text that is not to be kept
	m.seats[number] = &player{number: number, name: strings.Clone(name)}
	return number, api.OK
}

// Leave lets a player go: from an open match at once, from one that goes by giving up.
func (m *Match) Leave(name string) api.Errno {
	m.Lock()
	defer m.Unlock()
	p := m.named(name)
	if p == nil {
		return api.ErrName
	}
	switch m.phase() {
	case api.Open:
		m.seats[p.number] = nil
		return api.OK
	case api.Goes:
		return p.giveUp()
	}
	return api.ErrState
}

// Pause pauses the match, or lets it go on.
func (m *Match) Pause(name string, on bool) api.Errno {
	m.Lock()
	defer m.Unlock()
	if m.named(name) == nil {
		return api.ErrName
	}
	if m.phase() != api.Goes {
		return api.ErrState
	}
	m.paused = on
	return api.OK
}

// Submit takes a player's command.
func (m *Match) Submit(name string, seq int, bytes string) api.Errno {
	m.Lock()
	defer m.Unlock()
	p := m.named(name)
	if p == nil {
		return api.ErrName
	}
	if m.phase() != api.Goes || m.paused {
		return api.ErrState
	}
	return p.take(seq, bytes)
}

// Tick seals a turn and does it, if it is time for one.
func (m *Match) Tick() {
	m.Lock()
	defer m.Unlock()
	if m.phase() != api.Goes || m.paused || m.state.Turn() >= api.MaxTurns {
		return
	}
	turn := m.seal()
	m.tell(wire.WriteTurn(turn...))
	m.state.Do(turn)
	m.keepHash()
}

// Look tells how the match is.
func (m *Match) Look() api.View {
	m.Lock()
	defer m.Unlock()
	view := api.View{Phase: m.phase(), Paused: m.paused, Turn: m.state.Turn(), Winner: m.state.Winner()}
	for _, p := range m.seats {
		if p != nil {
			view.Players++
			view.Waiting += len(p.waiting)
		}
	}
	return view
}

// State tells the bytes of the match's state.
func (m *Match) State() string {
	m.Lock()
	defer m.Unlock()
	return m.state.Bytes()
}

// Hash tells the hash of the state behind so many turns.
func (m *Match) Hash(turn int) (string, api.Errno) {
	m.Lock()
	defer m.Unlock()
	if turn < 0 || turn >= len(m.hashes) {
		return "", api.ErrArg
	}
	return m.hashes[turn], api.OK
}

// Watch lets someone watch the turns that are sealed from now on.
func (m *Match) Watch() *Watcher {
	m.Lock()
	defer m.Unlock()
	w := &Watcher{match: m}
	m.watchers = append(m.watchers, w)
	return w
}

func (m *Match) phase() int {
	switch {
	case m.freeSeat() >= 0:
		return api.Open
	case m.state.Over():
		return api.Over
	}
	return api.Goes
}

// freeSeat: the least number that is free, or -1.
func (m *Match) freeSeat() int {
	return slices.Index(m.seats, nil)
}

func (m *Match) named(name string) *player {
	for _, p := range m.seats {
		if p != nil && p.name == name {
			return p
		}
	}
	return nil
}

func (m *Match) seal() []wire.Command {
	var turn []wire.Command
	for _, p := range m.seats {
		turn = append(turn, p.handOver()...)
	}
	return turn
}

// tell lets all who watch have a sealed turn; no one else will ask for it, so the match keeps none.
func (m *Match) tell(turn string) {
	for _, w := range m.watchers {
		w.unseen = append(w.unseen, turn)
	}
}

func (m *Match) keepHash() {
	m.hashes = append(m.hashes, wire.Hash(m.state.Bytes()))
}
