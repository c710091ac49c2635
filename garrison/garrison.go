// Package garrison: matches of small armies, turn by turn, that anyone can replay: see DOC.md.
package garrison

import (
	"garrison/api"
	"garrison/rules"
	"garrison/wire"
)

// Host hosts matches.
type Host struct{}

// Fold works turns out (P3).
func Fold(seed int, players int, turns string) (string, string, api.Errno) {
	if !rules.MayBegin(seed, players) {
		return "", "", api.ErrArg
	}
	list, ok := wire.ReadTurns(turns)
	if !ok {
		return "", "", api.ErrBytes
	}
	state := rules.Begin(seed, players)
	for _, turn := range list {
		if state.Over() {
			return "", "", api.ErrOver
		}
		state.Do(turn)
	}
	bytes := state.Bytes()
	return bytes, wire.Hash(bytes), api.OK
}

// New makes a host (P4).
func New(rooms int) (*Host, api.Errno) { return nil, api.OK }

// Create makes a match (P4).
func (h *Host) Create(seed int, players int) (int, api.Errno) { return 0, api.OK }

// Join lets a player in (P5).
func (h *Host) Join(match int, name string) (int, api.Errno) { return 0, api.OK }

// Leave lets a player go (P5).
func (h *Host) Leave(match int, name string) api.Errno { return api.OK }

// Pause pauses a match, or not (P6).
func (h *Host) Pause(match int, name string, on bool) api.Errno { return api.OK }

// Submit takes a command (P6).
func (h *Host) Submit(match int, name string, seq int, bytes string) api.Errno { return api.OK }

// Tick seals turns (P7).
func (h *Host) Tick(matches ...int) api.Errno { return api.OK }

// Look tells how a match is (P8).
func (h *Host) Look(match int) (api.View, api.Errno) { return api.View{}, api.OK }

// State tells the bytes of a match's state (P8).
func (h *Host) State(match int) (string, api.Errno) { return "", api.OK }

// Hash tells the hash of a state (P8).
func (h *Host) Hash(match int, turn int) (string, api.Errno) { return "", api.OK }

// Watch begins to watch a match (P9).
func (h *Host) Watch(match int) (int, api.Errno) { return 0, api.OK }

// Poll tells turns (P9).
func (h *Host) Poll(watcher int, most int) (string, api.Errno) { return "", api.OK }
