// Package garrison: matches of small armies, turn by turn, that anyone can replay: see DOC.md.
package garrison

import (
	"garrison/api"
	"garrison/rules"
	"garrison/wire"
)

// Fold works turns out (P3).
func Fold(seed int, players int, turns string) (string, string, api.Errno) {
	if !rules.MayBegin(seed, players) {
		return "", "", api.ErrArg
	}
	list, ok := wire.ReadTurns(turns)
	if !ok {
		return "", "", api.ErrBytes
	}
	state := rules.Begin(seed, players)
	for _, turn := range list {
		if state.Over() {
			return "", "", api.ErrOver
		}
		state.Do(turn)
	}
	bytes := state.Bytes()
	return bytes, wire.Hash(bytes), api.OK
}
