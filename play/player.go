package play

import (
	"garrison/api"
	"garrison/wire"
)

// player is someone who joined a match.
type player struct {
	number  int
	name    string
	taken   int // seq of the last command that was taken
	waiting []wire.Command
	gaveUp  bool
	leaving bool // it gave up, and no turn says so yet
}

func (p *player) giveUp() api.Errno {
	if p.gaveUp {
		return api.ErrState
	}
	p.gaveUp, p.leaving = true, true
	return api.OK
}

// take takes a command in a match that goes and is not paused.
func (p *player) take(seq int, bytes string) api.Errno {
	if p.gaveUp {
		return api.ErrState
	}
	if seq != p.taken+1 {
		return api.ErrSeq
	}
	command, ok := wire.ReadCommand(bytes)
	if !ok || command.Player != p.number {
		return api.ErrBytes
	}
	if len(p.waiting) == api.MaxQueue {
		return api.ErrFull
	}
	p.taken = seq
	p.waiting = append(p.waiting, command)
	return api.OK
}

// handOver gives what waits to a turn. That the player gives up stands first: its Base does nothing any more, whatever it was told to do.
func (p *player) handOver() []wire.Command {
	var list []wire.Command
	if p.leaving {
		list = append(list, wire.Command{Player: p.number})
	}
	list = append(list, p.waiting...)
	p.leaving, p.waiting = false, nil
	return list
}
