// Package rules: the state of a match, and what a turn makes of it.
package rules

import (
	"slices"

	"garrison/api"
	"garrison/wire"
)

const (
	firstGold = 2
	oreCycle  = 7
	oreLess   = 3
)

type corner struct {
	base, worker cell
}

// corners: where each player begins.
var corners = [api.MaxPlayers]corner{
	{cell{0, 0}, cell{1, 1}},
	{cell{7, 7}, cell{6, 6}},
	{cell{7, 0}, cell{6, 1}},
	{cell{0, 7}, cell{1, 6}},
}

// State is a match behind some turns.
type State struct {
	turn, last int
	gold       []int                   // by player
	ore        [api.Side][api.Side]int // by y, then x
	units      []unit                  // by rising numbers
}

// MayBegin: a match may have this seed and so many players.
func MayBegin(seed, players int) bool {
	return seed >= 0 && seed <= api.MaxSeed && players >= api.MinPlayers && players <= api.MaxPlayers
}

// Begin makes the state ahead of all turns, of a match that may begin.
func Begin(seed, players int) *State {
	s := &State{}
	for y := range api.Side {
		for x := range api.Side {
			s.ore[y][x] = firstOre(seed, x, y)
		}
	}
	for p := range players {
		s.gold = append(s.gold, firstGold)
		s.place(p, corners[p].base, newBase)
		s.place(p, corners[p].worker, newWorker)
	}
	return s
}

func firstOre(seed, x, y int) int {
	return max(0, (seed+3*x+5*y+x*y)%oreCycle-oreLess)
}

// place lets a unit come. It counts as having acted: no new unit does a command in its own turn, and each turn begins by clearing this.
func (s *State) place(owner int, at cell, kind func(body) unit) {
	s.last++
	s.units = append(s.units, kind(body{number: s.last, owner: owner, at: at, acted: true}))
}

func (s *State) buy(owner, price int, at cell, kind func(body) unit) bool {
	if s.unitOn(at) != nil || s.gold[owner] < price || len(s.units) >= api.MaxUnits {
		return false
	}
	s.gold[owner] -= price
	s.place(owner, at, kind)
	return true
}

func (s *State) unitOn(at cell) *body {
	for _, u := range s.units {
		if b := u.common(); b.at == at {
			return b
		}
	}
	return nil
}

func (s *State) numbered(number int) unit {
	for _, u := range s.units {
		if u.common().number == number {
			return u
		}
	}
	return nil
}

func (s *State) drop(gone func(*body) bool) {
	s.units = slices.DeleteFunc(s.units, func(u unit) bool { return gone(u.common()) })
}

func (s *State) buryDead() {
	s.drop(func(b *body) bool { return b.health <= 0 })
}

// Over: the match is over.
func (s *State) Over() bool {
	count := 0
	for _, in := range s.playersIn() {
		if in {
			count++
		}
	}
	return count <= 1
}

// Turn tells how many turns were done.
func (s *State) Turn() int {
	return s.turn
}

// Winner tells who is in when the match is over, or -1.
func (s *State) Winner() int {
	if !s.Over() {
		return -1
	}
	in := s.playersIn()
	return slices.Index(in[:], true)
}

// playersIn tells of each player whether it has its Base yet.
func (s *State) playersIn() [api.MaxPlayers]bool {
	var in [api.MaxPlayers]bool
	for _, u := range s.units {
		if b := u.common(); b.kind == api.Base {
			in[b.owner] = true
		}
	}
	return in
}

// Bytes tells the bytes of the state.
func (s *State) Bytes() string {
	var w wire.Writer
	w.Two(s.turn, s.last)
	w.One(len(s.gold))
	w.Two(s.gold...)
	for _, row := range s.ore {
		w.One(row[:]...)
	}
	w.One(len(s.units))
	for _, u := range s.units {
		b := u.common()
		w.Two(b.number)
		w.One(b.owner, b.kind, b.at.x, b.at.y, b.health)
	}
	return w.Text()
}
