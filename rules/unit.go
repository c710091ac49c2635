package rules

import "garrison/api"

const (
	baseHealth    = 20
	workerHealth  = 5
	soldierHealth = 8

	baseBlow    = 2
	workerBlow  = 1
	soldierBlow = 3

	workerPrice  = 2
	soldierPrice = 3
)

// unit is a base, a worker or a soldier. What it is to do it answers with whether it did: only what is done counts as its command of the turn.
type unit interface {
	common() *body
	move(s *State, to cell) bool
	hit(s *State, at cell) bool
	dig(s *State, at cell) bool
	hire(s *State, at cell) bool
	train(s *State, at cell) bool
}

// body is common to all kinds of units. Its methods are what most kinds do; a kind that does otherwise hides them.
type body struct {
	number, owner, kind int
	at                  cell
	health              int
	acted               bool
}

type base struct{ body }

type worker struct{ body }

type soldier struct{ body }

func newBase(b body) unit {
	b.kind, b.health = api.Base, baseHealth
	return &base{b}
}

func newWorker(b body) unit {
	b.kind, b.health = api.Worker, workerHealth
	return &worker{b}
}

func newSoldier(b body) unit {
	b.kind, b.health = api.Soldier, soldierHealth
	return &soldier{b}
}

func (b *body) common() *body { return b }

func (b *body) move(s *State, to cell) bool {
	if s.unitOn(to) != nil {
		return false
	}
	b.at = to
	return true
}

func (b *body) dig(*State, cell) bool { return false }

func (b *body) hire(*State, cell) bool { return false }

func (b *body) train(*State, cell) bool { return false }

func (b *body) strike(s *State, at cell, blow int) bool {
	other := s.unitOn(at)
	if other == nil || other.owner == b.owner {
		return false
	}
	other.health -= blow
	s.buryDead()
	return true
}

func (u *base) move(*State, cell) bool { return false }

func (u *base) hit(s *State, at cell) bool { return u.strike(s, at, baseBlow) }

func (u *base) hire(s *State, at cell) bool { return s.buy(u.owner, workerPrice, at, newWorker) }

func (u *base) train(s *State, at cell) bool { return s.buy(u.owner, soldierPrice, at, newSoldier) }

func (u *worker) hit(s *State, at cell) bool { return u.strike(s, at, workerBlow) }

func (u *worker) dig(s *State, at cell) bool {
	ore := &s.ore[at.y][at.x]
	if *ore == 0 {
		return false
	}
	*ore--
	s.gold[u.owner]++
	return true
}

func (u *soldier) hit(s *State, at cell) bool { return u.strike(s, at, soldierBlow) }
