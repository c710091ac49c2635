package rules

import (
	"garrison/api"
	"garrison/wire"
)

// Do does a turn.
func (s *State) Do(turn []wire.Command) {
	for _, u := range s.units {
		u.common().acted = false
	}
	for _, c := range turn {
		s.obey(c)
	}
	s.turn++
	in := s.playersIn()
	s.drop(func(b *body) bool { return !in[b.owner] })
}

func (s *State) obey(c wire.Command) {
	if c.GivesUp() {
		s.giveUp(c.Player)
		return
	}
	u := s.numbered(c.Unit)
	if u == nil {
		return
	}
	b, at := u.common(), cell{c.X, c.Y}
	if b.owner == c.Player && !b.acted && at.onField() && b.at.neighbours(at) {
		b.acted = s.act(u, c.What, at)
	}
}

// giveUp takes the Base alone: the player's other units obey until the turn ends.
func (s *State) giveUp(player int) {
	s.drop(func(b *body) bool { return b.owner == player && b.kind == api.Base })
}

func (s *State) act(u unit, what int, at cell) bool {
	switch what {
	case api.Move:
		return u.move(s, at)
	case api.Hit:
		return u.hit(s, at)
	case api.Dig:
		return u.dig(s, at)
	case api.Hire:
		return u.hire(s, at)
	case api.Train:
		return u.train(s, at)
	}
	return false
}
