package garrison_test

import "testing"

// crowd plays a match of four in which all dig and hire as they can, until there are 40 units and a player could hire one more; it answers the bytes of the turns, and the command that hires.
func crowd(t *testing.T) (string, order) {
	t.Helper()
	bytes, d := "", dice(7)
	for range 400 {
		p := fold(t, 0, 4, bytes)
		if len(p.units) > 40 {
			t.Fatalf("P3: there are %d units", len(p.units))
		}
		if o, ok := wish(p); ok && len(p.units) == 40 {
			return bytes, o
		}
		bytes += turn(gather(p, &d)...)
	}
	t.Fatal("the match of four never came to 40 units")
	return "", order{}
}

// wish: a hire for which there is gold and room.
func wish(p picture) (order, bool) {
	for _, u := range p.units {
		if u.kind != 1 || p.gold[u.owner] < 2 {
			continue
		}
		for i := range 9 {
			if x, y := u.x+i%3-1, u.y+i/3-1; p.free(x, y) {
				return order{u.owner, u.number, 4, x, y}, true
			}
		}
	}
	return order{}, false
}

// gather lets each Base hire and each Worker dig, or go about, as far as 36 commands go.
func gather(p picture, d *dice) []order {
	var orders []order
	for _, u := range p.units {
		x, y := u.x+d.below(3)-1, u.y+d.below(3)-1
		what := 1
		if u.kind == 1 {
			what = 4
		}
		for i := range 9 {
			nx, ny := u.x+i%3-1, u.y+i/3-1
			inside := nx >= 0 && nx < 8 && ny >= 0 && ny < 8
			if u.kind == 1 && p.free(nx, ny) {
				x, y = nx, ny
			} else if u.kind == 2 && inside && i != 4 && p.ore[ny][nx] > 0 {
				x, y, what = nx, ny, 3
			}
		}
		orders = append(orders, order{u.owner, u.number, what, x, y})
	}
	for len(orders) > 36 {
		drop := d.below(len(orders))
		orders = append(orders[:drop], orders[drop+1:]...)
	}
	return orders
}

func TestFortyUnits(t *testing.T) {
	bytes, hire := crowd(t)
	full := fold(t, 0, 4, bytes)
	refused := fold(t, 0, 4, bytes+turn(hire))
	if len(refused.units) != 40 || refused.last != full.last || refused.gold[hire[0]] != full.gold[hire[0]] {
		t.Errorf("P3: with 40 units a Base hired: %s", refused.text())
	}
	quits := order{(hire[0] + 1) % 4}
	made := fold(t, 0, 4, bytes+turn(quits, hire))
	if u, ok := made.find(full.last + 1); !ok || u.owner != hire[0] || u.kind != 2 || made.gold[hire[0]] != full.gold[hire[0]]-2 {
		t.Errorf("P3: with 39 units a Base did not hire: %s", made.text())
	}
	late := fold(t, 0, 4, bytes+turn(hire, quits))
	if late.last != full.last {
		t.Errorf("P3: a Base hired ahead of the unit that goes: %s", late.text())
	}
}
