package rules

import "garrison/api"

type cell struct {
	x, y int
}

func (c cell) onField() bool {
	return c.x >= 0 && c.x < api.Side && c.y >= 0 && c.y < api.Side
}

func (c cell) neighbours(d cell) bool {
	return c != d && near(c.x, d.x) && near(c.y, d.y)
}

func near(a, b int) bool {
	return a-b <= 1 && b-a <= 1
}
