// Package chooser is how choices are taken one after the other, for the layers that make things of them (gen, vary). It is no layer of its own.
package chooser

import (
	"reticent/api"
	"reticent/draw"
	"reticent/pick"
)

// Chooser chooses for a space, of so many labels. Behind an error nothing is chosen any more, so that it need be asked for but once, in the end.
type Chooser struct {
	labels int
	space  api.Space
	draws  api.Draws
	e      api.Errno
}

// New asks for no choices of the draws, which copies them, or tells that they may not be, even if nothing is chosen.
func New(l api.Lattice, sp api.Space, d api.Draws) *Chooser {
	draws, _, e := draw.Many(d, nil)
	return &Chooser{labels: len(l.Up), space: sp, draws: draws, e: e}
}

// Draws are those behind all that was chosen, or the first error.
func (c *Chooser) Draws() (api.Draws, api.Errno) { return c.draws, c.e }

// Row is of as many things as is chosen first.
func Row[T any](c *Chooser, most int, one func() T) []T {
	var l []T
	for range c.Below(most + 1) {
		l = append(l, one())
	}
	return l
}

// Below is a choice below a bound.
func (c *Chooser) Below(bound int) int {
	return c.choose(func(d api.Draws) (api.Draws, int, api.Errno) { return draw.Take(d, bound) })
}

// Number is one of the space's numbers.
func (c *Chooser) Number() int {
	return c.choose(func(d api.Draws) (api.Draws, int, api.Errno) { return pick.Signed(d, c.space.Val) })
}

// Op is one of the instructions, as they weigh.
func (c *Chooser) Op() int {
	return c.choose(func(d api.Draws) (api.Draws, int, api.Errno) { return pick.Weighted(d, c.space.Weights) })
}

// Label is any label.
func (c *Chooser) Label() int { return c.Below(c.labels) }

// Place may be the one behind the longest program, too.
func (c *Chooser) Place() int { return c.Below(api.MaxCode + 1) }

// Ret tells whether a slot tells where to go back to.
func (c *Chooser) Ret() bool { return c.Below(2) == 1 }

// Value is a slot's V, by whether that tells where to go back to.
func (c *Chooser) Value(ret bool) int {
	if ret {
		return c.Place()
	}
	return c.Number()
}

func (c *Chooser) choose(by func(d api.Draws) (api.Draws, int, api.Errno)) int {
	if c.e != api.OK {
		return 0
	}
	var n int
	c.draws, n, c.e = by(c.draws)
	return n
}
