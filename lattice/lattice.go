// Package lattice is layer 1: see shared/doc/01-lattice.md.
package lattice

import "reticent/api"

// Check tells why an order of labels is no lattice.
func Check(l api.Lattice) api.Errno {
	switch {
	case !mayBe(l):
		return api.ErrArg
	case !isOrder(l.Up):
		return api.ErrOrder
	case !isLattice(l.Up):
		return api.ErrJoin
	}
	return api.OK
}

// Flows tells whether label a may flow to label b.
func Flows(l api.Lattice, a, b int) (bool, api.Errno) {
	if e := checkLabels(l, a, b); e != api.OK {
		return false, e
	}
	return flows(l.Up, a, b), api.OK
}

// Join is the least label above two.
func Join(l api.Lattice, a, b int) (int, api.Errno) {
	if e := checkLabels(l, a, b); e != api.OK {
		return 0, e
	}
	c, _ := join(l.Up, a, b)
	return c, api.OK
}

// Meet is the greatest label below two.
func Meet(l api.Lattice, a, b int) (int, api.Errno) {
	if e := checkLabels(l, a, b); e != api.OK {
		return 0, e
	}
	c, _ := join(turned(l.Up), a, b)
	return c, api.OK
}

// Bottom is the label that flows to all.
func Bottom(l api.Lattice) (int, api.Errno) {
	if e := Check(l); e != api.OK {
		return 0, e
	}
	a, _ := least(l.Up, all(len(l.Up)))
	return a, api.OK
}

// Top is the label to which all flow.
func Top(l api.Lattice) (int, api.Errno) {
	if e := Check(l); e != api.OK {
		return 0, e
	}
	a, _ := least(turned(l.Up), all(len(l.Up)))
	return a, api.OK
}

// Height is how many steps a label is above the bottom at most.
func Height(l api.Lattice, a int) (int, api.Errno) {
	if e := checkLabels(l, a, a); e != api.OK {
		return 0, e
	}
	return height(l.Up, a), api.OK
}

// checkLabels holds back a label that is none, too: behind it every place is one of the order's.
func checkLabels(l api.Lattice, a, b int) api.Errno {
	if e := Check(l); e != api.OK {
		return e
	}
	if !isLabel(l, a) || !isLabel(l, b) {
		return api.ErrNone
	}
	return api.OK
}

func isLabel(l api.Lattice, a int) bool { return a >= 0 && a < len(l.Up) }

// mayBe asks for the lengths first, for all else goes by places.
func mayBe(l api.Lattice) bool {
	n := len(l.Up)
	if n < 1 || n > api.MaxLabels || len(l.Names) != n {
		return false
	}
	for a := range n {
		if l.Up[a]&^all(n) != 0 || !isName(l.Names[a]) {
			return false
		}
	}
	for a, b := range pairs(n) {
		if a != b && l.Names[a] == l.Names[b] {
			return false
		}
	}
	return true
}

func isName(s string) bool {
	if len(s) < 1 || len(s) > api.MaxName {
		return false
	}
	for i := range len(s) {
		if s[i] < 'a' || s[i] > 'z' {
			return false
		}
	}
	return true
}

// isOrder has no third label to go through: what b flows to, all at once, must be among what a flows to.
func isOrder(up []uint32) bool {
	for a, b := range pairs(len(up)) {
		switch there := flows(up, a, b); {
		case a == b && !there:
			return false
		case a != b && there && flows(up, b, a):
			return false
		case there && up[b]&^up[a] != 0:
			return false
		}
	}
	return true
}

func isLattice(up []uint32) bool {
	down := turned(up)
	for a, b := range pairs(len(up)) {
		if _, ok := join(up, a, b); !ok {
			return false
		}
		if _, ok := join(down, a, b); !ok {
			return false
		}
	}
	return true
}

// pairs are each two labels of n, a label and itself, and both ways round, too.
func pairs(n int) func(yield func(a, b int) bool) {
	return func(yield func(a, b int) bool) {
		for a := range n {
			for b := range n {
				if !yield(a, b) {
					return
				}
			}
		}
	}
}

func flows(up []uint32, a, b int) bool { return up[a]>>b&1 == 1 }

func all(n int) uint32 { return 1<<n - 1 }

// turned is the order upside down, so that what is below needs no rule of its own.
func turned(up []uint32) []uint32 {
	down := make([]uint32, len(up))
	for a, b := range pairs(len(up)) {
		if flows(up, a, b) {
			down[b] |= 1 << a
		}
	}
	return down
}

// join is the meet, if the order is upside down.
func join(up []uint32, a, b int) (int, bool) { return least(up, up[a]&up[b]) }

// least is the one of some labels that flows to all of them; there may be none.
func least(up []uint32, some uint32) (int, bool) {
	for a := range up {
		if some>>a&1 == 1 && some&^up[a] == 0 {
			return a, true
		}
	}
	return 0, false
}

// height ends, because in an order nothing leads back to where it came from.
func height(up []uint32, a int) int {
	most := 0
	for b := range up {
		if b != a && flows(up, b, a) {
			most = max(most, height(up, b)+1)
		}
	}
	return most
}
