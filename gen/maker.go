package gen

import (
	"reticent/api"
	"reticent/draw"
	"reticent/pick"
)

// maker makes a state by choices, one after the other. Behind an error nothing is chosen any more, so that it need be asked for but once, in the end; draws that may not be are one at the first choice.
type maker struct {
	labels int
	space  api.Space
	draws  api.Draws
	e      api.Errno
}

// state has its parts in the order in which they are chosen.
func (m *maker) state() api.State {
	var s api.State
	s.Code = row(m, m.space.Code, m.instructions())
	s.Mem = row(m, m.space.Mem, m.atom)
	s.Stack = row(m, m.space.Stack, m.slot)
	s.Pc.V = m.place()
	s.Pc.L = m.label()
	return s
}

// row is of as many as is chosen first.
func row[T any](m *maker, most int, one func() T) []T {
	var l []T
	for range m.below(most + 1) {
		l = append(l, one())
	}
	return l
}

// instructions makes one at each call.
func (m *maker) instructions() func() api.Instr {
	rests := m.rests()
	return func() api.Instr {
		x := api.Instr{Op: m.op()}
		if rest, ok := rests[x.Op]; ok {
			rest(&x)
		}
		return x
	}
}

// rests tell what is drawn of an instruction behind its Op, by that: of one that has none here nothing is.
func (m *maker) rests() map[int]func(x *api.Instr) {
	return map[int]func(x *api.Instr){
		api.IPush: func(x *api.Instr) {
			x.N = m.number()
			x.L = m.label()
		},
		api.IBnz:    func(x *api.Instr) { x.N = m.place() },
		api.ICall:   func(x *api.Instr) { x.N = m.below(api.MaxArgs + 1) },
		api.IReturn: func(x *api.Instr) { x.N = m.below(2) },
	}
}

func (m *maker) atom() api.Atom {
	var x api.Atom
	x.V = m.number()
	x.L = m.label()
	return x
}

func (m *maker) slot() api.Slot {
	var x api.Slot
	x.Ret = m.below(2) == 1
	if x.Ret {
		x.V = m.place()
	} else {
		x.V = m.number()
	}
	x.L = m.label()
	return x
}

func (m *maker) label() int { return m.below(m.labels) }

// place may be the one behind the longest program, too.
func (m *maker) place() int { return m.below(api.MaxCode + 1) }

func (m *maker) below(bound int) int {
	return m.choose(func(d api.Draws) (api.Draws, int, api.Errno) { return draw.Take(d, bound) })
}

func (m *maker) number() int {
	return m.choose(func(d api.Draws) (api.Draws, int, api.Errno) { return pick.Signed(d, m.space.Val) })
}

func (m *maker) op() int {
	return m.choose(func(d api.Draws) (api.Draws, int, api.Errno) { return pick.Weighted(d, m.space.Weights) })
}

func (m *maker) choose(by func(d api.Draws) (api.Draws, int, api.Errno)) int {
	if m.e != api.OK {
		return 0
	}
	var n int
	m.draws, n, m.e = by(m.draws)
	return n
}
