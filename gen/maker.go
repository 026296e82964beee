package gen

import (
	"reticent/api"
	"reticent/chooser"
)

// maker makes a state by choices, one after the other.
type maker struct {
	*chooser.Chooser
	space api.Space
}

// state has its parts in the order in which they are chosen.
func (m maker) state() api.State {
	var s api.State
	s.Code = chooser.Row(m.Chooser, m.space.Code, m.instructions())
	s.Mem = chooser.Row(m.Chooser, m.space.Mem, m.atom)
	s.Stack = chooser.Row(m.Chooser, m.space.Stack, m.slot)
	s.Pc.V = m.Place()
	s.Pc.L = m.Label()
	return s
}

// instructions makes one at each call.
func (m maker) instructions() func() api.Instr {
	rests := m.rests()
	return func() api.Instr {
		x := api.Instr{Op: m.Op()}
		if rest, ok := rests[x.Op]; ok {
			rest(&x)
		}
		return x
	}
}

// rests tell what is drawn of an instruction behind its Op, by that: of one that has none here nothing is.
func (m maker) rests() map[int]func(x *api.Instr) {
	return map[int]func(x *api.Instr){
		api.IPush: func(x *api.Instr) {
			x.N = m.Number()
			x.L = m.Label()
		},
		api.IBnz:    func(x *api.Instr) { x.N = m.Place() },
		api.ICall:   func(x *api.Instr) { x.N = m.Below(api.MaxArgs + 1) },
		api.IReturn: func(x *api.Instr) { x.N = m.Below(2) },
	}
}

func (m maker) atom() api.Atom {
	var x api.Atom
	x.V = m.Number()
	x.L = m.Label()
	return x
}

func (m maker) slot() api.Slot {
	var x api.Slot
	x.Ret = m.Ret()
	x.V = m.Value(x.Ret)
	x.L = m.Label()
	return x
}
