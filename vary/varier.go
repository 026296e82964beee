package vary

import (
	"reticent/api"
	"reticent/chooser"
	"reticent/lattice"
)

// observer is a label of a lattice.
type observer struct {
	lattice api.Lattice
	label   int
}

// sees is asked for labels of a lattice that is one: so there is no error.
func (o observer) sees(a int) bool {
	there, _ := lattice.Flows(o.lattice, a, o.label)
	return there
}

// varier varies by choices, one after the other, what is not seen: in a space with so many slots at most.
type varier struct {
	*chooser.Chooser
	labels int
	slots  int
	sees   func(a int) bool
}

// state has its parts in the order in which they are chosen. Where the machine is tells how much of its stack counts: of one that is not seen that is what is left, cropped, and all else is made anew.
func (v varier) state(s api.State, cropped []api.Slot) api.State {
	var then api.State
	then.Code = each(s.Code, v.instruction)
	then.Mem = each(s.Mem, v.atom)
	if v.sees(s.Pc.L) {
		then.Stack = each(s.Stack, v.slot)
		then.Pc = s.Pc
		return then
	}
	then.Stack = each(cropped, v.slot)
	then.Stack = append(then.Stack, chooser.Row(v.Chooser, v.slots-len(cropped), v.another)...)
	then.Pc = v.pc(unseen(v.labels, v.sees))
	return then
}

func (v varier) instruction(x api.Instr) api.Instr {
	if x.Op == api.IPush && !v.sees(x.L) {
		x.N = v.Number()
	}
	return x
}

func (v varier) atom(x api.Atom) api.Atom {
	if !v.sees(x.L) {
		x.V = v.Number()
	}
	return x
}

func (v varier) slot(x api.Slot) api.Slot {
	if !v.sees(x.L) {
		x.V = v.Value(x.Ret)
	}
	return x
}

// another is a slot above those that count: none that tells where to go back to and is seen, for what is below that would count, too.
func (v varier) another() api.Slot {
	var x api.Slot
	x.Ret = v.Ret()
	x.L = v.Label()
	x.Ret = x.Ret && !v.sees(x.L)
	x.V = v.Value(x.Ret)
	return x
}

// pc is handed some labels: the one that it had is one of them.
func (v varier) pc(labels []int) api.Atom {
	var x api.Atom
	x.V = v.Place()
	x.L = labels[v.Below(len(labels))]
	return x
}

// each is a list of its own.
func each[T any](row []T, varied func(x T) T) []T {
	var l []T
	for _, x := range row {
		l = append(l, varied(x))
	}
	return l
}

// unseen are the labels, of so many, that are not seen, in order.
func unseen(n int, sees func(a int) bool) []int {
	var some []int
	for a := range n {
		if !sees(a) {
			some = append(some, a)
		}
	}
	return some
}
