package run_test

import (
	"math/rand"
	"slices"
	"testing"

	"reticent/api"
	"reticent/run"
	"reticent/state"
	"reticent/step"
	"reticent/table"
)

// slowRun is what the document's words say, of arguments that may be: a run of some fuel is the state, and, behind a step that is done, a run of 1 less. The tests hold the package against it.
func slowRun(l api.Lattice, rules api.Table, s api.State, fuel int) ([]api.State, int) {
	if fuel == 0 {
		return []api.State{s}, api.SStep
	}
	then, came, _ := step.One(l, rules, s)
	if came != api.SStep {
		return []api.State{s}, came
	}
	rest, came := slowRun(l, rules, then, fuel-1)
	return append([]api.State{s}, rest...), came
}

// TestSmallPrograms has all programs of up to three of these instructions, from each label of the machine on.
func TestSmallPrograms(t *testing.T) {
	l := made(t, "chain", 2)
	some := []api.Instr{{Op: api.INoop}, {Op: api.IPush, N: 1}, {Op: api.IPush, L: 1}, {Op: api.IStore}, {Op: api.IJump}, {Op: api.IBnz}, {Op: api.ICall}, {Op: api.IReturn}, {Op: api.IOutput}, {Op: api.IHalt}}
	count := map[int]int{}
	var all func(code []api.Instr, more int)
	all = func(code []api.Instr, more int) {
		for a := range l.Up {
			s := api.State{Pc: api.Atom{L: a}, Code: code, Mem: []api.Atom{{V: 1}}, Stack: []api.Slot{{Ret: true, V: 1}, {V: 1}}}
			for _, fuel := range []int{0, 1, 2, 4, 40} {
				want, what := slowRun(l, table.Usual(), s, fuel)
				goes(t, l, table.Usual(), s, fuel, want, what)
				count[what]++
			}
		}
		if more == 0 {
			return
		}
		for _, x := range some {
			all(append(slices.Clone(code), x), more-1)
		}
	}
	all(nil, 3)
	for came := range 4 {
		if count[came] < 50 {
			t.Error(count)
		}
	}
}

// maker makes things by chance, that is the same each time.
type maker struct{ *rand.Rand }

// table is the usual one, with some rows' rules another instruction's that has as many labels, and some instructions forbidden to some labels.
func (m maker) table() api.Table {
	x, usual := table.Usual(), table.Usual()
	for op := range api.IAll {
		other := m.Intn(api.IAll)
		a, _ := table.Arity(op)
		b, _ := table.Arity(other)
		if a == b && m.Intn(2) == 0 {
			x.Rows[op] = usual.Rows[other]
		}
		if m.Intn(6) == 0 {
			x.Rows[op].May = []int{api.RPc, api.RBot, api.RFlows}
		}
	}
	return x
}

func (m maker) atom(l api.Lattice, low, high int) api.Atom {
	return api.Atom{V: low + m.Intn(high-low+1), L: m.Intn(len(l.Up))}
}

func (m maker) slot(l api.Lattice) api.Slot {
	x := m.atom(l, 0, 4)
	return api.Slot{Ret: m.Intn(4) == 0, V: x.V, L: x.L}
}

func (m maker) instruction(l api.Lattice, n int) api.Instr {
	switch m.Intn(3) {
	case 0:
		x := m.atom(l, 0, n)
		return api.Instr{Op: api.IPush, N: x.V, L: x.L}
	case 1:
		return api.Instr{Op: api.IBnz, N: m.Intn(n)}
	}
	x := api.Instr{Op: m.Intn(api.IAll)}
	switch x.Op {
	case api.ICall:
		x.N = m.Intn(2)
	case api.IReturn:
		x.N = m.Intn(2)
	}
	return x
}

// state is one whose jumps mostly lead to its program.
func (m maker) state(l api.Lattice) api.State {
	n := 2 + m.Intn(11)
	s := api.State{Pc: m.atom(l, 0, 2)}
	for range n {
		s.Code = append(s.Code, m.instruction(l, n))
	}
	for range m.Intn(7) {
		s.Mem = append(s.Mem, m.atom(l, -20, 20))
	}
	for range m.Intn(8) {
		s.Stack = append(s.Stack, m.slot(l))
	}
	for range m.Intn(3) {
		s.Out = append(s.Out, m.atom(l, -20, 20))
	}
	return s
}

// TestByChance has states and tables made by chance, and all that follows of their runs.
func TestByChance(t *testing.T) {
	m := maker{rand.New(rand.NewSource(1))}
	count, long := map[int]int{}, 0
	lattices := []api.Lattice{made(t, "chain", 1), made(t, "diamond", 2), made(t, "power", 3)}
	for range 1500 {
		l, rules := lattices[m.Intn(3)], m.table()
		s := m.state(l)
		want, what := slowRun(l, rules, s, 40)
		goes(t, l, rules, s, 40, want, what)
		fuel := m.Intn(len(want) + 2)
		follows(t, l, rules, s, min(fuel, 40))
		count[what]++
		if len(want) > 8 {
			long++
		}
	}
	for came := range 4 {
		if count[came] < 50 {
			t.Error(count)
		}
	}
	if long < 100 {
		t.Error(long)
	}
}

// follows holds a run against a longer one of the same state, and against one from its last state on.
func follows(t *testing.T, l api.Lattice, rules api.Table, s api.State, a int) {
	t.Helper()
	all, end, _ := run.Run(l, rules, s, 40)
	head, came, e := run.Run(l, rules, s, a)
	if e != api.OK || len(head) > len(all) || !like(head, all[:len(head)]) {
		t.Errorf("%v, %d: %v %v, want what %v begins with", s, a, head, e, all)
		return
	}
	if came != api.SStep {
		if came != end || len(head) != len(all) {
			t.Errorf("%v, %d: %d of %d states, want %d of %d", s, a, came, len(head), end, len(all))
		}
		return
	}
	last := head[len(head)-1]
	tail, came, e := run.Run(l, rules, last, 40-a)
	if e != api.OK || came != end || !like(append(slices.Clone(head), tail[1:]...), all) {
		t.Errorf("%v, %d: %v and %v, want %v", s, a, head, tail, all)
	}
	for i, x := range all {
		if !state.Right(l, x) || i > 0 && len(x.Mem) != len(s.Mem) {
			t.Errorf("%v: %v", s, x)
		}
	}
}

// TestEachTwo has each two fuels that may be, of machines that end early, late, and never.
func TestEachTwo(t *testing.T) {
	l := made(t, "diamond", 2)
	for _, s := range []api.State{
		told(t, l, "push 1 @ b ; bnz 0 ;", "0 @ a | | |"),
		told(t, l, "push 3 @ b ; push 4 @ c ; add ; output ; halt ;", "0 @ a | | |"),
		told(t, l, "push 1 @ a ; push 1 @ a ; output ; bnz 0 ;", "0 @ c | | |"),
	} {
		for a := range 41 {
			head, came, _ := run.Run(l, table.Usual(), s, a)
			for b := range 41 - a {
				both, what, _ := run.Run(l, table.Usual(), s, a+b)
				want, last := slices.Clone(head), came
				if came == api.SStep {
					tail, end, _ := run.Run(l, table.Usual(), head[len(head)-1], b)
					want, last = append(want, tail[1:]...), end
				}
				if what != last || !like(both, want) {
					t.Errorf("%v, %d and %d: %v %d, want %v %d", s, a, b, both, what, want, last)
				}
			}
		}
	}
}
