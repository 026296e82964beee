package state_test

import (
	"math"
	"slices"
	"testing"

	"reticent/api"
	"reticent/state"
)

// of is an order whose labels are named a, b and so on.
func of(up ...uint32) api.Lattice {
	l := api.Lattice{Up: up}
	for i := range up {
		l.Names = append(l.Names, string(rune('a'+i)))
	}
	return l
}

// The bottom of the turned one is its third label. Of the named one a name is as long as may be, and others are words that stand in a state's text.
var (
	single  = of(1)
	diamond = of(15, 10, 12, 8)
	turned  = of(1, 3, 15, 9)
	named   = api.Lattice{Names: []string{"ret", "abcdefghijkl", "mem", "halt"}, Up: []uint32{15, 10, 12, 8}}
	eight   = of(255, 254, 252, 248, 240, 224, 192, 128)
)

func known() []api.Lattice { return []api.Lattice{single, diamond, turned, named, eight} }

// strange are orders that are no lattices, each with why.
func strange() map[api.Errno][]api.Lattice {
	return map[api.Errno][]api.Lattice{
		api.ErrArg:   {{}, {Names: []string{"a"}}, {Up: []uint32{1}}, {Names: []string{"A"}, Up: []uint32{1}}, {Names: []string{"a", "a"}, Up: []uint32{3, 2}}, of(3)},
		api.ErrOrder: {of(0), of(3, 3), of(3, 6, 4)},
		api.ErrJoin:  {of(1, 2), of(7, 2, 4), of(63, 58, 60, 40, 48, 32)},
	}
}

// some has something of each kind.
func some() api.State {
	return api.State{
		Pc:    api.Atom{V: 2, L: 1},
		Code:  []api.Instr{{Op: api.IPush, N: -3, L: 2}, {Op: api.IHalt}},
		Mem:   []api.Atom{{V: -20, L: 3}, {}},
		Stack: []api.Slot{{V: 7, L: 2}, {Ret: true, V: 12, L: 1}, {}},
		Out:   []api.Atom{{V: 20}, {V: -1, L: 1}, {V: 1, L: 2}},
	}
}

const someText = "pc 2 @ b ;\ncode push - 3 @ c ; halt ;\nmem - 20 @ d , 0 @ a ;\nstack 7 @ c , ret 12 @ b , 0 @ a ;\nout 20 @ a , - 1 @ b , 1 @ c ;\n"

// copied shares no list with the state.
func copied(s api.State) api.State {
	s.Code, s.Mem, s.Stack, s.Out = slices.Clone(s.Code), slices.Clone(s.Mem), slices.Clone(s.Stack), slices.Clone(s.Out)
	return s
}

// changed is the state, with something else.
func changed(s api.State, change func(s *api.State)) api.State {
	s = copied(s)
	change(&s)
	return s
}

func isNone(s api.State) bool {
	return s.Pc == api.Atom{} && len(s.Code)+len(s.Mem)+len(s.Stack)+len(s.Out) == 0
}

// right tells a state of which something else is said.
func right(t *testing.T, l api.Lattice, s api.State, want bool) {
	t.Helper()
	if got := state.Right(l, s); got != want {
		t.Errorf("%v %v: %v", l, s, got)
	}
	text, e := state.Text(l, s)
	if want && (e != api.OK || text == "") || !want && (e != api.ErrArg || text != "") {
		t.Errorf("%v %v: %q %v", l, s, text, e)
	}
}

// edges are numbers about those that may be, and far away from them.
func edges() []int {
	l := []int{math.MinInt, math.MinInt + 1, -1 << 32, -1 << 16, -100, 100, 256, 1 << 16, 1 << 32, 1<<32 + 1, math.MaxInt}
	for n := -25; n <= 25; n++ {
		l = append(l, n)
	}
	return l
}

// places have each something in a state be another number and label: and how it may be at least and at most.
type place struct {
	low, high int
	put       func(s *api.State, v, l int)
}

func places() map[string]place {
	return map[string]place{
		"pc":         {0, 12, func(s *api.State, v, l int) { s.Pc = api.Atom{V: v, L: l} }},
		"mem":        {-20, 20, func(s *api.State, v, l int) { s.Mem[0] = api.Atom{V: v, L: l} }},
		"mem last":   {-20, 20, func(s *api.State, v, l int) { s.Mem[1] = api.Atom{V: v, L: l} }},
		"stack":      {-20, 20, func(s *api.State, v, l int) { s.Stack[0] = api.Slot{V: v, L: l} }},
		"stack last": {-20, 20, func(s *api.State, v, l int) { s.Stack[2] = api.Slot{V: v, L: l} }},
		"ret":        {0, 12, func(s *api.State, v, l int) { s.Stack[1] = api.Slot{Ret: true, V: v, L: l} }},
		"ret last":   {0, 12, func(s *api.State, v, l int) { s.Stack[2] = api.Slot{Ret: true, V: v, L: l} }},
		"out":        {-20, 20, func(s *api.State, v, l int) { s.Out[0] = api.Atom{V: v, L: l} }},
		"out last":   {-20, 20, func(s *api.State, v, l int) { s.Out[2] = api.Atom{V: v, L: l} }},
	}
}

func TestEachNumberAndLabel(t *testing.T) {
	for _, l := range []api.Lattice{diamond, turned, named, eight} {
		for _, x := range places() {
			put := func(v, a int) api.State {
				return changed(some(), func(s *api.State) { x.put(s, v, a) })
			}
			for _, v := range edges() {
				right(t, l, put(v, 0), v >= x.low && v <= x.high)
			}
			for _, a := range edges() {
				right(t, l, put(1, a), a >= 0 && a < len(l.Up))
			}
			right(t, l, put(x.low-1, len(l.Up)), false)
			right(t, l, put(x.low, len(l.Up)-1), true)
			right(t, l, put(x.high, len(l.Up)-1), true)
		}
	}
	right(t, single, api.State{}, true)
	right(t, single, some(), false)
}

func TestProgram(t *testing.T) {
	for _, x := range []struct {
		p    []api.Instr
		want bool
	}{
		{nil, true}, {[]api.Instr{}, true}, {make([]api.Instr, 12), true}, {make([]api.Instr, 13), false},
		{[]api.Instr{{Op: api.IPush, N: 20, L: 3}}, true}, {[]api.Instr{{Op: api.IPush, N: 21}}, false}, {[]api.Instr{{Op: api.IPush, L: 4}}, false},
		{[]api.Instr{{}, {Op: 13}}, false}, {[]api.Instr{{Op: -1}}, false}, {[]api.Instr{{Op: api.IBnz, N: 12}}, true}, {[]api.Instr{{N: 1}}, false}, {[]api.Instr{{L: 1}}, false},
	} {
		right(t, diamond, api.State{Code: x.p}, x.want)
		right(t, diamond, changed(some(), func(s *api.State) { s.Code = x.p }), x.want)
	}
	// Where the machine is need be no place of its program.
	right(t, diamond, api.State{Pc: api.Atom{V: 12}}, true)
	right(t, diamond, api.State{Pc: api.Atom{V: 12}, Code: make([]api.Instr, 3)}, true)
}

func TestHowMany(t *testing.T) {
	for n := range 30 {
		right(t, diamond, api.State{Mem: make([]api.Atom, n)}, n <= 6)
		right(t, diamond, api.State{Stack: make([]api.Slot, n)}, n <= 12)
		right(t, diamond, api.State{Stack: slices.Repeat([]api.Slot{{Ret: true}}, n)}, n <= 12)
		right(t, diamond, api.State{Out: make([]api.Atom, n)}, n <= 8)
		right(t, diamond, api.State{Mem: make([]api.Atom, 6), Stack: make([]api.Slot, 12), Out: make([]api.Atom, n)}, n <= 8)
	}
	right(t, diamond, api.State{Mem: []api.Atom{}, Stack: []api.Slot{}, Out: []api.Atom{}, Code: []api.Instr{}}, true)
	right(t, diamond, full(), true)
}

// full has as much of all as may be.
func full() api.State {
	return api.State{
		Pc:    api.Atom{V: 12, L: 3},
		Code:  slices.Repeat([]api.Instr{{Op: api.IPush, N: -20, L: 3}}, 12),
		Mem:   slices.Repeat([]api.Atom{{V: -20, L: 3}}, 6),
		Stack: slices.Repeat([]api.Slot{{V: -20, L: 3}, {Ret: true, V: 12, L: 2}}, 6),
		Out:   slices.Repeat([]api.Atom{{V: 20, L: 1}}, 8),
	}
}

func TestRightOfNoLattice(t *testing.T) {
	for e, all := range strange() {
		for _, l := range all {
			for _, s := range []api.State{{}, some(), full(), {Pc: api.Atom{V: -1}}, {Mem: make([]api.Atom, 7)}} {
				if state.Right(l, s) {
					t.Error(l, s)
				}
				if text, f := state.Text(l, s); text != "" || f != e {
					t.Errorf("%v %v: %q %v, want %v", l, s, text, f, e)
				}
			}
		}
	}
}

func TestText(t *testing.T) {
	for _, x := range []struct {
		want string
		l    api.Lattice
		s    api.State
	}{
		{someText, diamond, some()},
		{"pc 0 @ a ;\ncode\nmem ;\nstack ;\nout ;\n", diamond, api.State{}},
		{"pc 0 @ a ;\ncode\nmem ;\nstack ;\nout ;\n", single, api.State{Code: []api.Instr{}, Mem: []api.Atom{}, Stack: []api.Slot{}, Out: []api.Atom{}}},
		{"pc 0 @ a ;\ncode halt ;\nmem ;\nstack ret 1 @ a ;\nout ;\n", diamond, api.State{Code: []api.Instr{{Op: api.IHalt}}, Stack: []api.Slot{{Ret: true, V: 1}}}},
		{"pc 12 @ abcdefghijkl ;\ncode push - 1 @ halt ;\nmem 0 @ mem ;\nstack - 1 @ ret , ret 0 @ ret , ret 12 @ halt ;\nout - 20 @ abcdefghijkl ;\n", named, api.State{
			Pc: api.Atom{V: 12, L: 1}, Code: []api.Instr{{Op: 1, N: -1, L: 3}}, Mem: []api.Atom{{L: 2}},
			Stack: []api.Slot{{V: -1}, {Ret: true}, {Ret: true, V: 12, L: 3}}, Out: []api.Atom{{V: -20, L: 1}},
		}},
		{"pc 1 @ h ;\ncode noop ; bnz 3 ;\nmem 1 @ a , - 2 @ h , 3 @ c , 4 @ d , 5 @ e , 6 @ f ;\nstack ;\nout ;\n", eight, api.State{
			Pc: api.Atom{V: 1, L: 7}, Code: []api.Instr{{}, {Op: 8, N: 3}}, Mem: []api.Atom{{V: 1}, {V: -2, L: 7}, {V: 3, L: 2}, {V: 4, L: 3}, {V: 5, L: 4}, {V: 6, L: 5}},
		}},
	} {
		if got, e := state.Text(x.l, x.s); got != x.want || e != api.OK {
			t.Errorf("%v: %q %v, want %q", x.s, got, e, x.want)
		}
		reads(t, x.l, x.want, x.s)
	}
}

func TestLike(t *testing.T) {
	all := []api.State{{}, some(), full()}
	for _, s := range all[1:] {
		for _, change := range []func(s *api.State){
			func(s *api.State) { s.Pc.V++ }, func(s *api.State) { s.Pc.L-- },
			func(s *api.State) { s.Code[1].Op = 3 }, func(s *api.State) { s.Code[0].N++ }, func(s *api.State) { s.Code[0].L = 1 }, func(s *api.State) { s.Code = s.Code[:1] }, func(s *api.State) { s.Code = nil },
			func(s *api.State) { s.Mem[0].V = 5 }, func(s *api.State) { s.Mem[1].L = 9 }, func(s *api.State) { s.Mem = s.Mem[1:] }, func(s *api.State) { s.Mem = nil },
			func(s *api.State) { s.Stack[0].V++ }, func(s *api.State) { s.Stack[1].L-- }, func(s *api.State) { s.Stack[1].Ret = false }, func(s *api.State) { s.Stack[2].Ret = true; s.Stack[2].V = 3 }, func(s *api.State) { s.Stack = s.Stack[:2] }, func(s *api.State) { s.Stack = nil },
			func(s *api.State) { s.Out[2].V = math.MinInt }, func(s *api.State) { s.Out[0].L = 3 }, func(s *api.State) { s.Out = append(s.Out, api.Atom{}) }, func(s *api.State) { s.Out = nil },
			func(s *api.State) { s.Mem, s.Out = s.Out, s.Mem },
		} {
			all = append(all, changed(s, change))
		}
	}
	for i, a := range all {
		for k, b := range all {
			if got := state.Like(a, copied(b)); got != (i == k) {
				t.Error(a, b, got)
			}
		}
	}
	none := api.State{Code: []api.Instr{}, Mem: []api.Atom{}, Stack: []api.Slot{}, Out: []api.Atom{}}
	if !state.Like(none, api.State{}) || !state.Like(api.State{}, none) {
		t.Error("none of them are the same, whichever list they are")
	}
}

func TestArgumentsAreKept(t *testing.T) {
	l, s := of(15, 10, 12, 8), some()
	for range 2 {
		state.Right(l, s)
		state.Like(s, s)
		if text, e := state.Text(l, s); text != someText || e != api.OK {
			t.Error(text, e)
		}
	}
	if !state.Like(s, some()) || !slices.Equal(l.Up, diamond.Up) || !slices.Equal(l.Names, diamond.Names) {
		t.Error(l, s)
	}
}
