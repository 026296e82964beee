package run_test

import (
	"math"
	"reflect"
	"strings"
	"testing"

	"reticent/api"
	"reticent/copied"
	"reticent/order"
	"reticent/run"
	"reticent/state"
	"reticent/table"
)

// made is a lattice of a kind, whose labels are named a, b and so on.
func made(t *testing.T, kind string, n int) api.Lattice {
	t.Helper()
	l, e := order.Make(kind, n)
	if e != api.OK {
		t.Fatal(kind, n, e)
	}
	return l
}

func parsed(t *testing.T, l api.Lattice, text string) api.State {
	t.Helper()
	s, at, e := state.Parse(l, text)
	if e != api.OK {
		t.Fatal(text, at, e)
	}
	return s
}

// told is a state whose program is handed, and whose Pc, Mem, Stack and Out are as they are written, with | between.
func told(t *testing.T, l api.Lattice, code, rest string) api.State {
	t.Helper()
	part := strings.Split(rest, "|")
	return parsed(t, l, "pc "+part[0]+" ; code "+code+" mem "+part[1]+" ; stack "+part[2]+" ; out "+part[3]+" ;")
}

// forbidden is the usual table, where some instructions may not be done.
func forbidden(ops ...int) api.Table {
	x := table.Usual()
	for _, op := range ops {
		x.Rows[op].May = []int{api.RFalse}
	}
	return x
}

func like(a, b []api.State) bool {
	if len(a) != len(b) {
		return false
	}
	for i := range a {
		if !state.Like(a[i], b[i]) {
			return false
		}
	}
	return true
}

// goes tells a run of other states, or of which something else comes, or whose last state is another one.
func goes(t *testing.T, l api.Lattice, rules api.Table, s api.State, fuel int, want []api.State, what int) {
	t.Helper()
	got, came, e := run.Run(l, rules, s, fuel)
	if e != api.OK || came != what || !like(got, want) {
		t.Errorf("%v, %d: %v %d %v, want %v %d", s, fuel, got, came, e, want, what)
	}
	last, came, e := run.Last(l, rules, s, fuel)
	if e != api.OK || came != what || !state.Like(last, want[len(want)-1]) {
		t.Errorf("%v, %d: %v %d %v, want %v %d", s, fuel, last, came, e, want[len(want)-1], what)
	}
}

// isNone tells a state's zero value.
func isNone(s api.State) bool { return reflect.DeepEqual(copied.State(s), api.State{}) }

// refused tells a run that has not its error, or something beside it.
func refused(t *testing.T, l api.Lattice, rules api.Table, s api.State, fuel int, want api.Errno) {
	t.Helper()
	if got, came, e := run.Run(l, rules, s, fuel); len(got) != 0 || came != 0 || e != want {
		t.Errorf("%v %v %v, %d: %v %d %v, want %v", l, rules, s, fuel, got, came, e, want)
	}
	if last, came, e := run.Last(l, rules, s, fuel); !isNone(last) || came != 0 || e != want {
		t.Errorf("%v %v %v, %d: %v %d %v, want %v", l, rules, s, fuel, last, came, e, want)
	}
}

// ways are programs, each with all states of its run in the diamond by a table, as Pc, Mem, Stack and Out are written, and what comes of the step that ends it.
var ways = []struct {
	code   string
	rules  api.Table
	states []string
	what   int
}{
	{"halt ;", forbidden(api.IHalt), []string{"0 @ d | 1 @ b | 2 @ c | 3 @ d"}, api.SHalt},
	{"", forbidden(), []string{"0 @ a | | |"}, api.SError},
	{"noop ;", forbidden(), []string{"7 @ c | | 1 @ a |"}, api.SError},
	{"pop ;", forbidden(), []string{"0 @ b | | ret 3 @ a |"}, api.SError},
	{"noop ;", forbidden(api.INoop), []string{"0 @ b | | 1 @ a |"}, api.SStop},
	{"store ;", forbidden(), []string{"0 @ b | 1 @ a | 1 @ a , 0 @ a |"}, api.SStop},
	{"noop ; halt ;", forbidden(), []string{"0 @ a | | |", "1 @ a | | |"}, api.SHalt},
	{"noop ; noop ;", forbidden(), []string{"0 @ a | | |", "1 @ a | | |", "2 @ a | | |"}, api.SError},
	{"push 3 @ b ; push 4 @ c ; add ; output ; halt ;", forbidden(), []string{
		"0 @ a | | |", "1 @ a | | 3 @ b |", "2 @ a | | 3 @ b , 4 @ c |", "3 @ a | | 7 @ d |", "4 @ a | | | 7 @ d",
	}, api.SHalt},
	{"push 20 @ a ; push 1 @ a ; add ; halt ;", forbidden(), []string{"0 @ a | | |", "1 @ a | | 20 @ a |", "2 @ a | | 20 @ a , 1 @ a |"}, api.SError},
	{"push 5 @ a ; push 0 @ b ; store ; halt ;", forbidden(), []string{
		"0 @ a | 1 @ b , 2 @ a | |", "1 @ a | 1 @ b , 2 @ a | 5 @ a |", "2 @ a | 1 @ b , 2 @ a | 5 @ a , 0 @ b |", "3 @ a | 5 @ b , 2 @ a | |",
	}, api.SHalt},
	{"push 5 @ a ; push 1 @ b ; store ; halt ;", forbidden(), []string{
		"0 @ a | 1 @ b , 2 @ a | |", "1 @ a | 1 @ b , 2 @ a | 5 @ a |", "2 @ a | 1 @ b , 2 @ a | 5 @ a , 1 @ b |",
	}, api.SStop},
	{"call 1 ; halt ; push 1 @ a ; add ; return 1 ;", forbidden(), []string{
		"0 @ a | | 9 @ a , 2 @ b |", "2 @ b | | ret 1 @ a , 9 @ a |", "3 @ b | | ret 1 @ a , 9 @ a , 1 @ a |", "4 @ b | | ret 1 @ a , 10 @ a |", "1 @ a | | 10 @ b |",
	}, api.SHalt},
	{"bnz 0 ; pop ; halt ;", forbidden(), []string{
		"0 @ a | | 1 @ a , 0 @ c , 2 @ b , - 1 @ a |", "0 @ a | | 1 @ a , 0 @ c , 2 @ b |", "0 @ b | | 1 @ a , 0 @ c |", "1 @ d | | 1 @ a |", "2 @ d | | |",
	}, api.SHalt},
}

// TestWays has each fuel that may be: a run of less than it takes to its end is cut there, and the step behind that is not tried.
func TestWays(t *testing.T) {
	l := made(t, "diamond", 2)
	for _, x := range ways {
		var all []api.State
		for _, text := range x.states {
			all = append(all, told(t, l, x.code, text))
		}
		for fuel := range 41 {
			if fuel < len(all) {
				goes(t, l, x.rules, all[0], fuel, all[:fuel+1], api.SStep)
				continue
			}
			goes(t, l, x.rules, all[0], fuel, all, x.what)
		}
	}
}

// TestNoFuel has the state alone, whatever a step of it would be.
func TestNoFuel(t *testing.T) {
	l := made(t, "diamond", 2)
	for _, x := range ways {
		for _, text := range x.states {
			s := told(t, l, x.code, text)
			goes(t, l, x.rules, s, 0, []api.State{s}, api.SStep)
		}
	}
}

// TestAllFuel has machines that never end by themselves: 40 steps are 41 states.
func TestAllFuel(t *testing.T) {
	l := made(t, "chain", 2)
	for _, x := range []struct {
		code  string
		round []string
	}{
		{"push 1 @ a ; bnz 0 ;", []string{"0 @ b | | |", "1 @ b | | 1 @ a |"}},
		{"noop ; push 0 @ a ; jump ;", []string{"0 @ b | 1 @ a | 2 @ b | 3 @ a", "1 @ b | 1 @ a | 2 @ b | 3 @ a", "2 @ b | 1 @ a | 2 @ b , 0 @ a | 3 @ a"}},
	} {
		var all []api.State
		for i := range 41 {
			all = append(all, told(t, l, x.code, x.round[i%len(x.round)]))
		}
		for fuel := range 41 {
			goes(t, l, table.Usual(), all[0], fuel, all[:fuel+1], api.SStep)
		}
	}
}

// unlawful are tables that may not be.
func unlawful() map[api.Errno][]api.Table {
	arity := table.Usual()
	arity.Rows[api.IPop].Res = []int{api.RTwo}
	label := table.Usual()
	label.Rows[api.IHalt].May = []int{api.RPc}
	return map[api.Errno][]api.Table{
		api.ErrArg:   {{}, {Rows: table.Usual().Rows[:12]}, label},
		api.ErrArity: {arity},
	}
}

// fuels that may not be, and some that may.
var fuels = []int{math.MinInt, math.MinInt32, -2, -1, 0, 1, 40, 41, 42, 1 << 32, math.MaxInt32, math.MaxInt}

// TestErrors has step's errors come ahead, lattice's ahead of table's, whatever the fuel is: without any, too.
func TestErrors(t *testing.T) {
	l := made(t, "diamond", 2)
	wrong := api.State{Pc: api.Atom{V: -1}}
	none := map[api.Errno]api.Lattice{
		api.ErrArg:   {},
		api.ErrOrder: {Names: []string{"a", "b"}, Up: []uint32{3, 3}},
		api.ErrJoin:  {Names: []string{"a", "b"}, Up: []uint32{1, 2}},
	}
	for _, fuel := range fuels {
		for _, s := range []api.State{{}, wrong} {
			for want, x := range none {
				refused(t, x, table.Usual(), s, fuel, want)
				for _, rules := range unlawful() {
					refused(t, x, rules[0], s, fuel, want)
				}
			}
			for want, all := range unlawful() {
				for _, rules := range all {
					refused(t, l, rules, s, fuel, want)
				}
			}
		}
	}
}

func TestStateMayNotBe(t *testing.T) {
	l := made(t, "chain", 2)
	for _, fuel := range fuels {
		for _, s := range []api.State{
			{Pc: api.Atom{V: 13}}, {Pc: api.Atom{V: -1}}, {Pc: api.Atom{L: 2}}, {Code: make([]api.Instr, 13)}, {Code: []api.Instr{{Op: api.IAll}}},
			{Mem: make([]api.Atom, 7)}, {Stack: make([]api.Slot, 13)}, {Out: make([]api.Atom, 9)}, {Stack: []api.Slot{{Ret: true, V: 13}}}, {Out: []api.Atom{{V: 21}}},
		} {
			refused(t, l, table.Usual(), s, fuel, api.ErrArg)
		}
	}
}

// TestFuelMayNotBe has all else be as it may, and the run halt at once, or never.
func TestFuelMayNotBe(t *testing.T) {
	l := made(t, "chain", 2)
	for _, fuel := range fuels {
		for _, code := range []string{"halt ;", "push 1 @ a ; bnz 0 ;"} {
			s := told(t, l, code, "0 @ a | | |")
			if fuel < 0 || fuel > 40 {
				refused(t, l, table.Usual(), s, fuel, api.ErrArg)
				continue
			}
			if _, _, e := run.Run(l, table.Usual(), s, fuel); e != api.OK {
				t.Error(code, fuel, e)
			}
			if _, _, e := run.Last(l, table.Usual(), s, fuel); e != api.OK {
				t.Error(code, fuel, e)
			}
		}
	}
}

// roomy is a list of the same, with room behind it that is the caller's as well.
func roomy[T any](l []T) []T { return append(l, make([]T, 3)...)[:len(l)] }

// spoil changes all that a state has, and what room is behind it.
func spoil(s api.State) {
	for i := range s.Code {
		s.Code[i].N++
	}
	for i := range s.Mem {
		s.Mem[i].V++
	}
	for i := range s.Stack {
		s.Stack[i].V++
	}
	for i := range s.Out {
		s.Out[i].V++
	}
	_ = append(s.Code, api.Instr{N: 9})
	_ = append(s.Mem, api.Atom{V: 9})
	_ = append(s.Stack, api.Slot{V: 9})
	_ = append(s.Out, api.Atom{V: 9})
}

// TestNothingShared has each state of an answer be changed, and neither the arguments nor the other states change.
func TestNothingShared(t *testing.T) {
	l := made(t, "diamond", 2)
	for _, x := range ways {
		given := told(t, l, x.code, x.states[0])
		s := api.State{Pc: given.Pc, Code: roomy(given.Code), Mem: roomy(given.Mem), Stack: roomy(given.Stack), Out: roomy(given.Out)}
		whole := api.State{Pc: s.Pc, Code: s.Code[:cap(s.Code)], Mem: s.Mem[:cap(s.Mem)], Stack: s.Stack[:cap(s.Stack)], Out: s.Out[:cap(s.Out)]}
		rules, was := forbidden(), copied.State(whole)
		for fuel := range 4 {
			for i := range fuel + 1 {
				states, _, _ := run.Run(l, rules, s, fuel)
				want, _, _ := run.Run(l, rules, s, fuel)
				if i >= len(states) {
					break
				}
				spoil(states[i])
				want[i] = states[i]
				if !like(states, want) {
					t.Errorf("%s, %d: the states share with state %d", x.code, fuel, i)
				}
			}
			last, _, _ := run.Last(l, rules, s, fuel)
			spoil(last)
		}
		if !state.Like(whole, was) || !table.Like(rules, table.Usual()) || !order.Like(l, made(t, "diamond", 2)) {
			t.Errorf("%s: the arguments are changed: %v, they were %v", x.code, whole, was)
		}
	}
}
