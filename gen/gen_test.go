package gen_test

import (
	"math"
	"reflect"
	"slices"
	"testing"

	"reticent/api"
	"reticent/gen"
	"reticent/order"
	"reticent/state"
)

// made is a lattice of a kind, whose labels are named a, b and so on.
func made(t *testing.T, kind string, n int) api.Lattice {
	t.Helper()
	l, e := order.Make(kind, n)
	if e != api.OK {
		t.Fatal(kind, n, e)
	}
	return l
}

// same is a row of so many of one number.
func same(n, x int) []int {
	all := make([]int, n)
	for i := range all {
		all[i] = x
	}
	return all
}

// put is a row where a number is changed.
func put(l []int, i, x int) []int {
	l = slices.Clone(l)
	l[i] = x
	return l
}

// only are weights of 1 of some instructions, and of 0 of all others.
func only(ops ...int) []int {
	all := same(13, 0)
	for _, op := range ops {
		all[op] = 1
	}
	return all
}

// space is one where each instruction weighs 1, so that a choice of an Op is the Op.
func space(code, mem, stack, val int) api.Space {
	return api.Space{Code: code, Mem: mem, Stack: stack, Val: val, Weights: same(13, 1)}
}

// weighing is the largest space, of some weights.
func weighing(weights []int) api.Space {
	return api.Space{Code: 12, Mem: 6, Stack: 12, Val: 20, Weights: weights}
}

func like(a, b api.Draws) bool {
	return slices.Equal(a.List, b.List) && a.At == b.At && slices.Equal(a.Log, b.Log)
}

// drawn are draws with lists of such lengths.
func drawn(list, at, log int) api.Draws {
	return api.Draws{List: same(list, 3), At: at, Log: same(log, 5)}
}

// isEmpty tells the state that answers beside an error are: all of it is 0, or has no elements.
func isEmpty(s api.State) bool {
	return s.Pc == api.Atom{} && len(s.Code)+len(s.Mem)+len(s.Stack)+len(s.Out) == 0
}

func told(t *testing.T, l api.Lattice, text string) api.State {
	t.Helper()
	s, at, e := state.Parse(l, text)
	if e != api.OK {
		t.Fatal(text, at, e)
	}
	return s
}

// outside are numbers that are not from 0 to most.
func outside(most int) []int {
	return []int{-1, -2, math.MinInt, most + 1, most + 2, 100, math.MaxInt}
}

// TestRight has each number at its limits, and outside of them.
func TestRight(t *testing.T) {
	for _, sp := range []api.Space{space(0, 0, 0, 0), space(12, 6, 12, 20), space(3, 2, 4, 5)} {
		for i, most := range []int{12, 6, 12, 20} {
			for n := range most + 1 {
				if x := with(sp, i, n); !gen.Right(x) {
					t.Error(x)
				}
			}
			for _, n := range outside(most) {
				if x := with(sp, i, n); gen.Right(x) {
					t.Error(x)
				}
			}
		}
	}
}

// with is a space of which one number, Code, Mem, Stack or Val, is another one.
func with(sp api.Space, i, n int) api.Space {
	*[]*int{&sp.Code, &sp.Mem, &sp.Stack, &sp.Val}[i] = n
	return sp
}

// badWeights are such as no space has.
func badWeights() [][]int {
	return [][]int{
		nil, {}, {1}, same(12, 1), same(14, 1), same(20, 1), same(21, 1), same(26, 1), put(same(14, 0), 0, 1), put(same(14, 1), 13, 0),
		same(13, 0), same(13, -1), same(13, 101), put(same(13, 1), 0, -1), put(same(13, 1), 12, -1), put(same(13, 1), 0, 101), put(same(13, 1), 12, 101), put(same(13, 0), 5, 101),
		put(same(13, 1), 3, math.MaxInt), put(same(13, 1), 3, math.MinInt), put(put(same(13, 0), 0, 5), 1, -5), put(put(same(13, 0), 0, 1), 12, 1000),
	}
}

func goodWeights() [][]int {
	return [][]int{
		same(13, 1), same(13, 100), only(0), only(12), put(same(13, 0), 0, 100), put(same(13, 0), 12, 100), put(same(13, 100), 0, 0), put(same(13, 100), 12, 0), {0, 1, 2, 3, 4, 5, 6, 7, 8, 9, 10, 11, 12},
	}
}

func TestRightWeights(t *testing.T) {
	for _, weights := range badWeights() {
		if gen.Right(weighing(weights)) || gen.Right(api.Space{Weights: weights}) {
			t.Error(weights)
		}
	}
	for _, weights := range goodWeights() {
		if !gen.Right(weighing(weights)) || !gen.Right(api.Space{Weights: weights}) {
			t.Error(weights)
		}
	}
}

// badLattices are such as are none, each with its error.
func badLattices() map[api.Errno]api.Lattice {
	return map[api.Errno]api.Lattice{
		api.ErrArg:   {Names: []string{"a", "a"}, Up: []uint32{3, 2}},
		api.ErrOrder: {Names: []string{"a", "b"}, Up: []uint32{3, 3}},
		api.ErrJoin:  {Names: []string{"a", "b"}, Up: []uint32{1, 2}},
	}
}

// badSpaces are such as may not be, each for a reason of its own.
func badSpaces() []api.Space {
	all := []api.Space{{}}
	for i, most := range []int{12, 6, 12, 20} {
		for _, n := range outside(most) {
			all = append(all, with(space(3, 2, 4, 5), i, n))
		}
	}
	for _, weights := range badWeights() {
		all = append(all, weighing(weights))
	}
	return all
}

// badDraws are draws that may not be.
func badDraws() []api.Draws {
	return []api.Draws{
		{At: -1}, {At: math.MinInt}, {List: []int{1, 2}, At: -1, Log: []int{1}},
		drawn(501, 0, 0), drawn(501, 501, 0), drawn(0, 0, 2001), drawn(501, -1, 2001), drawn(0, -1, 2000),
	}
}

// has tells an answer that is another one.
func has(t *testing.T, l api.Lattice, sp api.Space, s api.State, want bool) {
	t.Helper()
	if got, e := gen.Has(l, sp, s); got != want || e != api.OK {
		t.Errorf("%v, %v: %v %v, want %v", sp, s, got, e, want)
	}
}

// TestHas has the space be of 2 instructions, 1 atom, 3 slots and numbers up to 5, and the instructions that jump weigh nothing.
func TestHas(t *testing.T) {
	l := made(t, "diamond", 2)
	sp := space(2, 1, 3, 5)
	sp.Weights[api.IJump], sp.Weights[api.ICall] = 0, 0
	for text, want := range map[string]bool{
		"pc 0 @ a ; code mem ; stack ; out ;":                                            true,
		"pc 12 @ d ; code mem ; stack ; out ;":                                           true,
		"pc 0 @ a ; code halt ; noop ; mem ; stack ; out ;":                              true,
		"pc 0 @ a ; code halt ; noop ; noop ; mem ; stack ; out ;":                       false,
		"pc 0 @ a ; code mem 1 @ d ; stack ; out ;":                                      true,
		"pc 0 @ a ; code mem 1 @ d , 1 @ d ; stack ; out ;":                              false,
		"pc 0 @ a ; code mem ; stack 1 @ a , 2 @ b , ret 3 @ c ; out ;":                  true,
		"pc 0 @ a ; code mem ; stack 1 @ a , 2 @ b , ret 3 @ c , ret 4 @ d ; out ;":      false,
		"pc 0 @ a ; code mem ; stack ; out 0 @ a ;":                                      false,
		"pc 0 @ a ; code mem ; stack ; out 1 @ d , 1 @ d ;":                              false,
		"pc 0 @ a ; code push 5 @ b ; push - 5 @ c ; mem ; stack ; out ;":                true,
		"pc 0 @ a ; code push 6 @ b ; mem ; stack ; out ;":                               false,
		"pc 0 @ a ; code noop ; push - 6 @ b ; mem ; stack ; out ;":                      false,
		"pc 0 @ a ; code bnz 12 ; return 1 ; mem ; stack ; out ;":                        true,
		"pc 0 @ a ; code bnz 6 ; mem ; stack ; out ;":                                    true,
		"pc 0 @ a ; code mem 5 @ d ; stack ; out ;":                                      true,
		"pc 0 @ a ; code mem - 5 @ d ; stack ; out ;":                                    true,
		"pc 0 @ a ; code mem 6 @ d ; stack ; out ;":                                      false,
		"pc 0 @ a ; code mem - 6 @ d ; stack ; out ;":                                    false,
		"pc 0 @ a ; code mem ; stack 5 @ d , - 5 @ a ; out ;":                            true,
		"pc 0 @ a ; code mem ; stack 6 @ d ; out ;":                                      false,
		"pc 0 @ a ; code mem ; stack ret 1 @ a , - 6 @ d ; out ;":                        false,
		"pc 0 @ a ; code mem ; stack ret 6 @ d , ret 12 @ a ; out ;":                     true,
		"pc 0 @ a ; code jump ; mem ; stack ; out ;":                                     false,
		"pc 0 @ a ; code call 1 ; mem ; stack ; out ;":                                   false,
		"pc 0 @ a ; code noop ; jump ; mem ; stack ; out ;":                              false,
		"pc 7 @ b ; code push 1 @ a ; pop ; mem 2 @ c ; stack ret 9 @ d , 0 @ a ; out ;": true,
	} {
		has(t, l, sp, told(t, l, text), want)
	}
}

// TestHasNone has states that may not be, in the space where most are.
func TestHasNone(t *testing.T) {
	l := made(t, "diamond", 2)
	for _, s := range []api.State{
		{Pc: api.Atom{V: -1}}, {Pc: api.Atom{V: 13}}, {Pc: api.Atom{L: -1}}, {Pc: api.Atom{L: 4}},
		{Code: []api.Instr{{Op: -1}}}, {Code: []api.Instr{{Op: 13}}}, {Code: []api.Instr{{Op: math.MaxInt}}}, {Code: []api.Instr{{Op: math.MinInt}}},
		{Code: []api.Instr{{Op: api.IPush, N: 21}}}, {Code: []api.Instr{{Op: api.IPush, N: -21}}}, {Code: []api.Instr{{Op: api.IPush, L: 4}}}, {Code: []api.Instr{{Op: api.IPush, L: -1}}},
		{Code: []api.Instr{{Op: api.INoop, N: 1}}}, {Code: []api.Instr{{Op: api.INoop, L: 1}}}, {Code: []api.Instr{{Op: api.IBnz, N: 13}}}, {Code: []api.Instr{{Op: api.IBnz, N: -1}}},
		{Code: []api.Instr{{Op: api.ICall, N: 4}}}, {Code: []api.Instr{{Op: api.IReturn, N: 2}}}, {Code: []api.Instr{{Op: api.IHalt}, {Op: api.IReturn, N: -1}}},
		{Code: make([]api.Instr, 13)}, {Mem: make([]api.Atom, 7)}, {Stack: make([]api.Slot, 13)}, {Out: make([]api.Atom, 9)}, {Out: make([]api.Atom, 1)},
		{Mem: []api.Atom{{V: 21}}}, {Mem: []api.Atom{{V: -21}}}, {Mem: []api.Atom{{L: 4}}}, {Mem: []api.Atom{{V: math.MinInt}}},
		{Stack: []api.Slot{{V: 21}}}, {Stack: []api.Slot{{V: -21}}}, {Stack: []api.Slot{{L: -1}}}, {Stack: []api.Slot{{Ret: true, V: 13}}}, {Stack: []api.Slot{{Ret: true, V: -1}}}, {Stack: []api.Slot{{Ret: true, L: 4}}},
	} {
		has(t, l, weighing(same(13, 1)), s, false)
	}
	has(t, l, weighing(same(13, 1)), api.State{Code: make([]api.Instr, 12), Mem: make([]api.Atom, 6), Stack: make([]api.Slot, 12)}, true)
}

// TestHasSizes has each size of the space, and each of the state.
func TestHasSizes(t *testing.T) {
	l := made(t, "chain", 1)
	for i, most := range []int{12, 6, 12} {
		for limit := range most + 1 {
			for n := range most + 1 {
				s := []api.State{{Code: make([]api.Instr, n)}, {Mem: make([]api.Atom, n)}, {Stack: make([]api.Slot, n)}}[i]
				has(t, l, with(weighing(same(13, 1)), i, limit), s, n <= limit)
				has(t, l, with(space(0, 0, 0, 0), i, limit), s, n <= limit)
			}
		}
	}
}

// TestHasNumbers has each number that may be, in spaces of each Val: of a Ret, of bnz, and where the machine is, it is no such one.
func TestHasNumbers(t *testing.T) {
	l := made(t, "chain", 1)
	for val := range 21 {
		sp := with(weighing(same(13, 1)), 3, val)
		for n := -20; n <= 20; n++ {
			in := n >= -val && n <= val
			has(t, l, sp, api.State{Code: []api.Instr{{Op: api.IPush, N: n}}}, in)
			has(t, l, sp, api.State{Mem: []api.Atom{{}, {V: n}}}, in)
			has(t, l, sp, api.State{Stack: []api.Slot{{}, {V: n}}}, in)
		}
		for n := range 13 {
			has(t, l, sp, api.State{Stack: []api.Slot{{Ret: true, V: n}}}, true)
			has(t, l, sp, api.State{Code: []api.Instr{{Op: api.IBnz, N: n}}}, true)
			has(t, l, sp, api.State{Pc: api.Atom{V: n}}, true)
			has(t, l, sp, api.State{Code: []api.Instr{{Op: api.ICall, N: n}}}, n < 4)
			has(t, l, sp, api.State{Code: []api.Instr{{Op: api.IReturn, N: n}}}, n < 2)
		}
	}
}

// TestHasWeights has each instruction weigh nothing once, and be the only one that weighs something.
func TestHasWeights(t *testing.T) {
	l := made(t, "chain", 1)
	for op := range 13 {
		for other := range 13 {
			s := api.State{Code: []api.Instr{{Op: other}}}
			has(t, l, weighing(only(op)), s, op == other)
			has(t, l, weighing(put(same(13, 100), op, 0)), s, op != other)
			s.Code = append(s.Code, api.Instr{Op: op})
			has(t, l, weighing(put(same(13, 100), op, 0)), s, false)
			has(t, l, weighing(same(13, 1)), s, true)
		}
	}
}

// TestHasErrors has a lattice that is none come ahead of a space that may not be, and that ahead of the state.
func TestHasErrors(t *testing.T) {
	states := []api.State{{}, {Pc: api.Atom{V: 99, L: 99}}, {Code: []api.Instr{{Op: 99}}}}
	fails := func(l api.Lattice, sp api.Space, s api.State, want api.Errno) {
		if got, e := gen.Has(l, sp, s); got || e != want {
			t.Errorf("%v, %v, %v: %v %v, want %v", l, sp, s, got, e, want)
		}
	}
	for _, s := range states {
		for want, l := range badLattices() {
			for _, sp := range append(badSpaces(), space(3, 2, 4, 5)) {
				fails(l, sp, s, want)
			}
		}
		fails(api.Lattice{}, space(3, 2, 4, 5), s, api.ErrArg)
		for _, sp := range badSpaces() {
			fails(made(t, "chain", 2), sp, s, api.ErrArg)
		}
	}
}

// makes tells choices that make another state, or draws behind them that are others: all of them are taken, and they are what they are told as.
func makes(t *testing.T, l api.Lattice, sp api.Space, choices []int, text string) {
	t.Helper()
	d := api.Draws{List: slices.Concat([]int{77}, choices, []int{88}), At: 1, Log: []int{99}}
	want := api.Draws{List: d.List, At: 1 + len(choices), Log: append([]int{99}, choices...)}
	then, s, e := gen.State(l, sp, d)
	if e != api.OK || !state.Like(s, told(t, l, text)) || !like(then, want) {
		t.Errorf("%v: %v %v %v, want %v %s", choices, then, s, e, want, text)
	}
	has(t, l, sp, s, true)
}

func TestState(t *testing.T) {
	l := made(t, "diamond", 2)
	for _, x := range []struct {
		choices []int
		text    string
	}{
		{[]int{0, 0, 0, 0, 0}, "pc 0 @ a ; code mem ; stack ; out ;"},
		{[]int{0, 0, 0, 12, 3}, "pc 12 @ d ; code mem ; stack ; out ;"},
		{[]int{1, 12, 0, 0, 0, 0}, "pc 0 @ a ; code halt ; mem ; stack ; out ;"},
		{[]int{1, 1, 3, 2, 0, 0, 0, 0}, "pc 0 @ a ; code push 2 @ c ; mem ; stack ; out ;"},
		{[]int{1, 1, 10, 1, 0, 0, 0, 0}, "pc 0 @ a ; code push - 5 @ b ; mem ; stack ; out ;"},
		{[]int{3, 1, 9, 3, 8, 12, 0, 0, 0, 1, 1}, "pc 1 @ b ; code push 5 @ d ; bnz 12 ; noop ; mem ; stack ; out ;"},
		{[]int{3, 9, 3, 10, 1, 7, 0, 0, 0, 0}, "pc 0 @ a ; code call 3 ; return 1 ; jump ; mem ; stack ; out ;"},
		{[]int{3, 9, 0, 10, 0, 8, 0, 0, 0, 0, 0}, "pc 0 @ a ; code call 0 ; return 0 ; bnz 0 ; mem ; stack ; out ;"},
		{[]int{3, 2, 3, 4, 0, 0, 5, 2}, "pc 5 @ c ; code pop ; add ; sub ; mem ; stack ; out ;"},
		{[]int{3, 5, 6, 11, 0, 0, 0, 0}, "pc 0 @ a ; code load ; store ; output ; mem ; stack ; out ;"},
		{[]int{0, 2, 9, 3, 10, 1, 0, 4, 0}, "pc 4 @ a ; code mem 5 @ d , - 5 @ b ; stack ; out ;"},
		{[]int{0, 1, 2, 0, 0, 0, 3}, "pc 0 @ d ; code mem - 1 @ a ; stack ; out ;"},
		{[]int{0, 0, 4, 1, 12, 3, 0, 10, 1, 1, 0, 0, 0, 1, 2, 7, 0}, "pc 7 @ a ; code mem ; stack ret 12 @ d , - 5 @ b , ret 0 @ a , 1 @ c ; out ;"},
		{[]int{2, 1, 1, 1, 10, 1, 1, 2, 2, 2, 0, 3, 1, 1, 4, 3, 6, 1}, "pc 6 @ b ; code push 1 @ b ; return 1 ; mem - 1 @ c ; stack 2 @ b , ret 4 @ d ; out ;"},
	} {
		makes(t, l, space(3, 2, 4, 5), x.choices, x.text)
		makes(t, l, weighing(same(13, 1)), x.choices, x.text)
	}
}

// TestSmallestSpace has nothing be chosen but where the machine is; each bound of how many is 1.
func TestSmallestSpace(t *testing.T) {
	l := made(t, "chain", 3)
	for v := range 13 {
		for a, name := range l.Names {
			s := api.State{Pc: api.Atom{V: v, L: a}}
			d := api.Draws{List: []int{7, -8, 9, v + 13, a - 6, 4}}
			then, got, e := gen.State(l, space(0, 0, 0, 0), d)
			if want := (api.Draws{List: d.List, At: 5, Log: []int{0, 0, 0, v, a}}); e != api.OK || !state.Like(got, s) || !like(then, want) {
				t.Errorf("%d @ %s: %v %v %v", v, name, then, got, e)
			}
		}
	}
}

// TestBounds has each choice be of numbers that are one below 0: so it is the greatest below its bound.
func TestBounds(t *testing.T) {
	for _, x := range []struct {
		kind    string
		n       int
		sp      api.Space
		choices []int
		text    string
	}{
		{"chain", 3, space(1, 1, 1, 3), []int{1, 12, 1, 6, 2, 1, 1, 12, 2, 12, 2}, "pc 12 @ c ; code halt ; mem - 3 @ c ; stack ret 12 @ c ; out ;"},
		{"chain", 1, api.Space{Code: 2, Mem: 0, Stack: 0, Val: 20, Weights: only(api.IPush)}, []int{2, 0, 40, 0, 0, 40, 0, 0, 0, 12, 0}, "pc 12 @ a ; code push - 20 @ a ; push - 20 @ a ; mem ; stack ; out ;"},
		{"power", 3, api.Space{Code: 1, Weights: put(only(api.IPush), api.IBnz, 5)}, []int{1, 5, 12, 0, 0, 12, 7}, "pc 12 @ h ; code bnz 12 ; mem ; stack ; out ;"},
		{"chain", 2, api.Space{Code: 1, Weights: put(only(), api.ICall, 100)}, []int{1, 99, 3, 0, 0, 12, 1}, "pc 12 @ b ; code call 3 ; mem ; stack ; out ;"},
		{"chain", 2, api.Space{Code: 1, Weights: only(0, api.IReturn)}, []int{1, 1, 1, 0, 0, 12, 1}, "pc 12 @ b ; code return 1 ; mem ; stack ; out ;"},
	} {
		l := made(t, x.kind, x.n)
		makes(t, l, x.sp, x.choices, x.text)
		d := api.Draws{List: same(500, -1)}
		want := api.Draws{List: d.List, At: len(x.choices), Log: x.choices}
		if then, s, e := gen.State(l, x.sp, d); e != api.OK || !state.Like(s, told(t, l, x.text)) || !like(then, want) {
			t.Errorf("%v: %v %v %v, want %v %s", x.sp, then, s, e, want, x.text)
		}
	}
}

// TestWeights has Ops be picked by weights, one that weighs nothing never.
func TestWeights(t *testing.T) {
	l := made(t, "chain", 2)
	sp := space(1, 0, 0, 5)
	sp.Weights = []int{0, 0, 3, 0, 0, 0, 0, 2, 1, 0, 0, 0, 4}
	for choice, word := range []string{"pop", "pop", "pop", "jump", "jump", "bnz 5", "halt", "halt", "halt", "halt"} {
		choices := []int{1, choice, 0, 0, 3, 1}
		if choice == 5 {
			choices = []int{1, choice, 5, 0, 0, 3, 1}
		}
		makes(t, l, sp, choices, "pc 3 @ b ; code "+word+" ; mem ; stack ; out ;")
	}
}

// TestNoChoices has the empty state be made, at 0, of the first label, even if that is not the bottom, and whatever the space.
func TestNoChoices(t *testing.T) {
	turned := api.Lattice{Names: []string{"high", "low"}, Up: []uint32{1, 3}}
	for _, l := range []api.Lattice{made(t, "chain", 1), made(t, "diamond", 6), turned} {
		for _, weights := range goodWeights() {
			for _, d := range []api.Draws{{}, {List: []int{7, 8, 9}, At: 3}, {At: math.MaxInt, Log: []int{9}}, {List: make([]int, 5)}, {List: make([]int, 500), At: 496, Log: same(100, 3)}} {
				want := api.Draws{List: d.List, At: max(d.At, min(d.At+5, len(d.List))), Log: append(slices.Clone(d.Log), 0, 0, 0, 0, 0)}
				then, s, e := gen.State(l, weighing(weights), d)
				if e != api.OK || !isEmpty(s) || !like(then, want) {
					t.Errorf("%v, %v: %v %v %v", weights, d, then, s, e)
				}
			}
		}
	}
}

// TestEndWithin has a List end within what is made: all else is the first one that may be.
func TestEndWithin(t *testing.T) {
	l := made(t, "chain", 2)
	sp := space(3, 2, 4, 5)
	sp.Weights = put(sp.Weights, 0, 0)
	for _, x := range []struct {
		list, log []int
		text      string
	}{
		{[]int{2}, []int{2, 0, 0, 0, 0, 0, 0, 0, 0, 0, 0}, "pc 0 @ a ; code push 0 @ a ; push 0 @ a ; mem ; stack ; out ;"},
		{[]int{1, 0, 4}, []int{1, 0, 4, 0, 0, 0, 0, 0}, "pc 0 @ a ; code push - 2 @ a ; mem ; stack ; out ;"},
		{[]int{1, 1, 2}, []int{1, 1, 2, 0, 0, 0, 0, 0, 0, 0}, "pc 0 @ a ; code pop ; mem 0 @ a , 0 @ a ; stack ; out ;"},
		{[]int{0, 0, 3, 1}, []int{0, 0, 3, 1, 0, 0, 0, 0, 0, 0, 0, 0, 0, 0}, "pc 0 @ a ; code mem ; stack ret 0 @ a , 0 @ a , 0 @ a ; out ;"},
		{[]int{0, 0, 0, 9}, []int{0, 0, 0, 9, 0}, "pc 9 @ a ; code mem ; stack ; out ;"},
	} {
		want := api.Draws{List: x.list, At: len(x.list), Log: x.log}
		if then, s, e := gen.State(l, sp, api.Draws{List: x.list}); e != api.OK || !state.Like(s, told(t, l, x.text)) || !like(then, want) {
			t.Errorf("%v: %v %v %v, want %v %s", x.list, then, s, e, want, x.text)
		}
	}
}

// failsBy tells an answer that has not its error, or something beside it.
func failsBy(t *testing.T, l api.Lattice, sp api.Space, d api.Draws, want api.Errno) {
	t.Helper()
	if then, s, e := gen.State(l, sp, d); e != want || !isEmpty(s) || !like(then, api.Draws{}) {
		t.Errorf("%v, %v, %v: %v %v %v, want %v", l, sp, d, then, s, e, want)
	}
}

// TestStateErrors has a lattice that is none come ahead of a space that may not be, and both ahead of the draws.
func TestStateErrors(t *testing.T) {
	draws := append(badDraws(), api.Draws{}, drawn(3, 0, 0), drawn(500, 500, 1999), drawn(3, 0, 2000))
	for _, d := range draws {
		for want, l := range badLattices() {
			for _, sp := range append(badSpaces(), space(3, 2, 4, 5)) {
				failsBy(t, l, sp, d, want)
			}
		}
		failsBy(t, api.Lattice{}, space(3, 2, 4, 5), d, api.ErrArg)
		for _, sp := range badSpaces() {
			failsBy(t, made(t, "chain", 2), sp, d, api.ErrArg)
		}
	}
	for _, d := range badDraws() {
		failsBy(t, made(t, "chain", 2), space(3, 2, 4, 5), d, api.ErrArg)
		failsBy(t, made(t, "chain", 2), space(0, 0, 0, 0), d, api.ErrArg)
	}
}

// TestRoom has all choices of some states find room in the Log just so, and one more be too many, whichever it is.
func TestRoom(t *testing.T) {
	l := made(t, "diamond", 2)
	sp := space(3, 2, 4, 5)
	for _, choices := range [][]int{
		{0, 0, 0, 12, 3},
		{3, 1, 9, 3, 8, 12, 0, 0, 0, 1, 1},
		{3, 9, 3, 10, 1, 7, 0, 0, 0, 0},
		{0, 2, 9, 3, 10, 1, 0, 4, 0},
		{1, 12, 1, 0, 0, 4, 1, 12, 3, 0, 10, 1, 1, 0, 0, 0, 1, 2, 7, 0},
	} {
		for room := range len(choices) + 2 {
			d := api.Draws{List: choices, Log: same(2000-room, 5)}
			if room < len(choices) {
				failsBy(t, l, sp, d, api.ErrMany)
				continue
			}
			then, _, e := gen.State(l, sp, d)
			if e != api.OK || then.At != len(choices) || !slices.Equal(then.Log, append(slices.Clone(d.Log), choices...)) {
				t.Errorf("%v, %d: %v %v", choices, room, then, e)
			}
		}
	}
	for room := range 5 {
		failsBy(t, l, weighing(same(13, 1)), api.Draws{Log: same(2000-room, 0)}, api.ErrMany)
	}
}

// TestMost has the largest state: it takes 89 choices.
func TestMost(t *testing.T) {
	l := made(t, "chain", 2)
	choices := []int{12}
	for range 12 {
		choices = append(choices, 0, 40, 1)
	}
	choices = append(choices, 6)
	for range 6 {
		choices = append(choices, 39, 1)
	}
	choices = append(choices, 12)
	for range 12 {
		choices = append(choices, 0, 38, 1)
	}
	choices = append(choices, 12, 1)
	d := api.Draws{List: choices, Log: same(2000-89, 1)}
	then, s, e := gen.State(l, weighing(only(api.IPush)), d)
	if e != api.OK || then.At != 89 || len(then.Log) != 2000 || len(s.Code) != 12 || len(s.Mem) != 6 || len(s.Stack) != 12 || s.Pc != (api.Atom{V: 12, L: 1}) {
		t.Error(then, s, e)
	}
	for _, x := range s.Code {
		if x != (api.Instr{Op: api.IPush, N: -20, L: 1}) {
			t.Error(s)
		}
	}
	d.Log = append(d.Log, 1)
	failsBy(t, l, weighing(only(api.IPush)), d, api.ErrMany)
}

// roomy is a list of the same, with room behind it that is the caller's as well.
func roomy(l []int) []int { return append(slices.Clone(l), 70, 71, 72)[:len(l)] }

// spoil changes a list, and what room is behind it.
func spoil[T any](l []T, x T) {
	l = l[:cap(l)]
	for i := range l {
		l[i] = x
	}
}

// TestNothingShared has each list of an answer be changed, and neither the arguments nor the answer's other lists change.
func TestNothingShared(t *testing.T) {
	l := made(t, "diamond", 2)
	list, log, weights := roomy([]int{2, 1, 1, 1, 10, 1, 1, 2, 2, 2, 0, 3, 1, 1, 4, 3, 6, 1}), roomy([]int{8, 9}), roomy(same(13, 1))
	sp := api.Space{Code: 3, Mem: 2, Stack: 4, Val: 5, Weights: weights}
	whole := func() []int { return slices.Concat(list[:21], log[:5], weights[:16]) }
	was := whole()
	d := api.Draws{List: list, Log: log}
	then, s, e := gen.State(l, sp, d)
	again, same, _ := gen.State(l, sp, d)
	if e != api.OK {
		t.Fatal(e)
	}
	for _, change := range []func(){
		func() { spoil(then.List, -99); again.List = then.List },
		func() { spoil(then.Log, -99); again.Log = then.Log },
		func() { spoil(s.Code, api.Instr{Op: -99}); same.Code = s.Code },
		func() { spoil(s.Mem, api.Atom{V: -99}); same.Mem = s.Mem },
		func() { spoil(s.Stack, api.Slot{V: -99}); same.Stack = s.Stack },
		func() { gen.Has(l, sp, s); gen.Right(sp) },
	} {
		change()
		if !reflect.DeepEqual(then, again) || !state.Like(s, same) || !slices.Equal(whole(), was) {
			t.Error(then, s, whole())
		}
	}
}
