package vary_test

import (
	"math"
	"reflect"
	"slices"
	"testing"

	"reticent/api"
	"reticent/draw"
	"reticent/equiv"
	"reticent/gen"
	"reticent/lattice"
	"reticent/order"
	"reticent/state"
	"reticent/vary"
)

// made is a lattice of a kind, whose labels are named a, b and so on.
func made(t *testing.T, kind string, n int) api.Lattice {
	t.Helper()
	l, e := order.Make(kind, n)
	if e != api.OK {
		t.Fatal(kind, n, e)
	}
	return l
}

// same is a row of so many of one number.
func same(n, x int) []int { return slices.Repeat([]int{x}, n) }

// space is one where each instruction weighs 1.
func space(code, mem, stack, val int) api.Space {
	return api.Space{Code: code, Mem: mem, Stack: stack, Val: val, Weights: same(13, 1)}
}

// without is a space where an instruction weighs nothing.
func without(sp api.Space, op int) api.Space {
	sp.Weights = slices.Clone(sp.Weights)
	sp.Weights[op] = 0
	return sp
}

func told(t *testing.T, l api.Lattice, text string) api.State {
	t.Helper()
	s, at, e := state.Parse(l, text)
	if e != api.OK {
		t.Fatal(text, at, e)
	}
	return s
}

func like(a, b api.Draws) bool {
	return slices.Equal(a.List, b.List) && a.At == b.At && slices.Equal(a.Log, b.Log)
}

// follows has what is varied be in the space, alike with what it was, and the same to the top.
func follows(t *testing.T, l api.Lattice, sp api.Space, o int, s, other api.State) {
	t.Helper()
	if in, e := gen.Has(l, sp, other); !in || e != api.OK {
		t.Errorf("%v: %v is not in %v: %v", s, other, sp, e)
	}
	if alike, e := equiv.States(l, o, s, other); !alike || e != api.OK {
		t.Errorf("%d: %v is not alike with %v: %v", o, other, s, e)
	}
	if top, e := lattice.Top(l); e != api.OK || top == o && !state.Like(s, other) {
		t.Errorf("the top: %v of %v: %v", other, s, e)
	}
}

// varies tells choices that make another state of one, or draws behind them that are others: all of them are taken, and they are what they are told as.
func varies(t *testing.T, l api.Lattice, sp api.Space, o int, s api.State, choices []int, want api.State) {
	t.Helper()
	d := api.Draws{List: slices.Concat([]int{77}, choices, []int{88}), At: 1, Log: []int{99}}
	left := api.Draws{List: d.List, At: 1 + len(choices), Log: append([]int{99}, choices...)}
	then, other, e := vary.State(l, sp, o, s, d)
	if e != api.OK || !state.Like(other, want) || !like(then, left) {
		t.Errorf("%d, %v, %v: %v %v %v, want %v %v", o, s, choices, then, other, e, left, want)
	}
	follows(t, l, sp, o, s, other)
}

// given are states of the diamond a, b, c, d, in a space of 3 instructions, 2 atoms, 4 slots and numbers up to 5: each with what choices make of it for an observer.
func given() []struct {
	observer int
	text     string
	choices  []int
	want     string
} {
	return []struct {
		observer int
		text     string
		choices  []int
		want     string
	}{
		// Instructions.
		{0, "pc 3 @ a ; code push 1 @ a ; push 2 @ b ; push - 3 @ d ; mem ; stack ; out ;", []int{4, 10}, "pc 3 @ a ; code push 1 @ a ; push - 2 @ b ; push - 5 @ d ; mem ; stack ; out ;"},
		{1, "pc 3 @ a ; code push 1 @ c ; push 2 @ b ; push - 3 @ a ; mem ; stack ; out ;", []int{9}, "pc 3 @ a ; code push 5 @ c ; push 2 @ b ; push - 3 @ a ; mem ; stack ; out ;"},
		{2, "pc 3 @ c ; code push 1 @ c ; push 2 @ b ; push - 3 @ d ; mem ; stack ; out ;", []int{0, 6}, "pc 3 @ c ; code push 1 @ c ; push 0 @ b ; push - 3 @ d ; mem ; stack ; out ;"},
		{0, "pc 3 @ a ; code bnz 5 ; call 2 ; return 1 ; mem ; stack ; out ;", nil, "pc 3 @ a ; code bnz 5 ; call 2 ; return 1 ; mem ; stack ; out ;"},
		{0, "pc 0 @ a ; code push 1 @ b ; halt ; push 2 @ c ; mem ; stack ; out ;", []int{1, 2}, "pc 0 @ a ; code push 1 @ b ; halt ; push - 1 @ c ; mem ; stack ; out ;"},
		// Atoms.
		{0, "pc 0 @ a ; code mem 1 @ a , 2 @ c ; stack ; out ;", []int{8}, "pc 0 @ a ; code mem 1 @ a , - 4 @ c ; stack ; out ;"},
		{2, "pc 0 @ a ; code mem 1 @ b , 2 @ c ; stack ; out ;", []int{7}, "pc 0 @ a ; code mem 4 @ b , 2 @ c ; stack ; out ;"},
		{0, "pc 0 @ a ; code mem 1 @ b , 2 @ d ; stack ; out ;", []int{3, 5}, "pc 0 @ a ; code mem 2 @ b , 3 @ d ; stack ; out ;"},
		// Slots, if where the machine is is seen: nothing is cropped, and none are laid on top.
		{0, "pc 0 @ a ; code mem ; stack ret 3 @ a , 1 @ b , ret 4 @ d , 2 @ a ; out ;", []int{6, 12}, "pc 0 @ a ; code mem ; stack ret 3 @ a , - 3 @ b , ret 12 @ d , 2 @ a ; out ;"},
		{1, "pc 5 @ b ; code mem ; stack 1 @ c , ret 2 @ b , 3 @ d ; out ;", []int{1, 10}, "pc 5 @ b ; code mem ; stack 1 @ c , ret 2 @ b , - 5 @ d ; out ;"},
		{1, "pc 5 @ a ; code mem ; stack 1 @ a ; out ;", nil, "pc 5 @ a ; code mem ; stack 1 @ a ; out ;"},
		// Where the machine is, if that is not seen: its label is one that is not, by its place among these.
		{0, "pc 3 @ d ; code mem ; stack ; out ;", []int{0, 7, 0}, "pc 7 @ b ; code mem ; stack ; out ;"},
		{0, "pc 3 @ d ; code mem ; stack ; out ;", []int{0, 12, 1}, "pc 12 @ c ; code mem ; stack ; out ;"},
		{0, "pc 3 @ b ; code mem ; stack ; out ;", []int{0, 0, 2}, "pc 0 @ d ; code mem ; stack ; out ;"},
		{1, "pc 3 @ c ; code mem ; stack ; out ;", []int{0, 3, 0}, "pc 3 @ c ; code mem ; stack ; out ;"},
		{1, "pc 3 @ d ; code mem ; stack ; out ;", []int{0, 3, 1}, "pc 3 @ d ; code mem ; stack ; out ;"},
		{2, "pc 3 @ b ; code mem ; stack ; out ;", []int{0, 4, 0}, "pc 4 @ b ; code mem ; stack ; out ;"},
		{2, "pc 3 @ b ; code mem ; stack ; out ;", []int{0, 4, 1}, "pc 4 @ d ; code mem ; stack ; out ;"},
		// Slots that are laid on top: one is no place to go back to whose label is seen.
		{0, "pc 3 @ d ; code mem ; stack ; out ;", []int{4, 0, 0, 10, 1, 0, 5, 1, 3, 12, 0, 2, 1, 9, 2}, "pc 9 @ d ; code mem ; stack - 5 @ a , 3 @ a , ret 12 @ d , 1 @ c ; out ;"},
		{1, "pc 3 @ d ; code mem ; stack ; out ;", []int{4, 1, 1, 10, 1, 2, 10, 0, 1, 8, 1, 0, 7, 11, 0}, "pc 11 @ c ; code mem ; stack - 5 @ b , ret 10 @ c , - 4 @ b , 4 @ a ; out ;"},
		// What was above the topmost place to go back to that is seen is cut off.
		{0, "pc 3 @ d ; code mem ; stack 1 @ d , ret 2 @ a , 3 @ d , 4 @ a ; out ;", []int{7, 0, 1, 0}, "pc 1 @ b ; code mem ; stack 4 @ d , ret 2 @ a ; out ;"},
		{0, "pc 3 @ d ; code mem ; stack 1 @ d , ret 2 @ a , 3 @ d , 4 @ a ; out ;", []int{7, 1, 0, 1, 2, 12, 0}, "pc 12 @ b ; code mem ; stack 4 @ d , ret 2 @ a , - 1 @ b ; out ;"},
		{0, "pc 3 @ d ; code mem ; stack 1 @ d , ret 2 @ a , 3 @ d , 4 @ a ; out ;", []int{7, 2, 1, 1, 6, 0, 0, 0, 6, 1}, "pc 6 @ c ; code mem ; stack 4 @ d , ret 2 @ a , ret 6 @ b , 0 @ a ; out ;"},
		{0, "pc 3 @ d ; code mem ; stack ret 1 @ a , ret 2 @ b , 3 @ d ; out ;", []int{0, 6, 1}, "pc 6 @ c ; code mem ; stack ret 1 @ a ; out ;"},
		{1, "pc 3 @ d ; code mem ; stack ret 1 @ a , ret 2 @ b , 3 @ d ; out ;", []int{0, 6, 1}, "pc 6 @ d ; code mem ; stack ret 1 @ a , ret 2 @ b ; out ;"},
		{2, "pc 3 @ d ; code mem ; stack ret 1 @ c , ret 2 @ b , 3 @ d , ret 5 @ d ; out ;", []int{1, 1, 1, 8, 6, 1}, "pc 6 @ d ; code mem ; stack ret 1 @ c , ret 8 @ b ; out ;"},
		{0, "pc 3 @ c ; code mem ; stack 1 @ b , 2 @ a , ret 3 @ d , ret 4 @ a ; out ;", []int{10, 11, 0, 6, 1}, "pc 6 @ c ; code mem ; stack - 5 @ b , 2 @ a , ret 11 @ d , ret 4 @ a ; out ;"},
		{0, "pc 3 @ c ; code mem ; stack 1 @ b , 2 @ a , ret 3 @ d , 4 @ a ; out ;", []int{0, 6, 1}, "pc 6 @ c ; code mem ; stack ; out ;"},
		// All of it, in order.
		{0, "pc 1 @ a ; code push 1 @ b ; add ; push 2 @ a ; mem 3 @ c , 4 @ d ; stack ret 1 @ d , 5 @ a , 5 @ b ; out ;", []int{2, 3, 4, 5, 6}, "pc 1 @ a ; code push - 1 @ b ; add ; push 2 @ a ; mem 2 @ c , - 2 @ d ; stack ret 5 @ d , 5 @ a , - 3 @ b ; out ;"},
		{0, "pc 1 @ b ; code push 1 @ b ; add ; push 2 @ a ; mem 3 @ c , 4 @ a ; stack 5 @ d , ret 1 @ a , 5 @ b ; out ;", []int{2, 3, 4, 1, 1, 2, 9, 8, 2}, "pc 8 @ d ; code push - 1 @ b ; add ; push 2 @ a ; mem 2 @ c , 4 @ a ; stack - 2 @ d , ret 1 @ a , ret 9 @ c ; out ;"},
		// The top sees all.
		{3, "pc 1 @ d ; code push 1 @ b ; add ; push 2 @ d ; mem 3 @ c , 4 @ d ; stack 5 @ d , ret 1 @ a , ret 5 @ d , 5 @ b ; out ;", nil, "pc 1 @ d ; code push 1 @ b ; add ; push 2 @ d ; mem 3 @ c , 4 @ d ; stack 5 @ d , ret 1 @ a , ret 5 @ d , 5 @ b ; out ;"},
	}
}

func TestState(t *testing.T) {
	l := made(t, "diamond", 2)
	for _, x := range given() {
		varies(t, l, space(3, 2, 4, 5), x.observer, told(t, l, x.text), x.choices, told(t, l, x.want))
	}
}

// TestTurned has the first label be the top: so what is no push has a label that is not seen, and stays all the same.
func TestTurned(t *testing.T) {
	l := api.Lattice{Names: []string{"high", "mid", "low"}, Up: []uint32{1, 3, 7}}
	sp := space(5, 2, 3, 5)
	s := told(t, l, "pc 4 @ high ; code bnz 3 ; call 2 ; push 1 @ high ; return 1 ; push 2 @ low ; mem 3 @ mid , 4 @ low ; stack ret 1 @ mid , 2 @ mid ; out ;")
	varies(t, l, sp, 2, s, []int{4, 5, 2, 1, 1, 7, 0, 2, 8, 6, 1}, told(t, l, "pc 6 @ mid ; code bnz 3 ; call 2 ; push - 2 @ high ; return 1 ; push 2 @ low ; mem 3 @ mid , 4 @ low ; stack ret 7 @ mid , - 4 @ low ; out ;"))
	varies(t, l, sp, 1, s, []int{4, 1, 1, 1, 6, 9, 0}, told(t, l, "pc 9 @ high ; code bnz 3 ; call 2 ; push - 2 @ high ; return 1 ; push 2 @ low ; mem 3 @ mid , 4 @ low ; stack ret 1 @ mid , - 3 @ mid ; out ;"))
	varies(t, l, sp, 0, s, nil, s)
}

// TestBounds has each choice be of numbers that are one below 0: so it is the greatest below its bound.
func TestBounds(t *testing.T) {
	for _, x := range []struct {
		kind     string
		n        int
		sp       api.Space
		observer int
		text     string
		choices  []int
		want     string
	}{
		{"chain", 2, space(12, 6, 12, 20), 0, "pc 0 @ a ; code push 0 @ b ; mem 0 @ b ; stack 0 @ b , ret 0 @ b ; out ;", []int{40, 40, 40, 12}, "pc 0 @ a ; code push - 20 @ b ; mem - 20 @ b ; stack - 20 @ b , ret 12 @ b ; out ;"},
		{"chain", 3, space(1, 1, 1, 0), 0, "pc 0 @ b ; code push 0 @ b ; mem 0 @ b ; stack ; out ;", []int{0, 0, 1, 1, 2, 12, 12, 1}, "pc 12 @ c ; code push 0 @ b ; mem 0 @ b ; stack ret 12 @ c ; out ;"},
		{"chain", 3, space(1, 1, 1, 3), 1, "pc 0 @ c ; code push 1 @ b ; mem 1 @ c ; stack ; out ;", []int{6, 1, 1, 2, 12, 12, 0}, "pc 12 @ c ; code push 1 @ b ; mem - 3 @ c ; stack ret 12 @ c ; out ;"},
		{"diamond", 2, space(0, 0, 3, 1), 1, "pc 0 @ c ; code mem ; stack 0 @ c , ret 0 @ b , 0 @ a ; out ;", []int{2, 1, 1, 3, 12, 12, 1}, "pc 12 @ d ; code mem ; stack - 1 @ c , ret 0 @ b , ret 12 @ d ; out ;"},
		{"diamond", 2, space(0, 0, 0, 0), 0, "pc 0 @ c ; code mem ; stack ; out ;", []int{0, 12, 2}, "pc 12 @ d ; code mem ; stack ; out ;"},
		{"power", 3, space(0, 0, 0, 0), 0, "pc 0 @ b ; code mem ; stack ; out ;", []int{0, 12, 6}, "pc 12 @ h ; code mem ; stack ; out ;"},
	} {
		l := made(t, x.kind, x.n)
		s, want := told(t, l, x.text), told(t, l, x.want)
		varies(t, l, x.sp, x.observer, s, x.choices, want)
		d := api.Draws{List: same(500, -1)}
		left := api.Draws{List: d.List, At: len(x.choices), Log: x.choices}
		if then, other, e := vary.State(l, x.sp, x.observer, s, d); e != api.OK || !state.Like(other, want) || !like(then, left) {
			t.Errorf("%s: %v %v %v, want %v %s", x.text, then, other, e, left, x.want)
		}
	}
}

// TestNoChoices has all that is not seen be the first one that may be, behind the List's end.
func TestNoChoices(t *testing.T) {
	l := made(t, "diamond", 2)
	sp := space(3, 2, 4, 5)
	for _, x := range []struct {
		text, want string
		choices    int
	}{
		{"pc 5 @ a ; code push 1 @ a ; push 2 @ b ; bnz 3 ; mem 4 @ d , 5 @ a ; stack 1 @ c , ret 2 @ b , ret 3 @ a , 4 @ a ; out ;", "pc 5 @ a ; code push 1 @ a ; push 0 @ b ; bnz 3 ; mem 0 @ d , 5 @ a ; stack 0 @ c , ret 0 @ b , ret 3 @ a , 4 @ a ; out ;", 4},
		{"pc 5 @ d ; code push 1 @ a ; push 2 @ b ; bnz 3 ; mem 4 @ d , 5 @ a ; stack 1 @ c , ret 2 @ b , ret 3 @ a , 4 @ a ; out ;", "pc 0 @ b ; code push 1 @ a ; push 0 @ b ; bnz 3 ; mem 0 @ d , 5 @ a ; stack 0 @ c , ret 0 @ b , ret 3 @ a ; out ;", 7},
	} {
		for _, d := range []api.Draws{{}, {List: []int{7, 8, 9}, At: 3}, {At: math.MaxInt, Log: []int{9}}, {List: make([]int, 500), At: 498, Log: same(100, 3)}} {
			want := api.Draws{List: d.List, At: max(d.At, min(d.At+x.choices, len(d.List))), Log: slices.Concat(d.Log, same(x.choices, 0))}
			then, other, e := vary.State(l, sp, 0, told(t, l, x.text), d)
			if e != api.OK || !state.Like(other, told(t, l, x.want)) || !like(then, want) {
				t.Errorf("%s, %v: %v %v %v, want %v %s", x.text, d, then, other, e, want, x.want)
			}
		}
	}
}

// TestTop has nothing be varied, and nothing be chosen, also where there is no room for a choice.
func TestTop(t *testing.T) {
	l := made(t, "diamond", 2)
	turned := api.Lattice{Names: []string{"high", "low"}, Up: []uint32{1, 3}}
	for _, d := range []api.Draws{{}, {List: []int{1, 2, 3}, At: 1, Log: []int{4}}, {List: same(500, 1), At: 2, Log: same(2000, 1)}} {
		for _, x := range given() {
			s := told(t, l, x.text)
			if then, other, e := vary.State(l, space(3, 2, 4, 5), 3, s, d); e != api.OK || !state.Like(other, s) || !like(then, d) {
				t.Errorf("%s: %v %v %v", x.text, then, other, e)
			}
		}
		s := told(t, turned, "pc 4 @ high ; code push 1 @ high ; mem 2 @ low ; stack ret 1 @ high , 3 @ low ; out ;")
		if then, other, e := vary.State(turned, space(1, 1, 2, 3), 0, s, d); e != api.OK || !state.Like(other, s) || !like(then, d) {
			t.Errorf("%v %v %v", then, other, e)
		}
	}
}

// TestRoom has all choices find room in the Log just so, and one more be too many, whichever it is.
func TestRoom(t *testing.T) {
	l := made(t, "diamond", 2)
	for _, x := range given() {
		s := told(t, l, x.text)
		for room := range len(x.choices) + 2 {
			d := api.Draws{List: x.choices, Log: same(2000-room, 5)}
			if room < len(x.choices) {
				refused(t, l, space(3, 2, 4, 5), x.observer, s, d, api.ErrMany)
				continue
			}
			want := api.Draws{List: d.List, At: len(x.choices), Log: slices.Concat(d.Log, x.choices)}
			then, other, e := vary.State(l, space(3, 2, 4, 5), x.observer, s, d)
			if e != api.OK || !state.Like(other, told(t, l, x.want)) || !like(then, want) {
				t.Errorf("%s, %d: %v %v %v", x.text, room, then, other, e)
			}
		}
	}
}

// isEmpty tells the state that answers beside an error are: all of it is 0, or has no elements.
func isEmpty(s api.State) bool { return state.Like(s, api.State{}) }

// refused tells an answer that has not its error, or something beside it.
func refused(t *testing.T, l api.Lattice, sp api.Space, o int, s api.State, d api.Draws, want api.Errno) {
	t.Helper()
	if then, other, e := vary.State(l, sp, o, s, d); e != want || !isEmpty(other) || !like(then, api.Draws{}) {
		t.Errorf("%v, %v, %d, %v, %v: %v %v %v, want %v", l, sp, o, s, d, then, other, e, want)
	}
}

func refusedPair(t *testing.T, l api.Lattice, sp api.Space, o int, d api.Draws, want api.Errno) {
	t.Helper()
	if then, a, b, e := vary.Pair(l, sp, o, d); e != want || !isEmpty(a) || !isEmpty(b) || !like(then, api.Draws{}) {
		t.Errorf("%v, %v, %d, %v: %v %v %v %v, want %v", l, sp, o, d, then, a, b, e, want)
	}
}

// badLattices are such as are none, each with its error.
func badLattices() map[api.Errno]api.Lattice {
	return map[api.Errno]api.Lattice{
		api.ErrArg:   {Names: []string{"a", "a"}, Up: []uint32{3, 2}},
		api.ErrOrder: {Names: []string{"a", "b"}, Up: []uint32{3, 3}},
		api.ErrJoin:  {Names: []string{"a", "b"}, Up: []uint32{1, 2}},
	}
}

// badSpaces are such as may not be, each for a reason of its own.
func badSpaces() []api.Space {
	all := []api.Space{{}, space(-1, 2, 4, 5), space(13, 2, 4, 5), space(3, -1, 4, 5), space(3, 7, 4, 5), space(3, 2, -1, 5), space(3, 2, 13, 5), space(3, 2, 4, -1), space(3, 2, 4, 21), space(math.MaxInt, 2, 4, 5), space(3, 2, math.MinInt, 5)}
	for _, weights := range [][]int{nil, same(12, 1), same(14, 1), same(13, 0), same(13, 101), append(same(12, 1), -1)} {
		all = append(all, api.Space{Code: 3, Mem: 2, Stack: 4, Val: 5, Weights: weights})
	}
	return all
}

// badStates are such as are not in a space of 3 instructions, but noop, 2 atoms, 4 slots and numbers up to 5, of 2 labels: some of them may not be.
func badStates() []api.State {
	return []api.State{
		{Code: slices.Repeat([]api.Instr{{Op: api.IHalt}}, 4)}, {Mem: make([]api.Atom, 3)}, {Stack: make([]api.Slot, 5)}, {Out: make([]api.Atom, 1)}, {Code: []api.Instr{{Op: api.INoop}}},
		{Code: []api.Instr{{Op: api.IPush, N: 6}}}, {Code: []api.Instr{{Op: api.IPush, N: -6}}}, {Mem: []api.Atom{{V: 6}}}, {Stack: []api.Slot{{V: -6}}},
		{Pc: api.Atom{V: -1}}, {Pc: api.Atom{V: 13}}, {Pc: api.Atom{L: -1}}, {Pc: api.Atom{L: 2}}, {Code: []api.Instr{{Op: 13}}}, {Code: []api.Instr{{Op: -1}}}, {Code: []api.Instr{{Op: api.IPush, L: 2}}},
		{Mem: []api.Atom{{L: 2}}}, {Stack: []api.Slot{{L: math.MaxInt}}}, {Stack: []api.Slot{{Ret: true, V: 13}}}, {Stack: []api.Slot{{Ret: true, L: 2}}}, {Out: []api.Atom{{L: math.MinInt}}},
	}
}

// goodStates are in that space.
func goodStates() []api.State {
	return []api.State{
		{}, {Pc: api.Atom{V: 12, L: 1}}, {Pc: api.Atom{V: 1}, Code: []api.Instr{{Op: api.IPush, N: 5, L: 1}}}, {Mem: []api.Atom{{V: -5, L: 1}}},
		{Pc: api.Atom{L: 1}, Stack: []api.Slot{{Ret: true, V: 12}, {V: 5, L: 1}}},
	}
}

// noLabels are of two labels none.
func noLabels() []int {
	return []int{-1, 2, 3, 8, 31, 32, 64, 100, math.MinInt, math.MaxInt}
}

// drawn are draws with lists of such lengths.
func drawn(list, at, log int) api.Draws {
	return api.Draws{List: same(list, 3), At: at, Log: same(log, 5)}
}

// badDraws are draws that may not be.
func badDraws() []api.Draws {
	return []api.Draws{
		{At: -1}, {At: math.MinInt}, {List: []int{1, 2}, At: -1, Log: []int{1}},
		drawn(501, 0, 0), drawn(501, 501, 0), drawn(0, 0, 2001), drawn(501, -1, 2001), drawn(0, -1, 2000),
	}
}

func goodDraws() []api.Draws {
	return []api.Draws{{}, drawn(3, 0, 0), drawn(500, 500, 1990), drawn(3, 1, 2000)}
}

// TestErrors has each error come ahead of all that stand behind it: the lattice's, the space's, the state's, the observer's, that of draws that may not be, and that of too many.
func TestErrors(t *testing.T) {
	l, sp := made(t, "chain", 2), without(space(3, 2, 4, 5), api.INoop)
	for _, d := range append(badDraws(), goodDraws()...) {
		for _, o := range append(noLabels(), 0, 1) {
			for _, s := range append(badStates(), goodStates()...) {
				refused(t, api.Lattice{}, sp, o, s, d, api.ErrArg)
				for want, none := range badLattices() {
					refused(t, none, sp, o, s, d, want)
					refused(t, none, api.Space{}, o, s, d, want)
				}
				for _, none := range badSpaces() {
					refused(t, l, none, o, s, d, api.ErrArg)
				}
			}
			for _, s := range badStates() {
				refused(t, l, sp, o, s, d, api.ErrArg)
			}
		}
		for _, o := range noLabels() {
			for _, s := range goodStates() {
				refused(t, l, sp, o, s, d, api.ErrNone)
			}
		}
	}
	for _, s := range goodStates() {
		for _, d := range badDraws() {
			refused(t, l, sp, 0, s, d, api.ErrArg)
			refused(t, l, sp, 1, s, d, api.ErrArg)
		}
	}
	for i, s := range goodStates()[1:] {
		refused(t, l, sp, 0, s, drawn(i, 0, 2000), api.ErrMany)
	}
}

// TestPairErrors has gen.State's errors come ahead of the observer's, also that of a Log that is full as the first state is made, and that one ahead of a Log that is full behind it.
func TestPairErrors(t *testing.T) {
	l, sp := made(t, "chain", 2), space(3, 2, 4, 5)
	draws, observers := append(badDraws(), goodDraws()...), append(noLabels(), 0, 1)
	for _, o := range observers {
		for _, d := range draws {
			for want, none := range badLattices() {
				for _, other := range append(badSpaces(), sp) {
					refusedPair(t, none, other, o, d, want)
				}
			}
			refusedPair(t, api.Lattice{}, sp, o, d, api.ErrArg)
			for _, none := range badSpaces() {
				refusedPair(t, l, none, o, d, api.ErrArg)
			}
		}
		for _, d := range badDraws() {
			refusedPair(t, l, sp, o, d, api.ErrArg)
		}
		for room := range 5 {
			refusedPair(t, l, sp, o, drawn(0, 0, 2000-room), api.ErrMany)
		}
	}
	for _, o := range noLabels() {
		for _, d := range []api.Draws{{}, {List: []int{0, 0, 0, 0, 1}, Log: same(1995, 5)}, {List: []int{0, 1, 1, 1, 0, 3, 1}, Log: same(1990, 5)}} {
			refusedPair(t, l, sp, o, d, api.ErrNone)
		}
	}
}

// TestPair has the second state be made by the draws that the first one left.
func TestPair(t *testing.T) {
	l, sp := made(t, "diamond", 2), space(3, 2, 4, 5)
	for _, x := range []struct {
		observer int
		choices  []int
		a, b     string
	}{
		{0, []int{0, 0, 0, 12, 0}, "pc 12 @ a ; code mem ; stack ; out ;", "pc 12 @ a ; code mem ; stack ; out ;"},
		{0, []int{0, 0, 0, 0, 3, 0, 7, 1}, "pc 0 @ d ; code mem ; stack ; out ;", "pc 7 @ c ; code mem ; stack ; out ;"},
		{1, []int{1, 1, 3, 2, 1, 4, 3, 1, 1, 6, 3, 5, 1, 9, 8, 12}, "pc 5 @ b ; code push 2 @ c ; mem - 2 @ d ; stack ret 6 @ d ; out ;", "pc 5 @ b ; code push 5 @ c ; mem - 4 @ d ; stack ret 12 @ d ; out ;"},
		{0, []int{1, 1, 3, 2, 0, 2, 1, 6, 0, 0, 1, 2, 8, 1, 10, 1, 1, 3, 4, 2, 2}, "pc 8 @ b ; code push 2 @ c ; mem ; stack ret 6 @ a , 1 @ c ; out ;", "pc 2 @ d ; code push - 5 @ c ; mem ; stack ret 6 @ a , ret 4 @ d ; out ;"},
		{3, []int{1, 1, 3, 2, 0, 2, 1, 6, 0, 0, 1, 2, 8, 1}, "pc 8 @ b ; code push 2 @ c ; mem ; stack ret 6 @ a , 1 @ c ; out ;", "pc 8 @ b ; code push 2 @ c ; mem ; stack ret 6 @ a , 1 @ c ; out ;"},
	} {
		for room := range len(x.choices) + 2 {
			d := api.Draws{List: slices.Concat([]int{77}, x.choices, []int{88}), At: 1, Log: same(2000-room, 5)}
			if room < len(x.choices) {
				refusedPair(t, l, sp, x.observer, d, api.ErrMany)
				continue
			}
			want := api.Draws{List: d.List, At: 1 + len(x.choices), Log: slices.Concat(d.Log, x.choices)}
			then, a, b, e := vary.Pair(l, sp, x.observer, d)
			if e != api.OK || !state.Like(a, told(t, l, x.a)) || !state.Like(b, told(t, l, x.b)) || !like(then, want) {
				t.Errorf("%d, %v: %v %v %v %v, want %s %s", x.observer, x.choices, then, a, b, e, x.a, x.b)
			}
			follows(t, l, sp, x.observer, a, b)
		}
	}
}

// spoil changes a list, and what room is behind it.
func spoil[T any](l []T, x T) {
	l = l[:cap(l)]
	for i := range l {
		l[i] = x
	}
}

// roomy is a list of the same, with room behind it that is the caller's as well.
func roomy[T any](l []T) []T {
	var x T
	return append(slices.Clone(l), x, x)[:len(l)]
}

// handed are the arguments of a call, with room behind their lists.
func handed(t *testing.T, l api.Lattice, text string) (api.Space, api.State, api.Draws) {
	sp, s := space(3, 2, 4, 5), told(t, l, text)
	sp.Weights = roomy(sp.Weights)
	s = api.State{Pc: s.Pc, Code: roomy(s.Code), Mem: roomy(s.Mem), Stack: roomy(s.Stack)}
	return sp, s, api.Draws{List: roomy([]int{1, 2, 3, 4, 5, 6, 7, 8, 9}), Log: roomy([]int{8, 9})}
}

// TestNothingShared has each list of an answer be changed, and neither the arguments nor the answer's other lists change: whether something is varied or nothing.
func TestNothingShared(t *testing.T) {
	l := made(t, "diamond", 2)
	for _, x := range given() {
		for _, o := range []int{x.observer, 3} {
			sp, s, d := handed(t, l, x.text)
			sp2, s2, d2 := handed(t, l, x.text)
			then, other, e := vary.State(l, sp, o, s, d)
			again, copied, _ := vary.State(l, sp2, o, s2, d2)
			if e != api.OK {
				t.Fatal(e)
			}
			for _, change := range []func(){
				func() { spoil(then.List, -99); again.List = then.List },
				func() { spoil(then.Log, -99); again.Log = then.Log },
				func() { spoil(other.Code, api.Instr{Op: -99}); copied.Code = other.Code },
				func() { spoil(other.Mem, api.Atom{V: -99}); copied.Mem = other.Mem },
				func() { spoil(other.Stack, api.Slot{V: -99}); copied.Stack = other.Stack },
			} {
				change()
				if !like(then, again) || !state.Like(other, copied) || !reflect.DeepEqual(whole(sp, s, d), whole(sp2, s2, d2)) {
					t.Error(then, other, sp, s, d)
				}
			}
		}
	}
}

// whole are all lists that were handed in, with the room behind them.
func whole(sp api.Space, s api.State, d api.Draws) []any {
	return []any{sp.Weights[:15], s.Pc, s.Code[:len(s.Code)+2], s.Mem[:len(s.Mem)+2], s.Stack[:len(s.Stack)+2], d.List[:11], d.Log[:4]}
}

// TestPairSharesNothing has one of two states be changed, and the other one stay.
func TestPairSharesNothing(t *testing.T) {
	l := made(t, "chain", 2)
	for _, pc := range []int{0, 1} {
		d := draw.New([]int{1, 1, 3, 1, 1, 4, 1, 2, 1, 6, 0, 0, 3, 1, 5, pc, 1, 2, 3})
		for o := range 2 {
			_, a, b, e := vary.Pair(l, space(3, 2, 4, 5), o, d)
			_, a2, b2, _ := vary.Pair(l, space(3, 2, 4, 5), o, d)
			spoil(a.Code, api.Instr{Op: -99})
			spoil(a.Mem, api.Atom{V: -99})
			spoil(a.Stack, api.Slot{V: -99})
			if e != api.OK || !state.Like(b, b2) {
				t.Error(b, b2, e)
			}
			spoil(b2.Code, api.Instr{Op: -99})
			spoil(b2.Mem, api.Atom{V: -99})
			spoil(b2.Stack, api.Slot{V: -99})
			if _, again, _, _ := vary.Pair(l, space(3, 2, 4, 5), o, d); !state.Like(a2, again) || len(a2.Code)+len(a2.Mem)+len(a2.Stack) != 4 {
				t.Error(a2, again)
			}
		}
	}
}
