package equiv_test

import (
	"math"
	"reflect"
	"slices"
	"strings"
	"testing"

	"reticent/api"
	"reticent/copied"
	"reticent/equiv"
	"reticent/order"
	"reticent/state"
)

// made is a lattice of a kind, whose labels are named a, b and so on.
func made(t *testing.T, kind string, n int) api.Lattice {
	t.Helper()
	l, e := order.Make(kind, n)
	if e != api.OK {
		t.Fatal(kind, n, e)
	}
	return l
}

// told is a state, whose Pc, Code, Mem, Stack and Out are as they are written, with | between.
func told(t *testing.T, l api.Lattice, text string) api.State {
	t.Helper()
	part := strings.Split(text, "|")
	all := "pc " + part[0] + " ; code " + part[1] + " mem " + part[2] + " ; stack " + part[3] + " ; out " + part[4] + " ;"
	s, at, e := state.Parse(l, all)
	if e != api.OK {
		t.Fatal(all, at, e)
	}
	return s
}

func toldStack(t *testing.T, l api.Lattice, text string) []api.Slot {
	t.Helper()
	return told(t, l, "0 @ a | | |"+text+"|").Stack
}

func toldAtoms(t *testing.T, l api.Lattice, text string) []api.Atom {
	t.Helper()
	return told(t, l, "0 @ a | | "+text+"| |").Mem
}

// is tells an answer that is another one, of two things whichever is first.
func is[T any](t *testing.T, call func(l api.Lattice, o int, a, b T) (bool, api.Errno), l api.Lattice, o int, a, b T, want bool) {
	t.Helper()
	if got, e := call(l, o, a, b); got != want || e != api.OK {
		t.Errorf("%d: %v and %v: %v %v, want %v", o, a, b, got, e, want)
	}
	if got, e := call(l, o, b, a); got != want || e != api.OK {
		t.Errorf("%d: %v and %v: %v %v, want %v", o, b, a, got, e, want)
	}
}

// seenBy tells who has two things for alike that should not, or the other way round: the observers to whom they are alike are named.
func seenBy[T any](t *testing.T, call func(l api.Lattice, o int, a, b T) (bool, api.Errno), l api.Lattice, a, b T, alike string) {
	t.Helper()
	for o, name := range l.Names {
		is(t, call, l, o, a, b, strings.Contains(alike, name))
	}
}

// TestAtoms has the diamond's labels: a is below b and c, and both are below d.
func TestAtoms(t *testing.T) {
	l := made(t, "diamond", 2)
	for _, x := range []struct{ a, b, alike string }{
		{"", "", "abcd"},
		{"1 @ d", "1 @ d", "abcd"},
		{"1 @ d", "2 @ d", "abc"},
		{"1 @ b", "2 @ b", "ac"},
		{"1 @ c", "- 1 @ c", "ab"},
		{"1 @ a", "2 @ a", ""},
		{"1 @ d", "1 @ a", ""},
		{"1 @ d", "1 @ c", ""},
		{"1 @ c", "1 @ b", ""},
		{"1 @ d", "", ""},
		{"1 @ d", "1 @ d , 1 @ d", ""},
		{"1 @ b , 1 @ c", "2 @ b , 2 @ c", "a"},
		{"1 @ b , 1 @ c", "2 @ b , 1 @ c", "ac"},
		{"1 @ b , 1 @ c", "1 @ b , 2 @ c", "ab"},
		{"1 @ b , 1 @ c", "1 @ c , 1 @ b", ""},
		{"1 @ d , 2 @ d", "2 @ d , 1 @ d", "abc"},
	} {
		seenBy(t, equiv.Atoms, l, toldAtoms(t, l, x.a), toldAtoms(t, l, x.b), x.alike)
	}
}

// TestCodes has what is pushed alone be hidden, also from instructions that may not be: a number of another one is none that is pushed.
func TestCodes(t *testing.T) {
	l := made(t, "diamond", 2)
	for _, x := range []struct {
		a, b  []api.Instr
		alike string
	}{
		{nil, nil, "abcd"},
		{[]api.Instr{{Op: api.IPush, N: 1, L: 1}}, []api.Instr{{Op: api.IPush, N: 2, L: 1}}, "ac"},
		{[]api.Instr{{Op: api.IPush, N: 1, L: 3}}, []api.Instr{{Op: api.IPush, N: 2, L: 3}}, "abc"},
		{[]api.Instr{{Op: api.IPush, N: 1}}, []api.Instr{{Op: api.IPush, N: 2}}, ""},
		{[]api.Instr{{Op: api.IPush, L: 1}}, []api.Instr{{Op: api.IPush, L: 3}}, ""},
		{[]api.Instr{{Op: api.IBnz, N: 1}}, []api.Instr{{Op: api.IBnz, N: 2}}, ""},
		{[]api.Instr{{Op: api.IBnz, N: 1, L: 3}}, []api.Instr{{Op: api.IBnz, N: 2, L: 3}}, ""},
		{[]api.Instr{{Op: api.IBnz, N: 1, L: 3}}, []api.Instr{{Op: api.IBnz, N: 1, L: 2}}, ""},
		{[]api.Instr{{Op: api.ICall, N: 1}}, []api.Instr{{Op: api.ICall}}, ""},
		{[]api.Instr{{Op: api.IReturn, N: 1, L: 3}}, []api.Instr{{Op: api.IReturn, L: 3}}, ""},
		{[]api.Instr{{Op: api.INoop}}, []api.Instr{{Op: api.IPop}}, ""},
		{[]api.Instr{{Op: api.IPush, L: 3}}, []api.Instr{{Op: api.INoop, L: 3}}, ""},
		{[]api.Instr{{Op: -5, N: 1, L: 3}}, []api.Instr{{Op: -5, N: 2, L: 3}}, ""},
		{[]api.Instr{{Op: api.IAll, N: math.MinInt, L: 3}}, []api.Instr{{Op: api.IAll, N: math.MinInt, L: 3}}, "abcd"},
		{[]api.Instr{{Op: api.IPush, N: math.MinInt, L: 3}}, []api.Instr{{Op: api.IPush, N: math.MaxInt, L: 3}}, "abc"},
		{[]api.Instr{{Op: api.IHalt}}, []api.Instr{{Op: api.IHalt}, {Op: api.IHalt}}, ""},
		{[]api.Instr{{Op: api.IHalt}}, nil, ""},
		{[]api.Instr{{Op: api.IAdd}, {Op: api.IPush, N: 1, L: 2}, {Op: api.IHalt}}, []api.Instr{{Op: api.IAdd}, {Op: api.IPush, N: 7, L: 2}, {Op: api.IHalt}}, "ab"},
	} {
		seenBy(t, equiv.Codes, l, x.a, x.b, x.alike)
	}
}

func TestStacks(t *testing.T) {
	l := made(t, "diamond", 2)
	for _, x := range []struct{ a, b, alike string }{
		{"", "", "abcd"},
		{"1 @ d", "2 @ d", "abc"},
		{"ret 1 @ b", "ret 2 @ b", "ac"},
		{"ret 1 @ a", "ret 2 @ a", ""},
		{"ret 1 @ d", "1 @ d", ""},
		{"ret 1 @ d", "ret 1 @ a", ""},
		{"ret 1 @ d", "", ""},
		{"ret 1 @ a , 1 @ d", "ret 1 @ a , 2 @ d", "abc"},
		{"ret 1 @ a , 1 @ d", "ret 1 @ a", ""},
		{"1 @ b , ret 1 @ c", "2 @ b , ret 2 @ c", "a"},
		{"1 @ b , ret 1 @ c", "ret 1 @ c , 1 @ b", ""},
	} {
		seenBy(t, equiv.Stacks, l, toldStack(t, l, x.a), toldStack(t, l, x.b), x.alike)
	}
}

// TestOuts has what is not seen leave nothing, not even a place.
func TestOuts(t *testing.T) {
	l := made(t, "diamond", 2)
	for _, x := range []struct{ a, b, alike string }{
		{"", "", "abcd"},
		{"1 @ d", "", "abc"},
		{"1 @ b", "1 @ c", "a"},
		{"1 @ b", "1 @ d", "ac"},
		{"1 @ b , 1 @ c", "1 @ c , 1 @ b", "abc"},
		{"1 @ b , 2 @ b", "2 @ b , 1 @ b", "ac"},
		{"1 @ b , 1 @ b", "1 @ b", "ac"},
		{"1 @ a , 1 @ d", "2 @ d , 1 @ a , 3 @ d", "abc"},
		{"1 @ a , 1 @ d", "1 @ a , 2 @ a", ""},
		{"1 @ a", "1 @ b", ""},
		{"1 @ a", "2 @ a", ""},
	} {
		seenBy(t, equiv.Outs, l, toldAtoms(t, l, x.a), toldAtoms(t, l, x.b), x.alike)
	}
}

func TestCrop(t *testing.T) {
	l := made(t, "diamond", 2)
	for _, x := range []struct {
		stack   string
		cropped [4]string
	}{
		{"", [4]string{}},
		{"1 @ a , 2 @ a", [4]string{}},
		{"ret 1 @ a", [4]string{"ret 1 @ a", "ret 1 @ a", "ret 1 @ a", "ret 1 @ a"}},
		{"ret 1 @ d", [4]string{3: "ret 1 @ d"}},
		{"ret 1 @ a , 2 @ a , 3 @ d", [4]string{"ret 1 @ a", "ret 1 @ a", "ret 1 @ a", "ret 1 @ a"}},
		{"1 @ d , ret 2 @ b , ret 3 @ c", [4]string{"", "1 @ d , ret 2 @ b", "1 @ d , ret 2 @ b , ret 3 @ c", "1 @ d , ret 2 @ b , ret 3 @ c"}},
		{"ret 1 @ a , 2 @ d , ret 3 @ d , ret 4 @ b , 5 @ a", [4]string{"ret 1 @ a", "ret 1 @ a , 2 @ d , ret 3 @ d , ret 4 @ b", "ret 1 @ a", "ret 1 @ a , 2 @ d , ret 3 @ d , ret 4 @ b"}},
	} {
		s := toldStack(t, l, x.stack)
		for o, text := range x.cropped {
			if got, e := equiv.Crop(l, o, s); !slices.Equal(got, toldStack(t, l, text)) || e != api.OK {
				t.Errorf("%d: %s: %v %v, want %s", o, x.stack, got, e, text)
			}
		}
	}
}

// TestStates has each part tell, and machines that are not seen go on as they like above where they go back to what is seen.
func TestStates(t *testing.T) {
	l := made(t, "diamond", 2)
	for _, x := range []struct{ a, b, alike string }{
		{"0 @ a | | | |", "0 @ a | | | |", "abcd"},
		{"0 @ a | | | |", "1 @ a | | | |", ""},
		{"0 @ b | | | |", "1 @ b | | | |", "ac"},
		{"0 @ b | | | |", "0 @ a | | | |", ""},
		{"0 @ b | | | |", "0 @ c | | | |", "a"},
		{"0 @ b | | | |", "7 @ d | | | |", "ac"},
		{"0 @ a | push 1 @ b ; | | |", "0 @ a | push 2 @ b ; | | |", "ac"},
		{"0 @ a | noop ; | | |", "0 @ a | pop ; | | |", ""},
		{"0 @ d | noop ; | | |", "0 @ d | noop ; noop ; | | |", ""},
		{"0 @ a | | 1 @ b | |", "0 @ a | | 2 @ b | |", "ac"},
		{"0 @ a | | 1 @ b | |", "0 @ a | | 1 @ c | |", ""},
		{"0 @ d | | 1 @ d | |", "0 @ d | | | |", ""},
		{"0 @ a | | | | 1 @ b", "0 @ a | | | | 2 @ c", "a"},
		{"0 @ d | | | | 1 @ a", "0 @ d | | | |", ""},
		{"0 @ a | | | 1 @ b |", "0 @ a | | | 2 @ b |", "ac"},
		{"0 @ a | | | 1 @ d |", "0 @ a | | | |", ""},
		{"0 @ a | | | ret 1 @ a , 1 @ d |", "0 @ a | | | ret 1 @ a |", ""},
		{"0 @ d | | | ret 1 @ a , 1 @ d |", "0 @ d | | | ret 1 @ a |", "abc"},
		{"0 @ d | | | ret 1 @ a , 1 @ a |", "3 @ d | | | ret 1 @ a , 2 @ a , ret 3 @ d |", "abc"},
		{"0 @ d | | | ret 1 @ a |", "0 @ d | | | |", ""},
		{"0 @ d | | | ret 1 @ b |", "0 @ d | | | |", "ac"},
		{"0 @ d | | | ret 1 @ a |", "0 @ d | | | ret 2 @ a |", ""},
		{"0 @ d | | | 1 @ d , ret 1 @ a |", "0 @ d | | | 2 @ d , ret 1 @ a |", "abc"},
		{"0 @ d | | | 1 @ d , ret 1 @ a |", "0 @ d | | | ret 1 @ a |", ""},
		{"0 @ b | | | ret 1 @ c |", "0 @ b | | | ret 2 @ c |", "ab"},
		{"0 @ c | | | ret 1 @ c |", "0 @ c | | | |", "ab"},
	} {
		seenBy(t, equiv.States, l, told(t, l, x.a), told(t, l, x.b), x.alike)
	}
}

// TestNumbers has numbers of any size, which no state may have, be numbers as any other.
func TestNumbers(t *testing.T) {
	l := made(t, "chain", 2)
	for o, want := range []bool{true, false} {
		is(t, equiv.Atoms, l, o, []api.Atom{{V: math.MinInt, L: 1}}, []api.Atom{{V: math.MaxInt, L: 1}}, want)
		is(t, equiv.Stacks, l, o, []api.Slot{{Ret: true, V: math.MinInt, L: 1}}, []api.Slot{{Ret: true, V: -1, L: 1}}, want)
		is(t, equiv.Outs, l, o, []api.Atom{{V: math.MinInt, L: 1}}, nil, want)
		is(t, equiv.States, l, o, api.State{Pc: api.Atom{V: math.MinInt, L: 1}}, api.State{Pc: api.Atom{V: 99, L: 1}}, want)
	}
	long := make([]api.Atom, 5000)
	is(t, equiv.Atoms, l, 0, long, slices.Clone(long), true)
	is(t, equiv.Outs, l, 0, long, long[1:], false)
}

// some is a state that has a label in each of its parts.
func some() api.State {
	return api.State{
		Pc:    api.Atom{V: 1, L: 1},
		Code:  []api.Instr{{Op: api.IPush, N: 3, L: 1}, {Op: api.IHalt}},
		Mem:   []api.Atom{{V: 4, L: 1}, {V: 5}},
		Stack: []api.Slot{{Ret: true, V: 6}, {V: 7, L: 1}},
		Out:   []api.Atom{{V: 8}, {V: 9, L: 1}},
	}
}

// calls are all calls, each handed its parts of two states; Crop is handed the first one's stack.
var calls = []func(l api.Lattice, o int, a, b api.State) (bool, api.Errno){
	equiv.States,
	func(l api.Lattice, o int, a, b api.State) (bool, api.Errno) {
		return equiv.Codes(l, o, a.Code, b.Code)
	},
	func(l api.Lattice, o int, a, b api.State) (bool, api.Errno) {
		return equiv.Atoms(l, o, a.Mem, b.Mem)
	},
	func(l api.Lattice, o int, a, b api.State) (bool, api.Errno) {
		return equiv.Stacks(l, o, a.Stack, b.Stack)
	},
	func(l api.Lattice, o int, a, b api.State) (bool, api.Errno) {
		return equiv.Outs(l, o, a.Out, b.Out)
	},
	func(l api.Lattice, o int, a, b api.State) (bool, api.Errno) {
		s, e := equiv.Crop(l, o, a.Stack)
		return len(s) != 0, e
	},
}

// labelled are the places of a state's labels, each with the calls that are handed it.
var labelled = []struct {
	at    func(s *api.State) *int
	calls []int
}{
	{func(s *api.State) *int { return &s.Pc.L }, []int{0}},
	{func(s *api.State) *int { return &s.Code[0].L }, []int{0, 1}},
	{func(s *api.State) *int { return &s.Code[1].L }, []int{0, 1}},
	{func(s *api.State) *int { return &s.Mem[0].L }, []int{0, 2}},
	{func(s *api.State) *int { return &s.Mem[1].L }, []int{0, 2}},
	{func(s *api.State) *int { return &s.Stack[0].L }, []int{0, 3, 5}},
	{func(s *api.State) *int { return &s.Stack[1].L }, []int{0, 3, 5}},
	{func(s *api.State) *int { return &s.Out[0].L }, []int{0, 4}},
	{func(s *api.State) *int { return &s.Out[1].L }, []int{0, 4}},
}

// away has one label in all places.
func away(label int) api.State {
	s := some()
	for _, x := range labelled {
		*x.at(&s) = label
	}
	return s
}

// refused tells a call that has not its error, or an answer beside it.
func refused(t *testing.T, call int, l api.Lattice, o int, a, b api.State, want api.Errno) {
	t.Helper()
	if got, e := calls[call](l, o, a, b); got || e != want {
		t.Errorf("call %d of %v, %d, %v and %v: %v %v, want %v", call, l, o, a, b, got, e, want)
	}
}

// TestErrors has a lattice's error come ahead of a label's, and that of an observer's or a thing's ahead of what differs.
func TestErrors(t *testing.T) {
	names := []string{"a", "b"}
	l := made(t, "chain", 2)
	for call := range calls {
		for e, l := range map[api.Errno]api.Lattice{
			api.ErrArg:   {},
			api.ErrOrder: {Names: names, Up: []uint32{3, 3}},
			api.ErrJoin:  {Names: names, Up: []uint32{1, 2}},
		} {
			for _, o := range []int{0, -1, 2, math.MaxInt} {
				refused(t, call, l, o, some(), some(), e)
				refused(t, call, l, o, away(5), some(), e)
			}
		}
		for _, none := range []int{-1, 2, 8, 64, math.MinInt, math.MaxInt} {
			refused(t, call, l, none, some(), some(), api.ErrNone)
			refused(t, call, l, none, api.State{}, api.State{}, api.ErrNone)
			refused(t, call, l, 0, away(none), away(none), api.ErrNone)
			refused(t, call, l, none, away(none), some(), api.ErrNone)
		}
	}
}

// TestEachLabel has one that is none in each place, beside a thing that is alike otherwise, or one that is shorter: no call that is handed it answers, whoever sees what, and the others do.
func TestEachLabel(t *testing.T) {
	l := made(t, "chain", 2)
	for _, x := range labelled {
		for _, none := range []int{-1, 2, math.MinInt, math.MaxInt} {
			a := some()
			*x.at(&a) = none
			for call := range calls {
				for o := range 2 {
					if !slices.Contains(x.calls, call) {
						if _, e := calls[call](l, o, a, a); e != api.OK {
							t.Error(call, a, e)
						}
						continue
					}
					for _, b := range []api.State{a, some(), {}} {
						refused(t, call, l, o, a, b, api.ErrNone)
						if call != 5 {
							refused(t, call, l, o, b, a, api.ErrNone)
						}
					}
				}
			}
		}
	}
}

// TestNothingChanged has what is handed in stay, and a stack that is cropped be a list of its own.
func TestNothingChanged(t *testing.T) {
	l := made(t, "chain", 2)
	for o := range 2 {
		a, b := some(), some()
		if got, e := equiv.States(l, o, a, b); !got || e != api.OK {
			t.Error(got, e)
		}
		cropped, e := equiv.Crop(l, o, a.Stack)
		if e != api.OK || len(cropped) != 1 {
			t.Fatal(cropped, e)
		}
		cropped[0] = api.Slot{V: 99}
		_ = append(cropped, api.Slot{V: 99})
		if !reflect.DeepEqual(copied.State(a), some()) || !reflect.DeepEqual(b, some()) {
			t.Error(a, b)
		}
	}
}
