package copied_test

import (
	"reflect"
	"testing"

	"reticent/api"
	"reticent/copied"
)

func some() api.State {
	return api.State{
		Pc:    api.Atom{V: 1, L: 2},
		Code:  []api.Instr{{Op: api.IPush, N: 3, L: 1}, {Op: api.IHalt}},
		Mem:   []api.Atom{{V: 4, L: 1}, {V: 5}},
		Stack: []api.Slot{{Ret: true, V: 6, L: 1}, {V: 7, L: 2}},
		Out:   []api.Atom{{V: 8}, {V: 9, L: 3}},
	}
}

func TestState(t *testing.T) {
	for _, s := range []api.State{some(), {}, {Pc: api.Atom{V: -1, L: 99}}} {
		if got := copied.State(s); !reflect.DeepEqual(got, s) {
			t.Errorf("%v: %v", s, got)
		}
	}
}

// TestListsOfItsOwn has either be changed, and the other one stay; room behind a list is not shared either.
func TestListsOfItsOwn(t *testing.T) {
	s := some()
	s.Stack = append(s.Stack, api.Slot{V: 10})[:2]
	got := copied.State(s)
	got.Code[0].N, got.Mem[0].V, got.Stack[0].V, got.Out[0].V = 0, 0, 0, 0
	_ = append(got.Stack, api.Slot{V: 11})
	if !reflect.DeepEqual(s, some()) || s.Stack[:3][2].V != 10 {
		t.Error(s, s.Stack[:3])
	}
	got = copied.State(s)
	s.Code[0].N, s.Mem[0].V, s.Stack[0].V, s.Out[0].V = 0, 0, 0, 0
	if !reflect.DeepEqual(got, some()) {
		t.Error(got)
	}
}
