package step_test

import (
	"math"
	"slices"
	"strings"
	"testing"

	"reticent/api"
	"reticent/state"
	"reticent/step"
	"reticent/table"
)

// of is an order whose labels are named a, b and so on.
func of(up ...uint32) api.Lattice {
	l := api.Lattice{Up: up}
	for i := range up {
		l.Names = append(l.Names, string(rune('a'+i)))
	}
	return l
}

// The diamond is bottom, left, right, top; the turned one is top, left, bottom, right.
var (
	single  = of(1)
	diamond = of(15, 10, 12, 8)
	turned  = of(1, 3, 15, 9)
	eight   = of(255, 254, 252, 248, 240, 224, 192, 128)
)

func known() []api.Lattice { return []api.Lattice{single, diamond, turned, eight} }

// strange are orders that are no lattices, each with why.
func strange() map[api.Errno][]api.Lattice {
	return map[api.Errno][]api.Lattice{
		api.ErrArg:   {{}, {Names: []string{"a"}}, {Up: []uint32{1}}, {Names: []string{"A"}, Up: []uint32{1}}, {Names: []string{"a", "a"}, Up: []uint32{3, 2}}, of(3)},
		api.ErrOrder: {of(0), of(3, 3), of(3, 6, 4)},
		api.ErrJoin:  {of(1, 2), of(7, 2, 4), of(63, 58, 60, 40, 48, 32)},
	}
}

func times(n int, s string) string { return strings.Repeat(s, n) }

// ruled is the usual table, with other rows.
func ruled(t *testing.T, rows ...string) api.Table {
	t.Helper()
	text, _ := table.Text(table.Usual())
	lines := strings.Split(text, "\n")
	for _, row := range rows {
		word, _, _ := strings.Cut(row, " ")
		for i, line := range lines {
			if strings.HasPrefix(line, word+" ") {
				lines[i] = row
			}
		}
	}
	x, at, e := table.Parse(strings.Join(lines, "\n"))
	if e != api.OK {
		t.Fatal(rows, at, e)
	}
	return x
}

// told is the state of an instruction, behind as many noops as its place asks for, and of Pc, Mem, Stack and Out as they are written, with | between.
func told(t *testing.T, l api.Lattice, instruction, rest string) api.State {
	t.Helper()
	part := strings.Split(rest, "|")
	for i := range part {
		part[i] = strings.TrimSpace(part[i])
	}
	text := "pc " + part[0] + " ; code mem " + part[1] + " ; stack " + part[2] + " ; out " + part[3] + " ;"
	s, at, e := state.Parse(l, text)
	if e != api.OK {
		t.Fatal(text, at, e)
	}
	x, _, e := state.Parse(l, "pc 0 @ a ; code "+instruction+" ; mem ; stack ; out ;")
	if e != api.OK {
		t.Fatal(instruction, e)
	}
	s.Code = append(make([]api.Instr, s.Pc.V), x.Code...)
	return s
}

// does tells an instruction that is not done, or of which something else comes.
func does(t *testing.T, l api.Lattice, rules api.Table, instruction, before, after string) {
	t.Helper()
	s, want := told(t, l, instruction, before), told(t, l, instruction, after)
	want.Code = s.Code
	got, came, e := step.One(l, rules, s)
	if e != api.OK || came != api.SStep || !state.Like(got, want) {
		t.Errorf("%s of %s: %v %d %v, want %v", instruction, before, got, came, e, want)
	}
}

// leaves tells an instruction of which something else comes, or that changes the state.
func leaves(t *testing.T, l api.Lattice, rules api.Table, instruction, before string, want int) {
	t.Helper()
	s := told(t, l, instruction, before)
	got, came, e := step.One(l, rules, s)
	if e != api.OK || came != want || !state.Like(got, s) {
		t.Errorf("%s of %s: %v %d %v, want %d", instruction, before, got, came, e, want)
	}
}

func isNone(s api.State) bool {
	return s.Pc == api.Atom{} && len(s.Code)+len(s.Mem)+len(s.Stack)+len(s.Out) == 0
}

// refused tells a step that has not its error, or something beside it.
func refused(t *testing.T, l api.Lattice, rules api.Table, s api.State, want api.Errno) {
	t.Helper()
	if got, came, e := step.One(l, rules, s); !isNone(got) || came != 0 || e != want {
		t.Errorf("%v %v %v: %v %d %v, want %v", l, rules, s, got, came, e, want)
	}
}

func TestExample(t *testing.T) {
	l := api.Lattice{Names: []string{"low", "high"}, Up: []uint32{3, 2}}
	s := api.State{Code: []api.Instr{{Op: api.IAdd}}, Stack: []api.Slot{{V: 1, L: 0}, {V: 2, L: 1}}}
	then, came, e := step.One(l, table.Usual(), s)
	if e != api.OK || came != api.SStep || !slices.Equal(then.Stack, []api.Slot{{V: 3, L: 1}}) || then.Pc != (api.Atom{V: 1}) {
		t.Error(then, came, e)
	}
}

// TestUsualTable has each instruction be done by the usual table.
func TestUsualTable(t *testing.T) {
	for _, x := range [][3]string{
		{"noop", "0 @ a | | |", "1 @ a | | |"},
		{"noop", "11 @ d | 1 @ b | 2 @ c | 3 @ d", "12 @ d | 1 @ b | 2 @ c | 3 @ d"},
		{"push - 20 @ c", "2 @ b | 5 @ d | |", "3 @ b | 5 @ d | - 20 @ c |"},
		{"push 20 @ a", "0 @ d | | ret 4 @ a , 7 @ b |", "1 @ d | | ret 4 @ a , 7 @ b , 20 @ a |"},
		{"pop", "0 @ b | | 1 @ a , 2 @ d |", "1 @ b | | 1 @ a |"},
		{"pop", "0 @ b | | ret 1 @ a , 2 @ d |", "1 @ b | | ret 1 @ a |"},
		{"add", "0 @ a | | 9 @ d , 1 @ b , 2 @ c |", "1 @ a | | 9 @ d , 3 @ d |"},
		{"add", "0 @ d | | - 10 @ b , - 10 @ a |", "1 @ d | | - 20 @ b |"},
		{"add", "0 @ a | | 10 @ a , 10 @ b |", "1 @ a | | 20 @ b |"},
		{"sub", "0 @ a | | 7 @ b , 2 @ a |", "1 @ a | | 5 @ b |"},
		{"sub", "0 @ a | | 2 @ b , 7 @ c |", "1 @ a | | - 5 @ d |"},
		{"sub", "0 @ a | | 20 @ a , - 0 @ c |", "1 @ a | | 20 @ c |"},
		{"load", "0 @ d | 5 @ b , - 6 @ c | 0 @ a |", "1 @ d | 5 @ b , - 6 @ c | 5 @ b |"},
		{"load", "0 @ d | 5 @ b , - 6 @ c | 3 @ d , 1 @ b |", "1 @ d | 5 @ b , - 6 @ c | 3 @ d , - 6 @ d |"},
		{"store", "0 @ a | 5 @ b , 6 @ b | 8 @ c , 1 @ a |", "1 @ a | 5 @ b , 8 @ c | |"},
		{"store", "0 @ b | 5 @ b , 6 @ b | 1 @ a , - 8 @ c , 0 @ b |", "1 @ b | - 8 @ d , 6 @ b | 1 @ a |"},
		{"store", "0 @ b | 5 @ d | 3 @ a , 0 @ a |", "1 @ b | 3 @ b | |"},
		{"jump", "3 @ b | | 1 @ a , 0 @ c |", "0 @ d | | 1 @ a |"},
		{"jump", "3 @ a | | 12 @ c |", "12 @ c | | |"},
		{"bnz 7", "3 @ b | | 1 @ a , 0 @ c |", "4 @ d | | 1 @ a |"},
		{"bnz 7", "3 @ b | | 1 @ a , 1 @ a |", "7 @ b | | 1 @ a |"},
		{"bnz 12", "3 @ a | | - 20 @ b |", "12 @ b | | |"},
		{"bnz 0", "11 @ a | | 20 @ b |", "0 @ b | | |"},
		{"bnz 0", "11 @ a | | 0 @ b |", "12 @ b | | |"},
		{"call 0", "3 @ b | | 1 @ a , 9 @ c |", "9 @ d | | 1 @ a , ret 4 @ b |"},
		{"call 1", "3 @ b | | 1 @ a , 9 @ a |", "9 @ b | | ret 4 @ b , 1 @ a |"},
		{"call 2", "11 @ a | | 6 @ a , 1 @ d , 2 @ c , 0 @ d |", "0 @ d | | 6 @ a , ret 12 @ a , 1 @ d , 2 @ c |"},
		{"call 3", "0 @ d | | ret 2 @ b , 1 @ a , 2 @ b , - 3 @ c , 12 @ b |", "12 @ d | | ret 2 @ b , ret 1 @ d , 1 @ a , 2 @ b , - 3 @ c |"},
		{"return 0", "3 @ d | | 1 @ a , ret 9 @ b |", "9 @ b | | 1 @ a |"},
		{"return 0", "3 @ d | | ret 1 @ a , ret 9 @ b , 3 @ d , 2 @ d |", "9 @ b | | ret 1 @ a |"},
		{"return 1", "3 @ b | | 1 @ a , ret 12 @ a , 5 @ a |", "12 @ a | | 1 @ a , 5 @ b |"},
		{"return 1", "3 @ b | | ret 0 @ c , 7 @ a , 6 @ a , - 5 @ c |", "0 @ c | | - 5 @ d |"},
		{"return 1", "3 @ a | | ret 7 @ d , ret 0 @ c , - 5 @ a |", "0 @ c | | ret 7 @ d , - 5 @ a |"},
		{"output", "0 @ b | | 1 @ a , 7 @ c |", "1 @ b | | 1 @ a | 7 @ d"},
		{"output", "0 @ a | | - 7 @ c | 1 @ a , 2 @ d", "1 @ a | | | 1 @ a , 2 @ d , - 7 @ c"},
	} {
		does(t, diamond, table.Usual(), x[0], x[1], x[2])
	}
	for _, pc := range []string{"0 @ a", "11 @ d"} {
		leaves(t, diamond, table.Usual(), "halt", pc+" | 1 @ b | 2 @ c , ret 3 @ a | 4 @ d", api.SHalt)
	}
}

// of each instruction: a state in which it has what it needs, each label another one where it may be, and the labels that it makes; the turned diamond's bottom is c.
var needs = []struct{ instruction, before, one, two, three string }{
	{"noop", "0 @ b | | |", "c", "c", "c"},
	{"push 1 @ d", "0 @ b | | |", "d", "c", "c"},
	{"pop", "0 @ b | | 0 @ a , 0 @ d |", "d", "c", "c"},
	{"add", "0 @ b | | 0 @ b , 0 @ a , 0 @ d |", "d", "a", "c"},
	{"sub", "0 @ b | | 0 @ b , 0 @ a , 0 @ d |", "d", "a", "c"},
	{"load", "0 @ b | 0 @ b , 0 @ a | 0 @ b , 1 @ d |", "d", "a", "c"},
	{"store", "0 @ c | 0 @ c , 0 @ b | 0 @ c , 0 @ a , 1 @ d |", "d", "a", "b"},
	{"jump", "0 @ b | | 0 @ a , 0 @ d |", "d", "c", "c"},
	{"bnz 0", "0 @ b | | 0 @ a , 0 @ d |", "d", "c", "c"},
	{"call 1", "0 @ b | | 0 @ b , 0 @ a , 0 @ d |", "d", "c", "c"},
	{"return 0", "0 @ b | | ret 0 @ b , ret 0 @ a , 0 @ d |", "c", "a", "c"},
	{"return 1", "0 @ b | | ret 0 @ b , ret 0 @ a , 0 @ b , 0 @ d |", "d", "a", "c"},
	{"output", "0 @ b | | 0 @ a , 0 @ d |", "d", "c", "c"},
}

// TestLabels has the rules be one label alone: which one it is is told by the machine's label then.
func TestLabels(t *testing.T) {
	for _, x := range needs {
		word, _, _ := strings.Cut(x.instruction, " ")
		s := told(t, turned, x.instruction, x.before)
		of := map[string]string{"pc": turned.Names[s.Pc.L], "one": x.one, "two": x.two, "three": x.three, "bot": "c", "top": "a"}
		n, _ := table.Arity(s.Code[0].Op)
		for _, name := range append([]string{"one", "two", "three"}[:n], "pc", "bot", "top") {
			rules := ruled(t, word+" : true ; bot ; "+name+" ;")
			got, came, e := step.One(turned, rules, s)
			if e != api.OK || came != api.SStep || turned.Names[got.Pc.L] != of[name] {
				t.Error(x.instruction, name, got, came, e)
			}
			for other := range of {
				may := "top <= " + name + " meet " + other
				if i := slices.Index([]string{"one", "two", "three"}, other); i >= n {
					continue
				}
				_, came, e := step.One(turned, ruled(t, word+" : "+may+" ; bot ; pc ;"), s)
				is := of[name] == "a" && of[other] == "a"
				if e != api.OK || (came == api.SStep) != is || (came == api.SStop) == is {
					t.Error(x.instruction, may, came, e)
				}
			}
		}
	}
}

// TestResults has the label of what comes of an instruction be another one than that of the machine then.
func TestResults(t *testing.T) {
	rules := func(word, res, pc string) api.Table { return ruled(t, word+" : true ; "+res+" ; "+pc+" ;") }
	for _, x := range [][5]string{
		{"push 1 @ a", "top", "0 @ b | | |", "1 @ b | | 1 @ d |", "pc"},
		{"push 1 @ c", "one join pc", "0 @ b | | |", "1 @ c | | 1 @ d |", "one"},
		{"add", "bot", "0 @ b | | 1 @ b , 2 @ c |", "1 @ c | | 3 @ a |", "one"},
		{"add", "one", "0 @ a | | 1 @ b , 2 @ c |", "1 @ b | | 3 @ c |", "two"},
		{"sub", "two", "0 @ a | | 1 @ b , 2 @ c |", "1 @ c | | - 1 @ b |", "one"},
		{"load", "two", "0 @ a | 9 @ c | 0 @ b |", "1 @ b | 9 @ c | 9 @ c |", "one"},
		{"store", "three", "0 @ a | 9 @ c | 8 @ b , 0 @ a |", "1 @ b | 8 @ c | |", "two"},
		{"store", "one", "0 @ a | 9 @ c | 8 @ b , 0 @ d |", "1 @ c | 8 @ d | |", "three"},
		{"return 1", "two", "0 @ a | | ret 4 @ b , 1 @ c |", "4 @ c | | 1 @ b |", "one"},
		{"return 1", "pc", "0 @ b | | ret 4 @ d , 1 @ c |", "4 @ a | | 1 @ b |", "bot"},
		{"output", "bot", "0 @ b | | 1 @ c |", "1 @ c | | | 1 @ a", "one"},
		// The Ret has the label that the machine had, whatever the rules say.
		{"call 1", "top", "0 @ b | | 1 @ c , 5 @ a |", "5 @ a | | ret 1 @ b , 1 @ c |", "bot"},
		{"call 0", "bot", "0 @ b | | 1 @ c , 5 @ a |", "5 @ d | | 1 @ c , ret 1 @ b |", "top"},
		// These have nothing of that label.
		{"noop", "top", "0 @ b | | 1 @ a |", "1 @ d | | 1 @ a |", "top"},
		{"pop", "top", "0 @ b | | 1 @ a , 2 @ c |", "1 @ c | | 1 @ a |", "one"},
		{"jump", "top", "0 @ b | | 1 @ a , 2 @ c |", "2 @ a | | 1 @ a |", "bot"},
		{"bnz 5", "top", "0 @ b | | 1 @ a , 2 @ c |", "5 @ c | | 1 @ a |", "one"},
		{"return 0", "top", "0 @ b | | ret 4 @ d , 1 @ c |", "4 @ b | | |", "pc"},
	} {
		word, _, _ := strings.Cut(x[0], " ")
		does(t, diamond, rules(word, x[1], x[4]), x[0], x[2], x[3])
	}
}

// lacking are instructions that lack what they need.
var lacking = [][2]string{
	{"pop", "0 @ a | | |"}, {"pop", "0 @ a | | 1 @ a , ret 1 @ a |"}, {"output", "0 @ a | | |"}, {"output", "0 @ a | | 1 @ a , ret 1 @ a |"},
	{"add", "0 @ a | | |"}, {"add", "0 @ a | | 1 @ a |"}, {"add", "0 @ a | | 1 @ a , ret 1 @ a |"}, {"add", "0 @ a | | ret 1 @ a , 1 @ a |"}, {"add", "0 @ a | | 1 @ a , ret 1 @ a , 1 @ a |"},
	{"sub", "0 @ a | | |"}, {"sub", "0 @ a | | 1 @ a |"}, {"sub", "0 @ a | | 1 @ a , ret 1 @ a |"}, {"sub", "0 @ a | | ret 1 @ a , 1 @ a |"},
	{"load", "0 @ a | 1 @ a | |"}, {"load", "0 @ a | 1 @ a | ret 0 @ a |"}, {"load", "0 @ a | | 0 @ a |"}, {"load", "0 @ a | 1 @ a | 1 @ a |"}, {"load", "0 @ a | 1 @ a | - 1 @ a |"}, {"load", "0 @ a | 1 @ a , 1 @ a | 2 @ a |"}, {"load", "0 @ a | 1 @ a | - 20 @ a |"}, {"load", "0 @ a | 1 @ a | 20 @ a |"},
	{"store", "0 @ a | 1 @ a | |"}, {"store", "0 @ a | 1 @ a | 0 @ a |"}, {"store", "0 @ a | 1 @ a | ret 0 @ a , 0 @ a |"}, {"store", "0 @ a | 1 @ a | 0 @ a , ret 0 @ a |"}, {"store", "0 @ a | | 0 @ a , 0 @ a |"}, {"store", "0 @ a | 1 @ a | 0 @ a , 1 @ a |"}, {"store", "0 @ a | 1 @ a | 0 @ a , - 1 @ a |"}, {"store", "0 @ a | " + times(5, "1 @ a , ") + "1 @ a | 0 @ a , 6 @ a |"},
	{"jump", "0 @ a | | |"}, {"jump", "0 @ a | | 1 @ a , ret 1 @ a |"}, {"jump", "0 @ a | | - 1 @ a |"}, {"jump", "0 @ a | | 13 @ a |"}, {"jump", "0 @ a | | 20 @ a |"},
	{"bnz 1", "0 @ a | | |"}, {"bnz 1", "0 @ a | | 1 @ a , ret 1 @ a |"},
	{"call 0", "0 @ a | | |"}, {"call 0", "0 @ a | | 1 @ a , ret 1 @ a |"}, {"call 0", "0 @ a | | 1 @ a , - 1 @ a |"}, {"call 0", "0 @ a | | 13 @ a |"},
	{"call 1", "0 @ a | | |"}, {"call 1", "0 @ a | | 1 @ a |"}, {"call 1", "0 @ a | | ret 1 @ a , 1 @ a |"}, {"call 1", "0 @ a | | 1 @ a , ret 1 @ a |"}, {"call 1", "0 @ a | | 1 @ a , 13 @ a |"},
	{"call 2", "0 @ a | | 1 @ a , 1 @ a |"}, {"call 2", "0 @ a | | 1 @ a , ret 1 @ a , 1 @ a , 1 @ a |"}, {"call 3", "0 @ a | | 1 @ a , 1 @ a , 1 @ a |"}, {"call 3", "0 @ a | | ret 1 @ a , 1 @ a , 1 @ a , 1 @ a |"},
	{"return 0", "0 @ a | | |"}, {"return 0", "0 @ a | | 1 @ a , 2 @ a |"}, {"return 1", "0 @ a | | |"}, {"return 1", "0 @ a | | 1 @ a , 2 @ a |"}, {"return 1", "0 @ a | | ret 1 @ a |"}, {"return 1", "0 @ a | | ret 1 @ a , 1 @ a , ret 1 @ a |"},
}

// forbidden is the usual table, where nothing may be done.
func forbidden(t *testing.T) api.Table {
	t.Helper()
	rules := ruled(t)
	for i := range rules.Rows {
		rules.Rows[i].May = []int{api.RFalse}
	}
	return rules
}

// TestLacking has what an instruction needs not be there, ahead of what its rule says.
func TestLacking(t *testing.T) {
	for _, x := range lacking {
		leaves(t, diamond, table.Usual(), x[0], x[1], api.SError)
		leaves(t, diamond, forbidden(t), x[0], x[1], api.SError)
	}
}

func TestNoInstruction(t *testing.T) {
	for n := range 13 {
		for at := n; at <= 12; at++ {
			s := api.State{Pc: api.Atom{V: at, L: 2}, Code: make([]api.Instr, n), Stack: []api.Slot{{V: 1}}}
			for _, rules := range []api.Table{table.Usual(), forbidden(t)} {
				got, came, e := step.One(diamond, rules, s)
				if e != api.OK || came != api.SError || !state.Like(got, s) {
					t.Error(s, got, came, e)
				}
			}
		}
	}
}

// TestForbidden has all but halt, which asks no rule.
func TestForbidden(t *testing.T) {
	for _, x := range needs {
		leaves(t, turned, forbidden(t), x.instruction, x.before, api.SStop)
	}
	leaves(t, turned, forbidden(t), "halt", "0 @ b | | 1 @ c |", api.SHalt)
	// It is asked ahead of whether the state then may be.
	full := "0 @ a | | " + times(11, "1 @ a , ") + "1 @ a |"
	leaves(t, diamond, forbidden(t), "push 1 @ a", full, api.SStop)
	leaves(t, diamond, forbidden(t), "add", "0 @ a | | 20 @ a , 20 @ a |", api.SStop)
	// The usual table forbids a store alone.
	for _, x := range []string{"0 @ b | 1 @ a | 1 @ a , 0 @ a |", "0 @ a | 1 @ a | 1 @ a , 0 @ c |", "0 @ b | 1 @ c | 1 @ a , 0 @ a |", "0 @ b | 1 @ b | 1 @ a , 0 @ c |"} {
		leaves(t, diamond, table.Usual(), "store", x, api.SStop)
	}
}

// TestMayNotBe has a step that is done leave a state that may not be, and one beside it that may.
func TestMayNotBe(t *testing.T) {
	u := table.Usual()
	eleven := times(10, "1 @ a , ") + "1 @ a"
	does(t, diamond, u, "push 2 @ b", "0 @ a | | "+eleven+" |", "1 @ a | | "+eleven+" , 2 @ b |")
	leaves(t, diamond, u, "push 2 @ b", "0 @ a | | "+eleven+" , 1 @ a |", api.SError)
	does(t, diamond, u, "call 0", "0 @ a | | "+eleven+" , 1 @ a |", "1 @ a | | "+eleven+" , ret 1 @ a |")
	does(t, diamond, u, "call 3", "0 @ a | | "+eleven+" , 1 @ a |", "1 @ a | | "+times(8, "1 @ a , ")+" ret 1 @ a , 1 @ a , 1 @ a , 1 @ a |")
	does(t, diamond, u, "load", "0 @ a | 9 @ a | "+eleven+" , 0 @ a |", "1 @ a | 9 @ a | "+eleven+" , 9 @ a |")
	seven := times(6, "1 @ a , ") + "1 @ a"
	does(t, diamond, u, "output", "0 @ a | | 2 @ a | "+seven, "1 @ a | | | "+seven+" , 2 @ a")
	leaves(t, diamond, u, "output", "0 @ a | | 2 @ a | "+seven+" , 1 @ a", api.SError)
	for _, x := range [][2]string{{"add", "20 @ a , 1 @ a"}, {"add", "1 @ a , 20 @ a"}, {"add", "- 1 @ a , - 20 @ a"}, {"add", "20 @ a , 20 @ a"}, {"sub", "20 @ a , - 1 @ a"}, {"sub", "- 1 @ a , 20 @ a"}, {"sub", "- 20 @ a , 1 @ a"}, {"sub", "1 @ a , - 20 @ a"}} {
		leaves(t, diamond, u, x[0], "0 @ b | | 1 @ c , "+x[1]+" |", api.SError)
	}
}

func TestErrors(t *testing.T) {
	s := told(t, single, "noop", "0 @ a | | |")
	wrong := api.State{Pc: api.Atom{V: -1}}
	usual := table.Usual()
	arity := table.Usual()
	arity.Rows[api.IPop].Res = []int{api.RTwo}
	none := table.Usual()
	none.Rows[api.IHalt].May = nil
	label := table.Usual()
	label.Rows[api.IHalt].May = []int{api.RPc}
	for want, all := range strange() {
		for _, l := range all {
			for _, rules := range []api.Table{usual, arity, none, {}} {
				refused(t, l, rules, s, want)
				refused(t, l, rules, wrong, want)
			}
		}
	}
	for _, s := range []api.State{s, wrong} {
		for _, l := range known() {
			refused(t, l, arity, s, api.ErrArity)
			refused(t, l, none, s, api.ErrArg)
			refused(t, l, label, s, api.ErrArg)
			refused(t, l, api.Table{}, s, api.ErrArg)
			refused(t, l, api.Table{Rows: usual.Rows[:12]}, s, api.ErrArg)
			refused(t, l, api.Table{Rows: append(table.Usual().Rows, api.Row{})}, s, api.ErrArg)
		}
	}
}

func TestStateMayNotBe(t *testing.T) {
	for _, n := range []int{math.MinInt, -21, 21, 1 << 32, math.MaxInt} {
		for _, s := range []api.State{
			{Pc: api.Atom{V: n}}, {Pc: api.Atom{L: n}}, {Mem: []api.Atom{{V: n}}}, {Mem: []api.Atom{{L: n}}}, {Stack: []api.Slot{{V: n}}}, {Stack: []api.Slot{{L: n}}}, {Stack: []api.Slot{{Ret: true, V: n}}}, {Out: []api.Atom{{V: n}}}, {Out: []api.Atom{{L: n}}},
			{Code: []api.Instr{{Op: n}}}, {Code: []api.Instr{{N: n}}}, {Code: []api.Instr{{L: n}}}, {Code: []api.Instr{{Op: api.IPush, N: n}}}, {Code: []api.Instr{{Op: api.IPush, L: n}}}, {Code: []api.Instr{{Op: api.IHalt}, {Op: api.ICall, N: n}}},
		} {
			refused(t, diamond, table.Usual(), s, api.ErrArg)
		}
	}
	halt := []api.Instr{{Op: api.IHalt}}
	for _, s := range []api.State{
		{Pc: api.Atom{V: 13}}, {Pc: api.Atom{L: 4}}, {Code: halt, Mem: make([]api.Atom, 7)}, {Code: halt, Stack: make([]api.Slot, 13)}, {Code: halt, Out: make([]api.Atom, 9)}, {Code: make([]api.Instr, 13)},
		{Code: halt, Stack: []api.Slot{{Ret: true, V: 13}}}, {Code: halt, Stack: []api.Slot{{Ret: true, V: -1}}}, {Code: halt, Mem: []api.Atom{{L: 4}}}, {Code: halt, Out: []api.Atom{{L: -1}}},
	} {
		refused(t, diamond, table.Usual(), s, api.ErrArg)
	}
}

// roomy is a list of the same, with room behind it that is the caller's as well.
func roomy[T any](l []T) []T { return append(l, make([]T, 5)...)[:len(l)] }

// roomyState shares no list with the state.
func roomyState(s api.State) api.State {
	s.Code, s.Mem, s.Stack, s.Out = roomy(slices.Clone(s.Code)), roomy(slices.Clone(s.Mem)), roomy(slices.Clone(s.Stack)), roomy(slices.Clone(s.Out))
	return s
}

func rooms(s api.State) api.State {
	s.Code, s.Mem, s.Stack, s.Out = s.Code[:cap(s.Code)], s.Mem[:cap(s.Mem)], s.Stack[:cap(s.Stack)], s.Out[:cap(s.Out)]
	return s
}

func copiedTable(t api.Table) api.Table {
	var rows []api.Row
	for _, x := range t.Rows {
		rows = append(rows, api.Row{May: slices.Clone(x.May), Res: slices.Clone(x.Res), Pc: slices.Clone(x.Pc)})
	}
	return api.Table{Rows: rows}
}

// spoil changes all that an answer has.
func spoil(s api.State) {
	for i := range s.Code {
		s.Code[i].N++
	}
	for i := range s.Mem {
		s.Mem[i].V++
	}
	for i := range s.Stack {
		s.Stack[i].V++
	}
	for i := range s.Out {
		s.Out[i].V++
	}
}

// TestArgumentsStay has an answer share nothing with what was handed in.
func TestArgumentsStay(t *testing.T) {
	all := append(slices.Clone(lacking), [2]string{"halt", "0 @ a | 1 @ b | 1 @ a | 1 @ c"}, [2]string{"store", "0 @ a | 1 @ b | 1 @ a , 0 @ a | 1 @ c"}, [2]string{"push 3 @ b", "0 @ b | 1 @ a | | 5 @ a"})
	for _, x := range needs {
		all = append(all, [2]string{x.instruction, x.before})
	}
	for _, rules := range []api.Table{table.Usual(), forbidden(t)} {
		for _, x := range all {
			l, had := of(1, 3, 15, 9), copiedTable(rules)
			s := roomyState(told(t, l, x[0], x[1]))
			before := roomyState(rooms(s))
			first, came, e := step.One(l, rules, s)
			want := roomyState(first)
			again, came2, f := step.One(l, rules, s)
			if !state.Like(first, again) || came != came2 || e != f {
				t.Error(x, first, again)
			}
			spoil(rooms(first))
			if !state.Like(rooms(s), before) || !state.Like(again, want) || !slices.Equal(l.Up, turned.Up) || !slices.Equal(l.Names, turned.Names) || !table.Like(rules, had) {
				t.Error(x, s, before)
			}
		}
	}
}
