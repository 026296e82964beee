package code_test

import (
	"math"
	"slices"
	"strings"
	"testing"

	"reticent/api"
	"reticent/code"
)

// form is how an instruction is written, and its N at least and at most.
type form struct {
	form      string
	low, high int
}

// told are the document's instructions, in order.
var told = []form{
	{"noop ;", 0, 0},
	{"push NUMBER @ NAME ;", -20, 20},
	{"pop ;", 0, 0},
	{"add ;", 0, 0},
	{"sub ;", 0, 0},
	{"load ;", 0, 0},
	{"store ;", 0, 0},
	{"jump ;", 0, 0},
	{"bnz NUMBER ;", 0, 12},
	{"call NUMBER ;", 0, 3},
	{"return NUMBER ;", 0, 1},
	{"output ;", 0, 0},
	{"halt ;", 0, 0},
}

func times(n int, s string) string { return strings.Repeat(s, n) }

// of is an order whose labels are named a, b and so on.
func of(up ...uint32) api.Lattice {
	l := api.Lattice{Up: up}
	for i := range up {
		l.Names = append(l.Names, string(rune('a'+i)))
	}
	return l
}

// The bottom of the turned one is its third label. Of the named one a name is as long as may be, and others are words of instructions.
var (
	single  = of(1)
	diamond = of(15, 10, 12, 8)
	turned  = of(1, 3, 15, 9)
	named   = api.Lattice{Names: []string{"push", "abcdefghijkl", "z", "halt"}, Up: []uint32{15, 10, 12, 8}}
	eight   = of(255, 254, 252, 248, 240, 224, 192, 128)
)

func known() []api.Lattice { return []api.Lattice{single, diamond, turned, named, eight} }

// strange are orders that are no lattices, each with why.
func strange() map[api.Errno][]api.Lattice {
	return map[api.Errno][]api.Lattice{
		api.ErrArg:   {{}, {Names: []string{"a"}}, {Up: []uint32{1}}, {Names: []string{"A"}, Up: []uint32{1}}, {Names: []string{"a", "a"}, Up: []uint32{3, 2}}, of(3), of(511, 510, 508, 504, 496, 480, 448, 384, 256)},
		api.ErrOrder: {of(0), of(3, 3), of(3, 6, 4)},
		api.ErrJoin:  {of(1, 2), of(7, 2, 4), of(63, 58, 60, 40, 48, 32)},
	}
}

// right tells an instruction of which, alone or among others, something else is said.
func right(t *testing.T, l api.Lattice, x api.Instr, want bool) {
	t.Helper()
	halt := api.Instr{Op: api.IHalt}
	most := slices.Repeat([]api.Instr{halt}, 12)
	for i := range most {
		p := slices.Clone(most)
		p[i] = x
		for _, p := range [][]api.Instr{p, p[:i+1], p[i:], p[i : i+1]} {
			if got := code.Right(l, p); got != want {
				t.Errorf("%v %v: %v", l, p, got)
			}
		}
	}
	text, e := code.Text(l, []api.Instr{x, halt})
	if want != (e == api.OK) || want != (text != "") || !want && e != api.ErrArg {
		t.Errorf("%v %v: %q %v", l, x, text, e)
	}
}

// edges are numbers about those that may be, and far away from them.
func edges() []int {
	l := []int{math.MinInt, math.MinInt + 1, -1 << 32, -1 << 16, -100, 100, 256, 1 << 16, 1 << 32, 1<<32 + 1, math.MaxInt}
	for n := -25; n <= 25; n++ {
		l = append(l, n)
	}
	return l
}

func TestEachInstruction(t *testing.T) {
	for _, l := range known() {
		for op, x := range told {
			for _, n := range edges() {
				right(t, l, api.Instr{Op: op, N: n}, n >= x.low && n <= x.high)
			}
			for _, a := range edges() {
				right(t, l, api.Instr{Op: op, L: a}, a == 0 || op == 1 && a > 0 && a < len(l.Up))
			}
		}
		for _, op := range edges() {
			right(t, l, api.Instr{Op: op}, op >= 0 && op < 13)
		}
	}
}

func TestNumberAndLabel(t *testing.T) {
	for op, x := range told {
		for _, n := range []int{x.low - 1, x.low, x.high, x.high + 1} {
			for a := -1; a < 5; a++ {
				is := n >= x.low && n <= x.high && (a == 0 || op == api.IPush && a > 0 && a < 4)
				right(t, diamond, api.Instr{Op: op, N: n, L: a}, is)
			}
		}
	}
}

func TestHowMany(t *testing.T) {
	for n := range 30 {
		for op := range told {
			p := slices.Repeat([]api.Instr{{Op: op}}, n)
			if got := code.Right(diamond, p); got != (n <= 12) {
				t.Error(n, op, got)
			}
			if text, e := code.Text(diamond, p); n > 12 && (text != "" || e != api.ErrArg) || n <= 12 && e != api.OK {
				t.Error(n, op, text, e)
			}
		}
	}
	if !code.Right(single, nil) || !code.Right(single, []api.Instr{}) {
		t.Error("no instruction")
	}
}

func TestRightOfNoLattice(t *testing.T) {
	for e, all := range strange() {
		for _, l := range all {
			for _, p := range [][]api.Instr{nil, {}, {{Op: api.IHalt}}, {{Op: api.IPush}}, {{Op: api.IPush, L: 9}}, {{Op: 13}}, make([]api.Instr, 13)} {
				if code.Right(l, p) {
					t.Error(l, p)
				}
				if text, f := code.Text(l, p); text != "" || f != e {
					t.Errorf("%v %v: %q %v, want %v", l, p, text, f, e)
				}
			}
		}
	}
}

func TestText(t *testing.T) {
	for _, x := range []struct {
		want string
		l    api.Lattice
		p    []api.Instr
	}{
		{"", diamond, nil},
		{"", diamond, []api.Instr{}},
		{"push - 3 @ a ; halt ;", diamond, []api.Instr{{Op: api.IPush, N: -3}, {Op: api.IHalt}}},
		{"push 0 @ d ;", diamond, []api.Instr{{Op: api.IPush, L: 3}}},
		{"push 20 @ push ; push - 20 @ abcdefghijkl ; push - 1 @ z ; push 1 @ halt ;", named, []api.Instr{{Op: 1, N: 20}, {Op: 1, N: -20, L: 1}, {Op: 1, N: -1, L: 2}, {Op: 1, N: 1, L: 3}}},
		{"noop ; push 0 @ a ; pop ; add ; sub ; load ; store ; jump ; bnz 0 ; call 0 ; return 0 ; output ;", single, []api.Instr{{}, {Op: 1}, {Op: 2}, {Op: 3}, {Op: 4}, {Op: 5}, {Op: 6}, {Op: 7}, {Op: 8}, {Op: 9}, {Op: 10}, {Op: 11}}},
		{"bnz 12 ; call 3 ; return 1 ; halt ; noop ;", eight, []api.Instr{{Op: 8, N: 12}, {Op: 9, N: 3}, {Op: 10, N: 1}, {Op: 12}, {}}},
		{times(11, "push 10 @ h ; ") + "push 10 @ h ;", eight, slices.Repeat([]api.Instr{{Op: 1, N: 10, L: 7}}, 12)},
	} {
		if got, e := code.Text(x.l, x.p); got != x.want || e != api.OK {
			t.Errorf("%v: %q %v, want %q", x.p, got, e, x.want)
		}
		reads(t, x.l, x.want, x.p)
	}
}

func TestLike(t *testing.T) {
	all := [][]api.Instr{
		nil, {{}}, {{}, {}}, {{Op: 1}}, {{N: 1}}, {{L: 1}}, {{N: -1}}, {{Op: 13}}, {{Op: 1, N: 2, L: 3}}, {{Op: 1, N: 3, L: 2}}, {{Op: 2, N: 1, L: 3}},
		{{}, {Op: 1}}, {{Op: 1}, {}}, {{}, {N: 1}}, {{}, {L: 1}}, {{N: math.MinInt}}, {{N: math.MaxInt}}, make([]api.Instr, 13), make([]api.Instr, 100),
	}
	for i, a := range all {
		for k, b := range all {
			if got := code.Like(a, slices.Clone(b)); got != (i == k) {
				t.Error(a, b, got)
			}
		}
	}
	if !code.Like(nil, []api.Instr{}) || !code.Like([]api.Instr{}, nil) {
		t.Error("no instructions are the same, whichever list they are")
	}
}

func TestArgumentsAreKept(t *testing.T) {
	l := of(15, 10, 12, 8)
	p := []api.Instr{{Op: 1, N: -3, L: 2}, {Op: 8, N: 12}, {Op: 12}}
	keep := slices.Clone(p)
	for range 2 {
		code.Right(l, p)
		code.Like(p, p)
		if text, e := code.Text(l, p); text != "push - 3 @ c ; bnz 12 ; halt ;" || e != api.OK {
			t.Error(text, e)
		}
	}
	if !slices.Equal(p, keep) || !slices.Equal(l.Up, diamond.Up) || !slices.Equal(l.Names, diamond.Names) {
		t.Error(l, p)
	}
}
