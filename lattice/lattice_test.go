package lattice_test

import (
	"math"
	"slices"
	"strings"
	"testing"

	"reticent/api"
	"reticent/lattice"
)

// of is an order whose labels are named a, b and so on.
func of(up ...uint32) api.Lattice {
	l := api.Lattice{Up: up}
	for i := range up {
		l.Names = append(l.Names, string(rune('a'+i)))
	}
	return l
}

func chain(n int) api.Lattice {
	var up []uint32
	for a := range n {
		up = append(up, (1<<n-1)&^(1<<a-1))
	}
	return of(up...)
}

// known are lattices that the tests go through besides all small ones.
func known() map[string]api.Lattice {
	return map[string]api.Lattice{
		"one label":        of(1),
		"chain of two":     chain(2),
		"chain of eight":   chain(8),
		"upside down":      of(1, 3, 7),
		"diamond":          of(15, 10, 12, 8),
		"mixed diamond":    of(1, 3, 15, 9),
		"three in between": of(31, 18, 20, 24, 16),
		"pentagon":         of(31, 18, 28, 24, 16),
		"six in between":   of(255, 130, 132, 136, 144, 160, 192, 128),
		"cube":             of(255, 170, 204, 136, 240, 160, 192, 128),
	}
}

// slow is what the document's words say, label by label; the tests hold the package against it.
type slow struct{ l api.Lattice }

func (s slow) n() int { return len(s.l.Up) }

func (s slow) flows(a, b int) bool { return s.l.Up[a]&(1<<b) != 0 }

func (s slow) isOrder() bool {
	for a := range s.n() {
		if !s.flows(a, a) {
			return false
		}
		for b := range s.n() {
			if a != b && s.flows(a, b) && s.flows(b, a) {
				return false
			}
			for c := range s.n() {
				if s.flows(a, b) && s.flows(b, c) && !s.flows(a, c) {
					return false
				}
			}
		}
	}
	return true
}

// joins are all labels that are a join of a and b.
func (s slow) joins(a, b int) []int {
	var got []int
	for c := range s.n() {
		ok := s.flows(a, c) && s.flows(b, c)
		for d := range s.n() {
			ok = ok && (!s.flows(a, d) || !s.flows(b, d) || s.flows(c, d))
		}
		if ok {
			got = append(got, c)
		}
	}
	return got
}

// meets are all labels that are a meet of a and b.
func (s slow) meets(a, b int) []int {
	var got []int
	for c := range s.n() {
		ok := s.flows(c, a) && s.flows(c, b)
		for d := range s.n() {
			ok = ok && (!s.flows(d, a) || !s.flows(d, b) || s.flows(d, c))
		}
		if ok {
			got = append(got, c)
		}
	}
	return got
}

// height goes through all sets of labels, and keeps the greatest in which each two flow one way, and all to a, which is there.
func (s slow) height(a int) int {
	most := 0
	for set := range 1 << s.n() {
		count, ok := 0, set&(1<<a) != 0
		for b := range s.n() {
			if set&(1<<b) == 0 {
				continue
			}
			count++
			ok = ok && s.flows(b, a)
			for c := range s.n() {
				ok = ok && (set&(1<<c) == 0 || s.flows(b, c) || s.flows(c, b))
			}
		}
		if ok {
			most = max(most, count)
		}
	}
	return most - 1
}

func (s slow) check() api.Errno {
	if !s.isOrder() {
		return api.ErrOrder
	}
	for a := range s.n() {
		for b := range s.n() {
			if len(s.joins(a, b)) == 0 || len(s.meets(a, b)) == 0 {
				return api.ErrJoin
			}
		}
	}
	return api.OK
}

// small are all orders that may be of one to four labels.
func small(yield func(api.Lattice) bool) {
	for n := 1; n <= 4; n++ {
		for bits := range 1 << (n * n) {
			up := make([]uint32, n)
			for a := range n {
				up[a] = uint32(bits>>(n*a)) & (1<<n - 1)
			}
			if !yield(of(up...)) {
				return
			}
		}
	}
}

// lattices are the small ones that are lattices, and the known ones.
func lattices(yield func(api.Lattice) bool) {
	for l := range small {
		if (slow{l}).check() == api.OK && !yield(l) {
			return
		}
	}
	for _, l := range known() {
		if !yield(l) {
			return
		}
	}
}

func TestCheckSmallOrders(t *testing.T) {
	count := map[api.Errno]int{}
	for l := range small {
		want := slow{l}.check()
		count[want]++
		if got := lattice.Check(l); got != want {
			t.Fatal(l.Up, got, want)
		}
	}
	if count[api.OK] == 0 || count[api.ErrOrder] == 0 || count[api.ErrJoin] == 0 {
		t.Fatal(count)
	}
}

func TestCheckKnownLattices(t *testing.T) {
	for name, l := range known() {
		if e := lattice.Check(l); e != api.OK {
			t.Error(name, e)
		}
	}
}

func TestCheckMayNotBe(t *testing.T) {
	nine := chain(8)
	nine.Names = append(nine.Names, "i")
	nine.Up = append(nine.Up, 1<<8)
	for name, l := range map[string]api.Lattice{
		"nothing":            {},
		"empty lists":        {Names: []string{}, Up: []uint32{}},
		"no names":           {Up: []uint32{1}},
		"no ups":             {Names: []string{"a"}},
		"a name more":        {Names: []string{"a", "b"}, Up: []uint32{1}},
		"a name less":        {Names: []string{"a"}, Up: []uint32{3, 2}},
		"nine labels":        nine,
		"many labels":        {Names: make([]string, 70), Up: make([]uint32, 70)},
		"bit of no label":    of(3),
		"next bit":           of(7, 2),
		"highest bit":        of(3, 2|1<<31),
		"bit behind eight":   {Names: chain(8).Names, Up: append([]uint32{511}, chain(8).Up[1:]...)},
		"same names":         {Names: []string{"a", "a"}, Up: []uint32{3, 2}},
		"same, far apart":    {Names: []string{"x", "b", "x"}, Up: []uint32{7, 6, 4}},
		"ahead of the order": {Names: []string{"a", "a"}, Up: []uint32{0, 0}},
		"ahead of the join":  {Names: []string{"a", "a"}, Up: []uint32{1, 2}},
	} {
		if e := lattice.Check(l); e != api.ErrArg {
			t.Error(name, e)
		}
	}
}

func TestCheckNames(t *testing.T) {
	for _, name := range []string{"a", "z", "az", "low", "abcdefghijkl", "zzzzzzzzzzzz"} {
		if e := lattice.Check(api.Lattice{Names: []string{name}, Up: []uint32{1}}); e != api.OK {
			t.Errorf("%q %v", name, e)
		}
	}
	for _, name := range []string{"", " ", "A", "Z", "`", "{", "aB", "a1", "1", "a b", "a ", " a", "a_", "a\n", "a\x00", "\xff", "é", "ä", "abcdefghijklm", strings.Repeat("z", 1000)} {
		for at := range 3 {
			l := chain(3)
			l.Names[at] = name
			if e := lattice.Check(l); e != api.ErrArg {
				t.Errorf("%q at %d: %v", name, at, e)
			}
		}
	}
}

func TestCheckNoOrder(t *testing.T) {
	for name, l := range map[string]api.Lattice{
		"no label flows to itself":    of(0),
		"first one not to itself":     of(2, 2),
		"last one not to itself":      of(3, 0),
		"two to each other":           of(3, 3),
		"not to the third one":        of(3, 6, 4),
		"round in a ring":             of(3, 6, 5),
		"ahead of the join":           of(1, 2, 0),
		"not to the third, backwards": of(1, 3, 6),
	} {
		if e := lattice.Check(l); e != api.ErrOrder {
			t.Error(name, e)
		}
	}
}

func TestCheckNoLattice(t *testing.T) {
	for name, l := range map[string]api.Lattice{
		"two apart":               of(1, 2),
		"no join alone":           of(7, 2, 4),
		"no meet alone":           of(5, 6, 4),
		"two joins, two meets":    of(63, 58, 60, 40, 48, 32),
		"eight apart":             of(1, 2, 4, 8, 16, 32, 64, 128),
		"no least of two joins":   of(31, 26, 28, 8, 16),
		"no label above the last": of(15, 14, 4, 8),
	} {
		if e := lattice.Check(l); e != api.ErrJoin {
			t.Error(name, e)
		}
	}
}

func TestDiamond(t *testing.T) {
	l := of(15, 10, 12, 8)
	if c, e := lattice.Join(l, 1, 2); c != 3 || e != api.OK {
		t.Error(c, e)
	}
	if c, e := lattice.Meet(l, 1, 2); c != 0 || e != api.OK {
		t.Error(c, e)
	}
}

func TestTwoLabels(t *testing.T) {
	for l := range lattices {
		s := slow{l}
		for a := range l.Up {
			for b := range l.Up {
				if is, e := lattice.Flows(l, a, b); is != s.flows(a, b) || e != api.OK {
					t.Fatal(l.Up, a, b, is, e)
				}
				if c, e := lattice.Join(l, a, b); !slices.Equal([]int{c}, s.joins(a, b)) || e != api.OK {
					t.Fatal(l.Up, a, b, c, e)
				}
				if c, e := lattice.Meet(l, a, b); !slices.Equal([]int{c}, s.meets(a, b)) || e != api.OK {
					t.Fatal(l.Up, a, b, c, e)
				}
			}
		}
	}
}

func TestEnds(t *testing.T) {
	for l := range lattices {
		s := slow{l}
		bottom, e := lattice.Bottom(l)
		top, f := lattice.Top(l)
		if e != api.OK || f != api.OK {
			t.Fatal(l.Up, e, f)
		}
		for a := range l.Up {
			if !s.flows(bottom, a) || !s.flows(a, top) {
				t.Fatal(l.Up, bottom, top, a)
			}
		}
	}
}

func TestHeight(t *testing.T) {
	for l := range lattices {
		for a := range l.Up {
			if h, e := lattice.Height(l, a); h != (slow{l}).height(a) || e != api.OK {
				t.Fatal(l.Up, a, h, e)
			}
		}
	}
	for _, x := range []struct {
		name string
		want []int
	}{
		{"one label", []int{0}},
		{"chain of eight", []int{0, 1, 2, 3, 4, 5, 6, 7}},
		{"upside down", []int{2, 1, 0}},
		{"pentagon", []int{0, 1, 1, 2, 3}},
		{"six in between", []int{0, 1, 1, 1, 1, 1, 1, 2}},
		{"cube", []int{0, 1, 1, 2, 1, 2, 2, 3}},
	} {
		l := known()[x.name]
		for a, want := range x.want {
			if h, e := lattice.Height(l, a); h != want || e != api.OK {
				t.Error(x.name, a, h, e)
			}
		}
	}
}

// asked is what a call about a lattice and up to two labels answers, as a number.
type asked struct {
	name   string
	labels int
	call   func(l api.Lattice, a, b int) (int, api.Errno)
}

func calls() []asked {
	return []asked{
		{"Flows", 2, func(l api.Lattice, a, b int) (int, api.Errno) {
			is, e := lattice.Flows(l, a, b)
			if is {
				return 1, e
			}
			return 0, e
		}},
		{"Join", 2, lattice.Join},
		{"Meet", 2, lattice.Meet},
		{"Bottom", 0, func(l api.Lattice, a, b int) (int, api.Errno) { return lattice.Bottom(l) }},
		{"Top", 0, func(l api.Lattice, a, b int) (int, api.Errno) { return lattice.Top(l) }},
		{"Height", 1, func(l api.Lattice, a, b int) (int, api.Errno) { return lattice.Height(l, a) }},
	}
}

func TestOthersTellCheck(t *testing.T) {
	for name, l := range map[string]api.Lattice{
		"nothing":      {},
		"a name less":  {Names: []string{"a"}, Up: []uint32{3, 2}},
		"strange bit":  of(7, 6),
		"no order":     of(3, 3),
		"no lattice":   of(1, 2),
		"nine labels":  of(511, 510, 508, 504, 496, 480, 448, 384, 256),
		"wrong name":   {Names: []string{"A", "b"}, Up: []uint32{3, 2}},
		"two too high": of(31, 26, 28, 8, 16),
	} {
		want := lattice.Check(l)
		if want == api.OK {
			t.Fatal(name)
		}
		for _, c := range calls() {
			for _, label := range []int{0, 1, -1, 99} {
				if got, e := c.call(l, label, label); got != 0 || e != want {
					t.Error(c.name, name, label, got, e)
				}
			}
		}
	}
}

func TestNoLabel(t *testing.T) {
	for _, l := range known() {
		for _, c := range calls() {
			for _, wrong := range []int{-1, len(l.Up), len(l.Up) + 1, 31, 32, 63, 64, -64, math.MaxInt, math.MinInt} {
				if got, e := c.call(l, wrong, 0); c.labels > 0 && (got != 0 || e != api.ErrNone) {
					t.Error(c.name, l.Up, wrong, got, e)
				}
				if got, e := c.call(l, 0, wrong); c.labels > 1 && (got != 0 || e != api.ErrNone) {
					t.Error(c.name, l.Up, wrong, got, e)
				}
			}
		}
	}
}

// must are the answers of Join and Meet, for tests that hold them against each other.
func must(t *testing.T, l api.Lattice) (join, meet func(a, b int) int) {
	ask := func(call func(api.Lattice, int, int) (int, api.Errno)) func(a, b int) int {
		return func(a, b int) int {
			c, e := call(l, a, b)
			if e != api.OK {
				t.Fatal(l.Up, a, b, e)
			}
			return c
		}
	}
	return ask(lattice.Join), ask(lattice.Meet)
}

func TestLaws(t *testing.T) {
	for l := range lattices {
		join, meet := must(t, l)
		for a := range l.Up {
			for b := range l.Up {
				if join(a, b) != join(b, a) || meet(a, b) != meet(b, a) {
					t.Fatal(l.Up, a, b)
				}
				if join(a, meet(a, b)) != a || meet(a, join(a, b)) != a {
					t.Fatal(l.Up, a, b)
				}
				if is, _ := lattice.Flows(l, a, b); is != (join(a, b) == b) || is != (meet(a, b) == a) {
					t.Fatal(l.Up, a, b)
				}
				for c := range l.Up {
					if join(a, join(b, c)) != join(join(a, b), c) || meet(a, meet(b, c)) != meet(meet(a, b), c) {
						t.Fatal(l.Up, a, b, c)
					}
				}
			}
		}
	}
}

func TestHeightFollowsFlow(t *testing.T) {
	for l := range lattices {
		bottom, _ := lattice.Bottom(l)
		if h, e := lattice.Height(l, bottom); h != 0 || e != api.OK {
			t.Fatal(l.Up, h, e)
		}
		for a := range l.Up {
			for b := range l.Up {
				low, _ := lattice.Height(l, a)
				high, _ := lattice.Height(l, b)
				if is, _ := lattice.Flows(l, a, b); is && (low > high || a != b && low == high) {
					t.Fatal(l.Up, a, b, low, high)
				}
			}
		}
	}
}

func TestArgumentsStay(t *testing.T) {
	for _, l := range known() {
		names, up := slices.Clone(l.Names), slices.Clone(l.Up)
		for _, c := range calls() {
			first, e := c.call(l, 0, len(l.Up)-1)
			again, f := c.call(l, 0, len(l.Up)-1)
			if first != again || e != f || e != api.OK {
				t.Error(c.name, up, first, again, e, f)
			}
		}
		if !slices.Equal(names, l.Names) || !slices.Equal(up, l.Up) {
			t.Error(names, up, l)
		}
	}
}
