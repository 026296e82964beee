package order_test

import (
	"fmt"
	"math"
	"slices"
	"strings"
	"testing"

	"reticent/api"
	"reticent/lattice"
	"reticent/order"
)

// sizes are the n of each kind, from the smallest to the greatest one.
var sizes = map[string][2]int{"chain": {1, 8}, "power": {0, 3}, "diamond": {1, 6}}

// edges are told as text, in which ab is an edge from a to b.
func edges(text string) []api.Edge {
	var l []api.Edge
	for _, x := range strings.Fields(text) {
		l = append(l, api.Edge{Low: int(x[0] - 'a'), High: int(x[1] - 'a')})
	}
	return l
}

func names(n int) []string { return strings.Split("abcdefgh", "")[:n] }

func isNone(l api.Lattice) bool { return len(l.Names) == 0 && len(l.Up) == 0 }

// slowFlows is what the document's words say of edges: whether a way leads from a to b, none of its labels twice.
func slowFlows(l []api.Edge, a, b int, been uint32) bool {
	if a == b {
		return true
	}
	for _, x := range l {
		if x.Low == a && been>>x.High&1 == 0 && slowFlows(l, x.High, b, been|1<<x.High) {
			return true
		}
	}
	return false
}

func slowUp(n int, l []api.Edge) []uint32 {
	up := make([]uint32, n)
	for a := range n {
		for b := range n {
			if slowFlows(l, a, b, 1<<a) {
				up[a] |= 1 << b
			}
		}
	}
	return up
}

// small are all ways to have edges among one to four labels, each one once at most, none from a label to itself.
func small(yield func(int, []api.Edge) bool) {
	for n := 1; n <= 4; n++ {
		var every []api.Edge
		for a := range n {
			for b := range n {
				if a != b {
					every = append(every, api.Edge{Low: a, High: b})
				}
			}
		}
		for bits := range 1 << len(every) {
			var some []api.Edge
			for i, x := range every {
				if bits>>i&1 == 1 {
					some = append(some, x)
				}
			}
			if !yield(n, some) {
				return
			}
		}
	}
}

// lattices are what the small edges make, each kind in each size, and some whose labels are not in the order of flowing.
func lattices(t *testing.T) []api.Lattice {
	t.Helper()
	var all []api.Lattice
	for n, some := range small {
		l := api.Lattice{Names: names(n), Up: slowUp(n, some)}
		if lattice.Check(l) == api.OK {
			all = append(all, l)
		}
	}
	for kind, size := range sizes {
		for n := size[0]; n <= size[1]; n++ {
			l, e := order.Make(kind, n)
			if e != api.OK {
				t.Fatal(kind, n, e)
			}
			all = append(all, l)
		}
	}
	return append(all,
		api.Lattice{Names: []string{"top", "bot"}, Up: []uint32{1, 3}},
		api.Lattice{Names: []string{"z", "y", "x", "w"}, Up: []uint32{1, 3, 15, 9}},
		api.Lattice{Names: names(8), Up: []uint32{1, 3, 7, 15, 31, 63, 127, 255}},
		api.Lattice{Names: []string{"low", "left", "more", "right", "high"}, Up: []uint32{31, 22, 20, 24, 16}},
	)
}

func TestMakeKinds(t *testing.T) {
	for _, x := range []struct {
		kind string
		n    int
		up   []uint32
	}{
		{"chain", 1, []uint32{1}},
		{"chain", 2, []uint32{3, 2}},
		{"chain", 8, []uint32{255, 254, 252, 248, 240, 224, 192, 128}},
		{"power", 0, []uint32{1}},
		{"power", 1, []uint32{3, 2}},
		{"power", 2, []uint32{15, 10, 12, 8}},
		{"power", 3, []uint32{255, 170, 204, 136, 240, 160, 192, 128}},
		{"diamond", 1, []uint32{7, 6, 4}},
		{"diamond", 2, []uint32{15, 10, 12, 8}},
		{"diamond", 6, []uint32{255, 130, 132, 136, 144, 160, 192, 128}},
	} {
		l, e := order.Make(x.kind, x.n)
		if e != api.OK || !slices.Equal(l.Up, x.up) || !slices.Equal(l.Names, names(len(x.up))) {
			t.Error(x.kind, x.n, l, e)
		}
	}
}

func TestMakeFollowsWords(t *testing.T) {
	words := map[string]func(n, a, b int) bool{
		"chain":   func(n, a, b int) bool { return a == b || b > a },
		"power":   func(n, a, b int) bool { return a|b == b },
		"diamond": func(n, a, b int) bool { return a == b || a == 0 || b == n+1 },
	}
	counts := map[string]func(n int) int{
		"chain":   func(n int) int { return n },
		"power":   func(n int) int { return 1 << n },
		"diamond": func(n int) int { return n + 2 },
	}
	for kind, size := range sizes {
		for n := size[0]; n <= size[1]; n++ {
			l, e := order.Make(kind, n)
			if e != api.OK || len(l.Up) != counts[kind](n) || !slices.Equal(l.Names, names(counts[kind](n))) {
				t.Fatal(kind, n, l, e)
			}
			for a := range l.Up {
				for b := range l.Up {
					if l.Up[a]>>b&1 == 1 != words[kind](n, a, b) {
						t.Error(kind, n, a, b, l.Up)
					}
				}
			}
		}
	}
}

func TestMakeIsLattice(t *testing.T) {
	for kind, size := range sizes {
		for n := size[0]; n <= size[1]; n++ {
			if l, e := order.Make(kind, n); e != api.OK || lattice.Check(l) != api.OK {
				t.Error(kind, n, l, e)
			}
		}
	}
}

func TestMakeWrongN(t *testing.T) {
	for kind, size := range sizes {
		for _, n := range []int{size[0] - 1, size[1] + 1, -1, 9, 31, 32, 62, 63, 64, 1000, math.MaxInt - 1, math.MaxInt, math.MinInt} {
			if l, e := order.Make(kind, n); e != api.ErrArg || !isNone(l) {
				t.Error(kind, n, l, e)
			}
		}
	}
}

func TestMakeWrongKind(t *testing.T) {
	for _, kind := range []string{"", " ", "Chain", "chain ", "chains", "chai", "powe", "powers", "power\x00", "Diamond", "diamonds", "square", "a", "\xff"} {
		for _, n := range []int{0, 1, 2, -1, 9, math.MaxInt} {
			if l, e := order.Make(kind, n); e != api.ErrName || !isNone(l) {
				t.Errorf("%q %d: %v %v", kind, n, l, e)
			}
		}
	}
}

func TestOfKnown(t *testing.T) {
	for name, x := range map[string]struct {
		edges string
		up    []uint32
	}{
		"one label":           {"", []uint32{1}},
		"to itself":           {"aa", []uint32{1}},
		"chain":               {"ab bc", []uint32{7, 6, 4}},
		"chain, backwards":    {"bc ab", []uint32{7, 6, 4}},
		"chain, upside down":  {"cb ba", []uint32{1, 3, 7}},
		"more than the least": {"ab bc ac aa cc", []uint32{7, 6, 4}},
		"an edge twice":       {"ab ab bc bc", []uint32{7, 6, 4}},
		"diamond":             {"ab ac bd cd", []uint32{15, 10, 12, 8}},
		"pentagon":            {"ab ac cd be de", []uint32{31, 18, 28, 24, 16}},
		"long way, backwards": {"gh fg ef de cd bc ab", []uint32{255, 254, 252, 248, 240, 224, 192, 128}},
	} {
		l, e := order.Of(names(len(x.up)), edges(x.edges))
		if e != api.OK || !slices.Equal(l.Up, x.up) || !slices.Equal(l.Names, names(len(x.up))) {
			t.Error(name, l, e)
		}
	}
}

func TestOfSmallEdges(t *testing.T) {
	count := map[api.Errno]int{}
	for n, some := range small {
		want := api.Lattice{Names: names(n), Up: slowUp(n, some)}
		e := lattice.Check(want)
		if e != api.OK {
			want = api.Lattice{}
		}
		count[e]++
		back := slices.Clone(some)
		slices.Reverse(back)
		for _, l := range [][]api.Edge{some, back, append(slices.Clone(some), some...)} {
			if got, f := order.Of(names(n), l); !order.Like(got, want) || f != e {
				t.Fatal(n, l, got, f, want, e)
			}
		}
	}
	if count[api.OK] == 0 || count[api.ErrOrder] == 0 || count[api.ErrJoin] == 0 {
		t.Fatal(count)
	}
}

func TestOfNoLattice(t *testing.T) {
	for name, x := range map[string]struct {
		n     int
		edges string
		e     api.Errno
	}{
		"circle of two":        {2, "ab ba", api.ErrOrder},
		"circle of eight":      {8, "ab bc cd de ef fg gh ha", api.ErrOrder},
		"circle in the midst":  {4, "ab bc cb cd", api.ErrOrder},
		"circle ahead of join": {3, "ab ba", api.ErrOrder},
		"two apart":            {2, "", api.ErrJoin},
		"eight apart":          {8, "", api.ErrJoin},
		"no bottom":            {3, "ac bc", api.ErrJoin},
		"no top":               {3, "ab ac", api.ErrJoin},
		"two joins":            {6, "ab ac bd be cd ce df ef", api.ErrJoin},
	} {
		if l, e := order.Of(names(x.n), edges(x.edges)); e != x.e || !isNone(l) {
			t.Error(name, l, e)
		}
	}
}

func TestOfCountOfNames(t *testing.T) {
	many := slices.Repeat([]api.Edge{{Low: 0, High: 0}}, 65)
	for _, l := range [][]string{nil, {}, append(names(8), "i"), make([]string, 64), make([]string, 1000)} {
		for _, some := range [][]api.Edge{nil, edges("aa"), {{Low: -1, High: 99}}, many} {
			if got, e := order.Of(l, some); e != api.ErrArg || !isNone(got) {
				t.Error(len(l), len(some), got, e)
			}
		}
	}
}

func TestOfCountOfEdges(t *testing.T) {
	full := slices.Repeat(edges("ab"), 64)
	if l, e := order.Of(names(2), full); e != api.OK || !slices.Equal(l.Up, []uint32{3, 2}) {
		t.Error(l, e)
	}
	last := append(slices.Repeat(edges("aa"), 63), edges("ab")...)
	if l, e := order.Of(names(2), last); e != api.OK || !slices.Equal(l.Up, []uint32{3, 2}) {
		t.Error(l, e)
	}
	for _, count := range []int{65, 66, 1000} {
		for _, x := range []api.Edge{{Low: 0, High: 1}, {Low: 0, High: 0}, {Low: -1, High: 0}, {Low: 0, High: 2}} {
			for _, l := range [][]string{names(2), {"A", "b"}, {"a", "a"}} {
				if got, e := order.Of(l, slices.Repeat([]api.Edge{x}, count)); e != api.ErrMany || !isNone(got) {
					t.Error(l, count, x, got, e)
				}
			}
		}
	}
}

func TestOfNoPlace(t *testing.T) {
	for _, wrong := range []int{-1, 2, 3, 8, 31, 32, 64, math.MaxInt, math.MinInt} {
		for _, x := range []api.Edge{{Low: wrong, High: 0}, {Low: 1, High: wrong}, {Low: wrong, High: wrong}} {
			for at := range 3 {
				some := slices.Insert(edges("ab ba"), at, x)
				for _, l := range [][]string{names(2), {"A", "b"}, {"a", "a"}} {
					if got, e := order.Of(l, some); e != api.ErrNone || !isNone(got) {
						t.Error(l, some, got, e)
					}
				}
			}
		}
	}
	if l, e := order.Of(names(8), edges("ai")); e != api.ErrNone || !isNone(l) {
		t.Error(l, e)
	}
}

func TestOfWrongNames(t *testing.T) {
	for _, l := range [][]string{{"a", ""}, {"A", "b"}, {"a", "a"}, {"a", "b1"}, {"a", "abcdefghijklm"}, {"a\n", "b"}} {
		for _, text := range []string{"ab", "ab ba", ""} {
			if got, e := order.Of(l, edges(text)); e != api.ErrArg || !isNone(got) {
				t.Errorf("%q %s %v %v", l, text, got, e)
			}
		}
	}
}

func TestEdgesOfKinds(t *testing.T) {
	for _, x := range []struct {
		kind  string
		n     int
		edges string
	}{
		{"chain", 1, ""},
		{"chain", 2, "ab"},
		{"chain", 8, "ab bc cd de ef fg gh"},
		{"power", 0, ""},
		{"power", 1, "ab"},
		{"power", 2, "ab ac bd cd"},
		{"power", 3, "ab ac ae bd bf cd cg dh ef eg fh gh"},
		{"diamond", 1, "ab bc"},
		{"diamond", 2, "ab ac bd cd"},
		{"diamond", 6, "ab ac ad ae af ag bh ch dh eh fh gh"},
	} {
		l, e := order.Make(x.kind, x.n)
		if e != api.OK {
			t.Fatal(x.kind, x.n, e)
		}
		if got, e := order.Edges(l); e != api.OK || !slices.Equal(got, edges(x.edges)) {
			t.Error(x.kind, x.n, got, e)
		}
	}
}

func TestEdgesUpsideDown(t *testing.T) {
	for text, up := range map[string][]uint32{
		"ba cb":          {1, 3, 7},
		"ba cd db":       {1, 3, 15, 11},
		"ba cb cd da":    {1, 3, 15, 9},
		"ba ca db dc":    {1, 3, 5, 15},
		"ab ad bc ce de": {31, 22, 20, 24, 16},
	} {
		l := api.Lattice{Names: names(len(up)), Up: up}
		if got, e := order.Edges(l); e != api.OK || !slices.Equal(got, edges(text)) {
			t.Error(text, got, e)
		}
	}
}

func TestEdgesAreThose(t *testing.T) {
	for _, l := range lattices(t) {
		got, e := order.Edges(l)
		var want []api.Edge
		for a := range l.Up {
			for b := range l.Up {
				ok := a != b && l.Up[a]>>b&1 == 1
				for c := range l.Up {
					ok = ok && (c == a || c == b || l.Up[a]>>c&1 == 0 || l.Up[c]>>b&1 == 0)
				}
				if ok {
					want = append(want, api.Edge{Low: a, High: b})
				}
			}
		}
		if e != api.OK || !slices.Equal(got, want) {
			t.Fatal(l.Up, got, want, e)
		}
	}
}

func TestMadeAgain(t *testing.T) {
	for _, l := range lattices(t) {
		least, e := order.Edges(l)
		if e != api.OK {
			t.Fatal(l, e)
		}
		if got, e := order.Of(l.Names, least); e != api.OK || !order.Like(got, l) {
			t.Fatal(l, least, got, e)
		}
		for i := range least {
			if got, e := order.Of(l.Names, slices.Delete(slices.Clone(least), i, i+1)); e == api.OK && order.Like(got, l) {
				t.Fatal(l, least, i)
			}
		}
	}
}

func TestFind(t *testing.T) {
	for _, l := range lattices(t) {
		for a, name := range l.Names {
			if got, e := order.Find(l, name); got != a || e != api.OK {
				t.Fatal(l, name, got, e)
			}
		}
		for _, name := range []string{"", " ", "A", "ab", "a ", "i", "left ", "hig", "nobody", "abcdefghijklmn", "\xff"} {
			if got, e := order.Find(l, name); !slices.Contains(l.Names, name) && (got != 0 || e != api.ErrNone) {
				t.Fatalf("%v %q %d %v", l, name, got, e)
			}
		}
	}
}

func TestTellCheck(t *testing.T) {
	for name, l := range map[string]api.Lattice{
		"nothing":      {},
		"a name less":  {Names: []string{"a"}, Up: []uint32{3, 2}},
		"a name more":  {Names: []string{"a", "b"}, Up: []uint32{1}},
		"strange bit":  {Names: []string{"a", "b"}, Up: []uint32{7, 2}},
		"wrong name":   {Names: []string{"a", "B"}, Up: []uint32{3, 2}},
		"same names":   {Names: []string{"a", "a"}, Up: []uint32{3, 2}},
		"nine labels":  {Names: append(names(8), "i"), Up: []uint32{511, 510, 508, 504, 496, 480, 448, 384, 256}},
		"no order":     {Names: []string{"a", "b"}, Up: []uint32{3, 3}},
		"not to third": {Names: []string{"a", "b", "c"}, Up: []uint32{3, 6, 4}},
		"no lattice":   {Names: []string{"a", "b"}, Up: []uint32{1, 2}},
	} {
		want := lattice.Check(l)
		if want == api.OK {
			t.Fatal(name)
		}
		if got, e := order.Edges(l); len(got) != 0 || e != want {
			t.Error(name, got, e)
		}
		for _, word := range []string{"a", "b", "", "nobody"} {
			if got, e := order.Find(l, word); got != 0 || e != want {
				t.Error(name, word, got, e)
			}
		}
	}
}

func TestLike(t *testing.T) {
	diamond := func() api.Lattice {
		return api.Lattice{Names: []string{"low", "left", "right", "high"}, Up: []uint32{15, 10, 12, 8}}
	}
	broken := api.Lattice{Names: []string{"A", ""}, Up: []uint32{0, 99, 1 << 31}}
	for _, l := range []api.Lattice{diamond(), {}, {Names: []string{"a"}}, {Up: []uint32{1}}, broken} {
		if !order.Like(l, api.Lattice{Names: slices.Clone(l.Names), Up: slices.Clone(l.Up)}) {
			t.Error(l)
		}
	}
	if !order.Like(api.Lattice{}, api.Lattice{Names: []string{}, Up: []uint32{}}) || !order.Like(api.Lattice{Names: []string{}, Up: []uint32{}}, api.Lattice{}) {
		t.Error("nil and empty")
	}
	var others []api.Lattice
	for i := range 4 {
		name, up := diamond(), diamond()
		name.Names[i] += "x"
		up.Up[i] ^= 1 << 31
		others = append(others, name, up)
	}
	longer, wider, shorter, empty := diamond(), diamond(), diamond(), diamond()
	longer.Names = append(longer.Names, "more")
	wider.Up = append(wider.Up, 0)
	shorter.Up = shorter.Up[:3]
	empty.Names = nil
	swapped := diamond()
	swapped.Names[1], swapped.Names[2] = swapped.Names[2], swapped.Names[1]
	for _, l := range append(others, longer, wider, shorter, empty, swapped, api.Lattice{}) {
		if order.Like(diamond(), l) || order.Like(l, diamond()) {
			t.Error(l)
		}
	}
}

func TestArgumentsStay(t *testing.T) {
	for _, l := range lattices(t) {
		least, _ := order.Edges(l)
		before := fmt.Sprint(l, least)
		made, e := order.Of(l.Names, least)
		for _, ask := range []func() string{
			func() string { return fmt.Sprint(order.Of(l.Names, least)) },
			func() string { return fmt.Sprint(order.Edges(l)) },
			func() string { return fmt.Sprint(order.Find(l, l.Names[0])) },
			func() string { return fmt.Sprint(order.Like(l, made)) },
		} {
			if ask() != ask() {
				t.Fatal(l)
			}
		}
		if e != api.OK {
			t.Fatal(l, e)
		}
		made.Names[0], made.Up[0] = "changed", 99
		if fmt.Sprint(l, least) != before {
			t.Fatal(before, l, least)
		}
	}
}

func TestAnswersAreNew(t *testing.T) {
	for kind, size := range sizes {
		first, _ := order.Make(kind, size[1])
		want := fmt.Sprint(first)
		again, _ := order.Make(kind, size[1])
		again.Names[0], again.Up[0] = "changed", 99
		if third, e := order.Make(kind, size[1]); fmt.Sprint(first) != want || fmt.Sprint(third) != want || e != api.OK {
			t.Error(kind, want, first, third, e)
		}
	}
}
