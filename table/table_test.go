package table_test

import (
	"math"
	"slices"
	"strings"
	"testing"

	"reticent/api"
	"reticent/table"
)

// told are the document's instructions, in order: their words, how many labels each has, and their usual rows.
var told = []struct {
	word         string
	labels       int
	may, res, pc string
}{
	{"noop", 0, "true", "bot", "pc"},
	{"push", 1, "true", "one", "pc"},
	{"pop", 1, "true", "bot", "pc"},
	{"add", 2, "true", "one join two", "pc"},
	{"sub", 2, "true", "one join two", "pc"},
	{"load", 2, "true", "one join two", "pc"},
	{"store", 3, "one join pc <= three", "one join two join pc", "pc"},
	{"jump", 1, "true", "bot", "one join pc"},
	{"bnz", 1, "true", "bot", "one join pc"},
	{"call", 1, "true", "bot", "one join pc"},
	{"return", 2, "true", "one join pc", "two"},
	{"output", 1, "true", "one join pc", "pc"},
	{"halt", 0, "true", "bot", "pc"},
}

var named = []string{"one", "two", "three"}

// numbers are what the document's words and marks put.
var numbers = map[string]int{
	"true": 1, "false": 2, "and": 3, "or": 4, "<=": 5, "bot": 6, "top": 7, "pc": 8, "one": 9, "two": 10, "three": 11, "join": 12, "meet": 13,
}

// row is a rule, told by the words that put its numbers, in their order.
func row(s string) []int {
	var l []int
	for _, word := range strings.Fields(s) {
		l = append(l, numbers[word])
	}
	return l
}

func times(n int, s string) string { return strings.Repeat(s, n) }

// usual is the usual table, by its numbers.
func usual() api.Table {
	var t api.Table
	put := func(may, res, pc string) {
		t.Rows = append(t.Rows, api.Row{May: row(may), Res: row(res), Pc: row(pc)})
	}
	put("true", "bot", "pc")
	put("true", "one", "pc")
	put("true", "bot", "pc")
	for range 3 {
		put("true", "one two join", "pc")
	}
	put("one pc join three <=", "one two join pc join", "pc")
	for range 3 {
		put("true", "bot", "one pc join")
	}
	put("true", "one pc join", "two")
	put("true", "one pc join", "pc")
	put("true", "bot", "pc")
	return t
}

// lines are the usual table's rows, as they are written.
func lines() []string {
	var l []string
	for _, x := range told {
		l = append(l, x.word+" : "+x.may+" ; "+x.res+" ; "+x.pc+" ;\n")
	}
	return l
}

// rules are a row's, in order, so that each can be put.
func rules(r *api.Row) []*[]int { return []*[]int{&r.May, &r.Res, &r.Pc} }

// with is the usual table, but for one rule of one row.
func with(op, part int, rule []int) api.Table {
	t := usual()
	*rules(&t.Rows[op])[part] = rule
	return t
}

func like(a, b api.Table) bool {
	if len(a.Rows) != len(b.Rows) {
		return false
	}
	for i := range a.Rows {
		for k, x := range rules(&a.Rows[i]) {
			if !slices.Equal(*x, *rules(&b.Rows[i])[k]) {
				return false
			}
		}
	}
	return true
}

// checks tells a table that has another fault, or has it elsewhere.
func checks(t *testing.T, x api.Table, at int, e api.Errno) {
	t.Helper()
	if i, f := table.Check(x); i != at || f != e {
		t.Errorf("%v: %d %v, want %d %v", x, i, f, at, e)
	}
}

// refused tells a table that has a text, or another error.
func refused(t *testing.T, x api.Table, e api.Errno) {
	t.Helper()
	if got, f := table.Text(x); got != "" || f != e {
		t.Errorf("%v: %q %v, want %v", x, got, f, e)
	}
}

func TestWords(t *testing.T) {
	for op, x := range told {
		if got, e := table.Name(op); got != x.word || e != api.OK {
			t.Error(op, got, e)
		}
		if got, e := table.Arity(op); got != x.labels || e != api.OK {
			t.Error(op, got, e)
		}
	}
	for _, op := range []int{-1, -2, -12, -13, 13, 14, 100, 256, 1 << 32, math.MaxInt, math.MinInt, math.MinInt + 12} {
		if got, e := table.Name(op); got != "" || e != api.ErrNone {
			t.Error(op, got, e)
		}
		if got, e := table.Arity(op); got != 0 || e != api.ErrNone {
			t.Error(op, got, e)
		}
	}
}

func TestUsual(t *testing.T) {
	x := table.Usual()
	if !like(x, usual()) {
		t.Error(x)
	}
	checks(t, x, 0, api.OK)
	if got, e := table.Text(x); got != strings.Join(lines(), "") || e != api.OK {
		t.Error(got, e)
	}
	reads(t, strings.Join(lines(), ""), x)
}

// TestNothingIsShared has each number be changed, and asks whether another one changed with it.
func TestNothingIsShared(t *testing.T) {
	text := strings.Join(lines(), "")
	for _, made := range []func() api.Table{
		table.Usual,
		func() api.Table { x, _, _ := table.Parse(text); return x },
	} {
		x := made()
		for op := range x.Rows {
			for part, r := range rules(&x.Rows[op]) {
				want := with(op, part, append(slices.Clone((*r)[:len(*r)-1]), 99))
				last := &(*r)[len(*r)-1]
				was := *last
				*last = 99
				_ = append(*r, 77)
				if !like(x, want) || !like(made(), usual()) {
					t.Fatal(op, part, x, made())
				}
				*last = was
			}
		}
	}
}

func TestLike(t *testing.T) {
	same := func(a, b api.Table, want bool) {
		t.Helper()
		if table.Like(a, b) != want || table.Like(b, a) != want {
			t.Errorf("%v %v: want %v", a, b, want)
		}
	}
	same(usual(), usual(), true)
	same(usual(), table.Usual(), true)
	same(api.Table{}, api.Table{Rows: []api.Row{}}, true)
	same(api.Table{Rows: make([]api.Row, 2)}, api.Table{Rows: []api.Row{{May: []int{}, Res: []int{}, Pc: []int{}}, {}}}, true)
	same(api.Table{}, api.Table{Rows: make([]api.Row, 1)}, false)
	same(api.Table{Rows: make([]api.Row, 13)}, api.Table{Rows: make([]api.Row, 14)}, false)
	same(usual(), api.Table{}, false)
	same(usual(), api.Table{Rows: usual().Rows[:12]}, false)
	same(usual(), api.Table{Rows: append(usual().Rows, usual().Rows[12])}, false)
	for op := range told {
		for part := range 3 {
			x := usual()
			r := *rules(&x.Rows[op])[part]
			same(usual(), with(op, part, nil), false)
			same(usual(), with(op, part, append(slices.Clone(r), 9)), false)
			same(with(op, part, r[:len(r)-1]), usual(), false)
			for i := range r {
				other := slices.Clone(r)
				other[i]++
				same(usual(), with(op, part, other), false)
			}
			same(with(op, part, []int{-7, 99}), with(op, part, []int{-7, 99}), true)
			same(with(op, part, []int{-7, 99}), with(op, part, []int{99, -7}), false)
			same(with(op, part, []int{}), with(op, part, nil), true)
		}
	}
	x := usual()
	slices.Reverse(x.Rows)
	same(usual(), x, false)
	x = usual()
	x.Rows[0].Res, x.Rows[0].Pc = x.Rows[0].Pc, x.Rows[0].Res
	same(usual(), x, false)
}

func TestCheckHowManyRows(t *testing.T) {
	checks(t, usual(), 0, api.OK)
	checks(t, api.Table{}, 0, api.ErrArg)
	checks(t, api.Table{Rows: []api.Row{}}, 0, api.ErrArg)
	for n := range 13 {
		checks(t, api.Table{Rows: usual().Rows[:n]}, 0, api.ErrArg)
		checks(t, api.Table{Rows: usual().Rows[13-n:]}, 0, api.ErrArg)
	}
	checks(t, api.Table{Rows: append(usual().Rows, api.Row{})}, 0, api.ErrArg)
	checks(t, api.Table{Rows: append(usual().Rows, usual().Rows...)}, 0, api.ErrArg)
	checks(t, api.Table{Rows: make([]api.Row, 100000)}, 0, api.ErrArg)
	// How many rows there are comes ahead of what is wrong with one.
	x := with(3, 0, nil)
	checks(t, api.Table{Rows: x.Rows[:12]}, 0, api.ErrArg)
	x = with(3, 1, row("three"))
	checks(t, api.Table{Rows: append(x.Rows, x.Rows[12])}, 0, api.ErrArg)
	checks(t, api.Table{Rows: make([]api.Row, 13)}, 0, api.ErrArg)
}

func TestCheckWhatIsMadeRight(t *testing.T) {
	for op := range told {
		for part := range 3 {
			for _, r := range [][]int{
				nil, {}, {0}, {14}, {-1}, {99}, {math.MinInt}, {math.MaxInt}, {1 << 32},
				row("and"), row("true and"), row("one two"), row("true false"), row("one two <= join"), row("true one and"), row("one join"), row("true true <="),
				row("one" + times(20, " one join")), row("true" + times(20, " true and")), row(times(41, "pc ")), make([]int, 100000),
			} {
				checks(t, with(op, part, r), op, api.ErrArg)
				refused(t, with(op, part, r), api.ErrArg)
			}
			for _, r := range []string{"true", "false", "bot top <=", "true false and", "true false or"} {
				want := api.OK
				if part != 0 {
					want = api.ErrArg
				}
				checks(t, with(op, part, row(r)), placeOf(op, want), want)
			}
			for _, r := range []string{"bot", "top", "pc", "pc bot join", "top pc meet"} {
				want := api.OK
				if part == 0 {
					want = api.ErrArg
				}
				checks(t, with(op, part, row(r)), placeOf(op, want), want)
			}
		}
	}
}

// placeOf is the place of a row, if it is wrong.
func placeOf(op int, e api.Errno) int {
	if e == api.OK {
		return 0
	}
	return op
}

func TestCheckLabelsOfEach(t *testing.T) {
	for op, x := range told {
		for n, name := range named {
			want := api.OK
			if n >= x.labels {
				want = api.ErrArity
			}
			for _, r := range []string{name + " pc <=", "pc " + name + " <=", "true bot top " + name + " join <= or", "true true and bot " + name + " <= and"} {
				checks(t, with(op, 0, row(r)), placeOf(op, want), want)
			}
			for part := 1; part < 3; part++ {
				for _, r := range []string{name, name + " pc join", "bot top " + name + " meet join"} {
					checks(t, with(op, part, row(r)), placeOf(op, want), want)
				}
			}
			if want != api.OK {
				refused(t, with(op, 2, row(name)), api.ErrArity)
			}
		}
		// All that it has at once, and the machine's own.
		all := "pc"
		for _, name := range named[:x.labels] {
			all += " " + name + " join"
		}
		checks(t, with(op, 0, row(all+" top <=")), 0, api.OK)
		checks(t, with(op, 1, row(all)), 0, api.OK)
		checks(t, with(op, 2, row(all)), 0, api.OK)
	}
}

func TestCheckFirst(t *testing.T) {
	wrong, has := row("true"), row("three")
	for op := range 12 {
		if op == api.IStore {
			continue
		}
		for later := op + 1; later < 13; later++ {
			x := with(op, 1, has)
			x.Rows[later].Pc = wrong
			checks(t, x, op, api.ErrArity)
			refused(t, x, api.ErrArity)
			x = with(op, 2, wrong)
			x.Rows[later].May = nil
			x.Rows[later].Res = has
			checks(t, x, op, api.ErrArg)
			refused(t, x, api.ErrArg)
		}
		// Of one row, what is not made right comes ahead, in whichever rule it is.
		x := with(op, 0, row("three pc <="))
		x.Rows[op].Pc = wrong
		checks(t, x, op, api.ErrArg)
		x.Rows[op].Res, x.Rows[op].Pc = x.Rows[op].Pc, has
		checks(t, x, op, api.ErrArg)
		x.Rows[op].May, x.Rows[op].Res = has, has
		checks(t, x, op, api.ErrArg)
	}
}

func TestTextOfARow(t *testing.T) {
	x := with(api.IAdd, 0, row("one two join three meet pc <="))
	refused(t, x, api.ErrArity)
	x = with(api.IStore, 0, row("one two join three meet pc <= true false or and"))
	x.Rows[api.IStore].Res = row("one two three join join")
	x.Rows[api.IStore].Pc = row("one two join pc meet")
	want := lines()
	want[api.IStore] = "store : [one join two] meet three <= pc and (true or false) ; one join [two join three] ; [one join two] meet pc ;\n"
	if got, e := table.Text(x); got != strings.Join(want, "") || e != api.OK {
		t.Error(got, e)
	}
	reads(t, strings.Join(want, ""), x)
	if got := lines()[api.IAdd]; got != "add : true ; one join two ; pc ;\n" {
		t.Error(got)
	}
}

// deep is a label whose text has so many brackets open at once.
func deep(n int) string { return times(n+2, "pc ") + times(n+1, "join ") }

func TestTextTooDeep(t *testing.T) {
	for op := range told {
		for part := range 3 {
			made := func(n int) []int {
				if part == 0 {
					return row(deep(n) + "bot <=")
				}
				return row(deep(n))
			}
			x := with(op, part, made(12))
			text, e := table.Text(x)
			if e != api.OK {
				t.Error(op, part, e)
			}
			reads(t, text, x)
			x = with(op, part, made(13))
			checks(t, x, 0, api.OK)
			refused(t, x, api.ErrDeep)
			// What may not be comes ahead, wherever it stands.
			for _, other := range []int{0, 12} {
				if other == op {
					continue
				}
				x = with(op, part, made(13))
				x.Rows[other].Res = row("one")
				refused(t, x, api.ErrArity)
				x.Rows[other].Res = nil
				refused(t, x, api.ErrArg)
			}
		}
	}
}

func TestArgumentsAreKept(t *testing.T) {
	x := with(2, 1, row("one two join"))
	keep := with(2, 1, row("one two join"))
	table.Check(x)
	table.Text(x)
	table.Like(x, usual())
	if !like(x, keep) {
		t.Error(x)
	}
	x = usual()
	a, e := table.Text(x)
	b, f := table.Text(x)
	if a != b || e != f || !like(x, usual()) {
		t.Error(x, a, e, b, f)
	}
}
