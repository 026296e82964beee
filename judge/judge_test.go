package judge_test

import (
	"math"
	"slices"
	"strings"
	"testing"

	"reticent/api"
	"reticent/judge"
	"reticent/lattice"
	"reticent/lex"
	"reticent/rule"
)

// numbers are what the document's words and marks put.
var numbers = map[string]int{
	"true": 1, "false": 2, "and": 3, "or": 4, "<=": 5, "bot": 6, "top": 7, "pc": 8, "one": 9, "two": 10, "three": 11, "join": 12, "meet": 13,
}

// row is a rule, told by the words that put its numbers, in their order.
func row(s string) []int {
	var l []int
	for _, word := range strings.Fields(s) {
		l = append(l, numbers[word])
	}
	return l
}

func times(n int, s string) string { return strings.Repeat(s, n) }

// of is an order whose labels are named a, b and so on.
func of(up ...uint32) api.Lattice {
	l := api.Lattice{Up: up}
	for i := range up {
		l.Names = append(l.Names, string(rune('a'+i)))
	}
	return l
}

// The diamond is bottom, left, right, top; the turned one is top, left, bottom, right; the pentagon is bottom, its short side, its long side's low and high one, top.
var (
	diamond  = of(15, 10, 12, 8)
	turned   = of(1, 3, 15, 9)
	pentagon = of(31, 18, 28, 24, 16)
)

// known are lattices of all sizes but 6 and 7.
func known() map[string]api.Lattice {
	return map[string]api.Lattice{
		"one label":      of(1),
		"two":            of(3, 2),
		"two, turned":    of(1, 3),
		"three, mixed":   of(5, 7, 4),
		"diamond":        diamond,
		"turned diamond": turned,
		"pentagon":       pentagon,
		"three between":  of(31, 18, 20, 24, 16),
		"chain of eight": of(255, 254, 252, 248, 240, 224, 192, 128),
		"cube":           of(255, 170, 204, 136, 240, 160, 192, 128),
		"six between":    of(255, 130, 132, 136, 144, 160, 192, 128),
	}
}

// strange are orders that are no lattices, each with why.
func strange() map[api.Errno][]api.Lattice {
	return map[api.Errno][]api.Lattice{
		api.ErrArg:   {{}, {Names: []string{"a"}}, {Up: []uint32{1}}, {Names: []string{"A"}, Up: []uint32{1}}, {Names: []string{"a", "a"}, Up: []uint32{3, 2}}, of(3), of(511, 510, 508, 504, 496, 480, 448, 384, 256)},
		api.ErrOrder: {of(0), of(3, 3), of(3, 6, 4)},
		api.ErrJoin:  {of(1, 2), of(7, 2, 4), of(63, 58, 60, 40, 48, 32)},
	}
}

// asked is what a rule comes to, as a number: a condition that is so is 1.
func asked(l api.Lattice, r, labels []int, label bool) (int, api.Errno) {
	if label {
		return judge.Label(l, r, labels)
	}
	so, e := judge.Cond(l, r, labels)
	if so {
		return 1, e
	}
	return 0, e
}

// isSo tells a condition that comes to something else, or is taken for a label.
func isSo(t *testing.T, l api.Lattice, words string, labels []int, want bool) {
	t.Helper()
	if got, e := judge.Cond(l, row(words), labels); got != want || e != api.OK {
		t.Errorf("%v %q %v: %v %v, want %v", l.Up, words, labels, got, e, want)
	}
	refused(t, l, row(words), labels, true, api.ErrArg)
}

// comesTo tells a label that comes to something else, or is taken for a condition.
func comesTo(t *testing.T, l api.Lattice, words string, labels []int, want int) {
	t.Helper()
	if got, e := judge.Label(l, row(words), labels); got != want || e != api.OK {
		t.Errorf("%v %q %v: %v %v, want %v", l.Up, words, labels, got, e, want)
	}
	refused(t, l, row(words), labels, false, api.ErrArg)
}

// refused tells a rule that has not its error, or something beside it.
func refused(t *testing.T, l api.Lattice, r, labels []int, label bool, want api.Errno) {
	t.Helper()
	if got, e := asked(l, r, labels, label); got != 0 || e != want {
		t.Errorf("%v %v %v, label %v: %v %v, want %v", l.Up, r, labels, label, got, e, want)
	}
}

func TestExample(t *testing.T) {
	for _, l := range known() {
		bottom, _ := lattice.Bottom(l)
		top, _ := lattice.Top(l)
		isSo(t, l, "pc one <=", []int{top, bottom, bottom, bottom}, top == bottom)
		isSo(t, l, "pc one <=", []int{bottom, top, bottom, bottom}, true)
	}
}

func TestEachNumberAlone(t *testing.T) {
	labels := []int{1, 3, 0, 2}
	isSo(t, turned, "true", labels, true)
	isSo(t, turned, "false", labels, false)
	for word, want := range map[string]int{"bot": 2, "top": 0, "pc": 1, "one": 3, "two": 0, "three": 2} {
		comesTo(t, turned, word, labels, want)
	}
	for word, want := range map[string]int{"bot": 0, "top": 3, "pc": 1, "one": 3, "two": 0, "three": 2} {
		comesTo(t, diamond, word, labels, want)
	}
	for _, word := range []string{"and", "or", "<=", "join", "meet"} {
		refused(t, diamond, row(word), labels, false, api.ErrArg)
		refused(t, diamond, row(word), labels, true, api.ErrArg)
	}
}

func TestTwoConditions(t *testing.T) {
	for s, want := range map[string]bool{
		"true true and": true, "true false and": false, "false true and": false, "false false and": false,
		"true true or": true, "true false or": true, "false true or": true, "false false or": false,
	} {
		isSo(t, diamond, s, []int{0, 0, 0, 0}, want)
	}
}

func TestTwoLabels(t *testing.T) {
	for _, x := range []struct {
		l          api.Lattice
		a, b       int
		flows      bool
		join, meet int
	}{
		{diamond, 0, 0, true, 0, 0}, {diamond, 0, 1, true, 1, 0}, {diamond, 1, 0, false, 1, 0}, {diamond, 1, 2, false, 3, 0}, {diamond, 2, 1, false, 3, 0},
		{diamond, 2, 3, true, 3, 2}, {diamond, 3, 2, false, 3, 2}, {diamond, 3, 0, false, 3, 0}, {diamond, 3, 3, true, 3, 3},
		{turned, 0, 2, false, 0, 2}, {turned, 2, 0, true, 0, 2}, {turned, 1, 3, false, 0, 2}, {turned, 2, 3, true, 3, 2}, {turned, 1, 0, true, 0, 1},
		{pentagon, 1, 2, false, 4, 0}, {pentagon, 3, 1, false, 4, 0}, {pentagon, 2, 3, true, 3, 2}, {pentagon, 3, 2, false, 3, 2},
		{of(1), 0, 0, true, 0, 0},
	} {
		for _, names := range [][3]string{{"pc", "one", "ab.."}, {"one", "pc", "ba.."}, {"one", "two", ".ab."}, {"two", "three", "..ab"}, {"three", "pc", "b..a"}} {
			labels := make([]int, 4)
			for i, c := range names[2] {
				labels[i] = map[rune]int{'a': x.a, 'b': x.b, '.': 0}[c]
			}
			two := names[0] + " " + names[1] + " "
			isSo(t, x.l, two+"<=", labels, x.flows)
			comesTo(t, x.l, two+"join", labels, x.join)
			comesTo(t, x.l, two+"meet", labels, x.meet)
		}
	}
}

func TestOfMoreConditions(t *testing.T) {
	for s, want := range map[string]bool{
		"true true false and or":              true,
		"true true or false and":              false,
		"true false or false and":             false,
		"true false false and or":             true,
		"false false true and or":             false,
		"false true true or and":              false,
		"false true and true or":              true,
		"pc one <= true or":                   true,
		"pc one <= true and":                  false,
		"two pc <= two one <= and":            true,
		"two pc <= pc two <= and":             false,
		"pc two <= two pc <= or":              true,
		"one pc join three <=":                true,
		"three one pc join <=":                true,
		"one pc join one <=":                  false,
		"one pc meet two <=":                  true,
		"one pc two meet join one <=":         true,
		"bot top <=":                          true,
		"top bot <=":                          false,
		"pc pc <= one one <= and":             true,
		"pc one <= one pc <= or":              false,
		"true pc one <= one pc <= or or":      true,
		"one two pc join join top <= true or": true,
	} {
		isSo(t, diamond, s, []int{1, 2, 0, 3}, want)
	}
}

func TestOfMoreLabels(t *testing.T) {
	for s, want := range map[string]int{
		"pc one join two meet": 0,
		"pc one two join meet": 0,
		"pc one two meet join": 1,
		"pc one meet two join": 0,
		"pc one join pc meet":  1,
		"pc three meet":        1,
		"two three join":       3,
		"bot pc join":          1,
		"top pc meet":          1,
		"bot top join":         3,
		"bot top meet":         0,
	} {
		comesTo(t, diamond, s, []int{1, 2, 0, 3}, want)
	}
	// In the pentagon it matters which of join and meet is first.
	for s, want := range map[string]int{
		"one two three join meet": 3,
		"two one three meet join": 2,
		"two three join one meet": 3,
		"one three meet two join": 2,
		"two pc join three join":  4,
	} {
		comesTo(t, pentagon, s, []int{0, 3, 2, 1}, want)
	}
}

// TestAsRead has rules that are told by a text.
func TestAsRead(t *testing.T) {
	for s, want := range map[string]bool{
		"pc <= one":                       false,
		"two <= pc":                       true,
		"one join pc <= three":            true,
		"[one join two] meet three <= pc": false,
		"pc <= one or two <= one and one <= three": true,
		"(pc <= one or two <= one) and one <= two": false,
	} {
		l, _, e := lex.Lex(s)
		if e != api.OK {
			t.Fatal(s, e)
		}
		r, _, e := rule.From(l, 0, false)
		if got, f := judge.Cond(diamond, r, []int{1, 2, 0, 3}); e != api.OK || f != api.OK || got != want {
			t.Error(s, got, e, f)
		}
	}
}

// wrong are rules that are made right as neither.
func wrong() [][]int {
	l := [][]int{nil, {}, {0}, {-1}, {14}, {math.MaxInt}, {math.MinInt}, make([]int, 39), make([]int, 100000), {9, 0}, {1, 14}}
	for _, s := range []string{
		"true true", "one one", "true one", "one true", "one and", "true and", "one join", "true one and", "one true or", "one two and", "true false <=", "true one <=", "one true <=",
		"true false join", "true one meet", "one true join", "one two <= join", "one two join and", "one two <= three", "true false and or", "one two join meet", "and true true", "join one two",
		"one" + times(20, " one join"), "true" + times(20, " true or"), times(21, "one ") + times(20, "meet "), "one" + times(50, " two meet"), times(41, "true "),
	} {
		l = append(l, row(s))
	}
	return l
}

func TestNotMadeRight(t *testing.T) {
	for _, r := range wrong() {
		for _, labels := range [][]int{{0, 0, 0, 0}, {3, 2, 1, 0}, {3, 3, 3, 3}, nil, {9}, {0, 0, 0, 4}} {
			for _, label := range []bool{false, true} {
				refused(t, diamond, r, labels, label, api.ErrArg)
			}
		}
	}
}

// TestOtherSort has the sort be asked ahead of the labels.
func TestOtherSort(t *testing.T) {
	for _, labels := range [][]int{{3, 3, 3, 3}, {3, 3, 3, 4}, {3, 3, 3}, nil} {
		for _, s := range []string{"true", "one two <=", "true one two <= or", "true true and"} {
			refused(t, diamond, row(s), labels, true, api.ErrArg)
		}
		for _, s := range []string{"top", "one", "pc", "one two join", "top two meet"} {
			refused(t, diamond, row(s), labels, false, api.ErrArg)
		}
	}
}

// TestLongest has 39 numbers, the most that a rule has, with few things on the pile and with many.
func TestLongest(t *testing.T) {
	labels := []int{1, 2, 0, 3}
	comesTo(t, diamond, "two"+times(19, " two join"), labels, 0)
	comesTo(t, diamond, "pc"+times(18, " two join")+" one join", labels, 3)
	comesTo(t, diamond, "pc one"+times(18, " two")+times(19, " join"), labels, 3)
	comesTo(t, diamond, times(20, "three ")+times(19, "meet "), labels, 3)
	isSo(t, diamond, "one"+times(18, " one meet")+" pc <=", labels, false)
	for n := range 20 {
		for _, end := range []string{times(19, " and"), times(19, " or")} {
			isSo(t, diamond, times(n, "true ")+"false"+times(19-n, " true")+end, labels, strings.Contains(end, "or"))
			isSo(t, diamond, times(n, "false ")+"true"+times(19-n, " false")+end, labels, strings.Contains(end, "or"))
		}
	}
	for _, s := range []string{"one" + times(20, " one join"), times(21, "one ") + times(20, "join ")} {
		refused(t, diamond, row(s), labels, true, api.ErrArg)
	}
}

// TestNoFourLabels has a label for each that the rule names, too.
func TestNoFourLabels(t *testing.T) {
	for _, l := range known() {
		for _, labels := range [][]int{nil, {}, {0}, {0, 0}, {0, 0, 0}, {0, 0, 0, 0, 0}, make([]int, 8), make([]int, 100000)} {
			for _, s := range []string{"true", "pc pc <=", "one two <=", "three top <="} {
				refused(t, l, row(s), labels, false, api.ErrNone)
			}
			for _, s := range []string{"top", "bot", "pc", "one", "three two join"} {
				refused(t, l, row(s), labels, true, api.ErrNone)
			}
		}
	}
}

// TestNoLabel has a label be wrong at each place, if the rule names it or not.
func TestNoLabel(t *testing.T) {
	for _, l := range known() {
		for at := range 4 {
			for _, n := range []int{-1, len(l.Up), len(l.Up) + 1, 8, 31, 32, 63, 64, math.MaxInt, math.MinInt} {
				labels := []int{0, 0, 0, 0}
				labels[at] = n
				for _, s := range []string{"true", "false", "bot top <=", "pc one <=", "two three <="} {
					refused(t, l, row(s), labels, false, api.ErrNone)
				}
				for _, s := range []string{"bot", "top", "pc", "one", "two", "three", "pc two join"} {
					refused(t, l, row(s), labels, true, api.ErrNone)
				}
				labels[at] = len(l.Up) - 1
				comesTo(t, l, []string{"pc", "one", "two", "three"}[at], labels, len(l.Up)-1)
			}
		}
	}
}

// TestNoLattice has the lattice's error come ahead of what else is wrong.
func TestNoLattice(t *testing.T) {
	for want, ls := range strange() {
		for _, l := range ls {
			if e := lattice.Check(l); e != want {
				t.Fatal(l, e, want)
			}
			for _, labels := range [][]int{{0, 0, 0, 0}, {1, 0, 1, 0}, nil, {9, -1, 9, 9}} {
				for _, r := range append(wrong(), row("true"), row("top"), row("one"), row("bot top <="), row("one pc join"), row("one pc meet")) {
					refused(t, l, r, labels, false, want)
					refused(t, l, r, labels, true, want)
				}
			}
		}
	}
}

func TestArgumentsStay(t *testing.T) {
	for _, s := range []string{"pc one join two three meet <= true and", "one two three pc join meet join"} {
		for _, l := range known() {
			// What lies behind a list's end is the caller's as well.
			r, labels := append(row(s), 99), []int{len(l.Up) - 1, 0, len(l.Up) / 2, 0, 99}
			names, up, before, had := slices.Clone(l.Names), slices.Clone(l.Up), slices.Clone(r), slices.Clone(labels)
			for _, label := range []bool{false, true} {
				first, e := asked(l, r[:len(r)-1], labels[:4], label)
				again, f := asked(l, r[:len(r)-1], labels[:4], label)
				if first != again || e != f {
					t.Error(s, up, first, again, e, f)
				}
			}
			if !slices.Equal(names, l.Names) || !slices.Equal(up, l.Up) || !slices.Equal(before, r) || !slices.Equal(had, labels) {
				t.Error(s, names, up, before, had, l, r, labels)
			}
		}
	}
}
