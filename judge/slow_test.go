package judge_test

import (
	"math/rand"
	"slices"
	"testing"

	"reticent/api"
	"reticent/judge"
	"reticent/lattice"
	"reticent/rule"
)

// slow is what the document's words say, label by label, of a lattice and a rule's labels; the tests hold the package against it.
type slow struct {
	l      api.Lattice
	labels []int
}

func (s slow) flows(a, b int) bool { return s.l.Up[a]&(1<<b) != 0 }

// only is the one of those that are so that goes to each of them.
func (s slow) only(is func(c int) bool, to func(c, d int) bool) int {
	for c := range s.l.Up {
		ok := is(c)
		for d := range s.l.Up {
			ok = ok && (!is(d) || to(c, d))
		}
		if ok {
			return c
		}
	}
	return -1
}

func (s slow) least(is func(c int) bool) int { return s.only(is, s.flows) }

func (s slow) greatest(is func(c int) bool) int {
	return s.only(is, func(c, d int) bool { return s.flows(d, c) })
}

func (s slow) join(a, b int) int {
	return s.least(func(c int) bool { return s.flows(a, c) && s.flows(b, c) })
}

func (s slow) meet(a, b int) int {
	return s.greatest(func(c int) bool { return s.flows(c, a) && s.flows(c, b) })
}

func isAny(int) bool { return true }

func one(is bool) int {
	if is {
		return 1
	}
	return 0
}

// end is what the last thing of a rule that is made right comes to, as a number, and what is ahead of it: it goes from behind, without a pile.
func (s slow) end(r []int) (int, []int) {
	n, r := r[len(r)-1], r[:len(r)-1]
	switch n {
	case 1, 2:
		return one(n == 1), r
	case 6:
		return s.least(isAny), r
	case 7:
		return s.greatest(isAny), r
	case 8, 9, 10, 11:
		return s.labels[n-8], r
	}
	y, r := s.end(r)
	x, r := s.end(r)
	switch n {
	case 3:
		return x * y, r
	case 4:
		return max(x, y), r
	case 5:
		return one(s.flows(x, y)), r
	case 12:
		return s.join(x, y), r
	}
	return s.meet(x, y), r
}

// holds tells a rule that does not come to what slow says, or is taken for one of the other sort.
func holds(t *testing.T, l api.Lattice, r, labels []int, label bool) int {
	t.Helper()
	want, rest := slow{l, labels}.end(r)
	if len(rest) != 0 {
		t.Fatal(r, rest)
	}
	if got, e := asked(l, r, labels, label); got != want || e != api.OK {
		t.Fatalf("%v %v %v, label %v: %v %v, want %v", l.Up, r, labels, label, got, e, want)
	}
	refused(t, l, r, labels, !label, api.ErrArg)
	return want
}

// all are the rules of so many words.
func all(words int) (conditions, labels [][]int) {
	if words == 0 {
		return [][]int{{1}, {2}}, [][]int{{6}, {7}, {8}, {9}, {10}, {11}}
	}
	for n := range words {
		c, l := all(n)
		d, m := all(words - 1 - n)
		conditions = append(conditions, pairs(c, d, 3, 4)...)
		conditions = append(conditions, pairs(l, m, 5)...)
		labels = append(labels, pairs(l, m, 12, 13)...)
	}
	return conditions, labels
}

func pairs(xs, ys [][]int, words ...int) [][]int {
	var l [][]int
	for _, x := range xs {
		for _, y := range ys {
			for _, n := range words {
				l = append(l, slices.Concat(x, y, []int{n}))
			}
		}
	}
	return l
}

// fours are all labels that a rule may have.
func fours(n int) func(yield func(labels []int) bool) {
	return func(yield func(labels []int) bool) {
		for i := range n * n * n * n {
			if !yield([]int{i % n, i / n % n, i / n / n % n, i / n / n / n}) {
				return
			}
		}
	}
}

// small are all lattices of one to three labels.
func small() []api.Lattice {
	var l []api.Lattice
	for n := 1; n <= 3; n++ {
		for bits := range 1 << (n * n) {
			up := make([]uint32, n)
			for a := range n {
				up[a] = uint32(bits>>(n*a)) & (1<<n - 1)
			}
			if x := of(up...); lattice.Check(x) == api.OK {
				l = append(l, x)
			}
		}
	}
	return l
}

// some are all labels that a rule may have, or, of a great lattice, as many by chance as a small one has.
func some(l api.Lattice, m maker) func(yield func(labels []int) bool) {
	if len(l.Up) <= 5 {
		return fours(len(l.Up))
	}
	return func(yield func(labels []int) bool) {
		for range fours(5) {
			if !yield(m.labels(l)) {
				return
			}
		}
	}
}

// TestOneWord has all rules of one word at most.
func TestOneWord(t *testing.T) {
	m := chance(6)
	for words := range 2 {
		conditions, labels := all(words)
		for _, l := range every() {
			for four := range some(l, m) {
				for _, r := range conditions {
					holds(t, l, r, four, false)
				}
				for _, r := range labels {
					holds(t, l, r, four, true)
				}
			}
		}
	}
}

// TestTwoWords has all rules of two words, with all labels, of small lattices.
func TestTwoWords(t *testing.T) {
	conditions, labels := all(2)
	for _, l := range small() {
		for four := range fours(len(l.Up)) {
			for _, r := range conditions {
				holds(t, l, r, four, false)
			}
			for _, r := range labels {
				holds(t, l, r, four, true)
			}
		}
	}
}

// maker makes rules and labels by chance, that is the same each time.
type maker struct{ *rand.Rand }

func chance(seed int64) maker { return maker{rand.New(rand.NewSource(seed))} }

func (m maker) label(words int) []int {
	if words == 0 {
		return []int{6 + m.Intn(6)}
	}
	n := m.Intn(words)
	return slices.Concat(m.label(n), m.label(words-1-n), []int{12 + m.Intn(2)})
}

func (m maker) condition(words int) []int {
	if words == 0 {
		return []int{1 + m.Intn(2)}
	}
	n := m.Intn(words)
	if words == 1 || m.Intn(3) == 0 {
		return slices.Concat(m.label(n), m.label(words-1-n), []int{5})
	}
	return slices.Concat(m.condition(n), m.condition(words-1-n), []int{3 + m.Intn(2)})
}

func (m maker) rule(words int, label bool) []int {
	if label {
		return m.label(words)
	}
	return m.condition(words)
}

func (m maker) labels(l api.Lattice) []int {
	four := make([]int, 4)
	for i := range four {
		four[i] = m.Intn(len(l.Up))
	}
	return four
}

// every are the small and the known lattices, in an order that is the same each time.
func every() []api.Lattice {
	l := small()
	k := known()
	for _, name := range []string{"diamond", "turned diamond", "pentagon", "three between", "chain of eight", "cube", "six between"} {
		l = append(l, k[name])
	}
	return l
}

func TestMadeByChance(t *testing.T) {
	m := chance(1)
	for _, l := range every() {
		came := map[int]int{}
		for n := range 3000 {
			label := n%2 == 0
			got := holds(t, l, m.rule(m.Intn(20), label), m.labels(l), label)
			if label {
				came[got]++
			} else {
				came[-1-got]++
			}
		}
		if len(came) != len(l.Up)+2 {
			t.Error(l.Up, came)
		}
	}
}

// TestAnyNumbers holds what is refused to be what is not made right.
func TestAnyNumbers(t *testing.T) {
	m := chance(2)
	count := map[api.Errno]int{}
	for range 300000 {
		r := make([]int, m.Intn(8))
		for i := range r {
			r[i] = m.Intn(16) - 1
		}
		labels := []int{1, 2, 0, 3}
		for _, label := range []bool{false, true} {
			if rule.Right(r, label) {
				holds(t, diamond, r, labels, label)
				count[api.OK]++
				continue
			}
			refused(t, diamond, r, labels, label, api.ErrArg)
			count[api.ErrArg]++
		}
	}
	if count[api.OK] < 1000 || count[api.ErrArg] < 1000 {
		t.Error(count)
	}
}

// cond and label are what a rule comes to that must be right.
func cond(t *testing.T, l api.Lattice, r, labels []int) bool {
	t.Helper()
	so, e := judge.Cond(l, r, labels)
	if e != api.OK {
		t.Fatal(l.Up, r, labels, e)
	}
	return so
}

func label(t *testing.T, l api.Lattice, r, labels []int) int {
	t.Helper()
	a, e := judge.Label(l, r, labels)
	if e != api.OK {
		t.Fatal(l.Up, r, labels, e)
	}
	return a
}

// TestTakenTogether has two rules with a word behind them.
func TestTakenTogether(t *testing.T) {
	m := chance(3)
	for _, l := range every() {
		for range 1000 {
			four := m.labels(l)
			x, y := m.condition(m.Intn(10)), m.condition(m.Intn(10))
			a, b := cond(t, l, x, four), cond(t, l, y, four)
			if cond(t, l, slices.Concat(x, y, []int{3}), four) != (a && b) || cond(t, l, slices.Concat(x, y, []int{4}), four) != (a || b) {
				t.Fatal(l.Up, x, y, four)
			}
			x, y = m.label(m.Intn(10)), m.label(m.Intn(10))
			c, d := label(t, l, x, four), label(t, l, y, four)
			flows, _ := lattice.Flows(l, c, d)
			join, _ := lattice.Join(l, c, d)
			meet, _ := lattice.Meet(l, c, d)
			if cond(t, l, slices.Concat(x, y, []int{5}), four) != flows || label(t, l, slices.Concat(x, y, []int{12}), four) != join || label(t, l, slices.Concat(x, y, []int{13}), four) != meet {
				t.Fatal(l.Up, x, y, four)
			}
		}
	}
}

// TestNamedNot changes the labels that a rule names not.
func TestNamedNot(t *testing.T) {
	m := chance(4)
	changed := 0
	for _, l := range every() {
		for n := range 1000 {
			isLabel := n%2 == 0
			r, four := m.rule(m.Intn(6), isLabel), m.labels(l)
			want, e := asked(l, r, four, isLabel)
			uses, f := rule.Uses(r)
			if e != api.OK || f != api.OK {
				t.Fatal(r, e, f)
			}
			for i := range four {
				if uses>>i&1 == 0 {
					four[i] = m.Intn(len(l.Up))
					changed++
				}
			}
			if got, e := asked(l, r, four, isLabel); got != want || e != api.OK {
				t.Fatal(l.Up, r, four, got, want, e)
			}
		}
	}
	if changed < 1000 {
		t.Error(changed)
	}
}

// TestHigherLabels has a label come to what is not lower, of labels that are not.
func TestHigherLabels(t *testing.T) {
	m := chance(5)
	rose := 0
	for _, l := range every() {
		for range 3000 {
			r, low, by := m.label(m.Intn(10)), m.labels(l), m.labels(l)
			high := make([]int, 4)
			for i := range high {
				high[i], _ = lattice.Join(l, low[i], by[i])
			}
			a, b := label(t, l, r, low), label(t, l, r, high)
			if flows, e := lattice.Flows(l, a, b); !flows || e != api.OK {
				t.Fatal(l.Up, r, low, high, a, b)
			}
			rose += one(a != b)
		}
	}
	if rose < 1000 {
		t.Error(rose)
	}
}
