package rule_test

import (
	"math"
	"slices"
	"testing"

	"reticent/api"
	"reticent/rule"
)

// is tells a rule that is made right otherwise than is told.
func is(t *testing.T, l []int, cond, label bool) {
	t.Helper()
	if rule.Right(l, false) != cond || rule.Right(l, true) != label {
		t.Errorf("%v: a condition %v, a label %v, want %v, %v", l, rule.Right(l, false), rule.Right(l, true), cond, label)
	}
	bits, e := rule.Uses(l)
	if want := (map[bool]api.Errno{true: api.OK, false: api.ErrArg})[cond || label]; e != want || e != api.OK && bits != 0 {
		t.Errorf("%v: %v %v, want %v", l, bits, e, want)
	}
}

// rights are the rules of n numbers that are made right, conditions and labels, put together as the document's words say.
func rights(n int) (conds, labels [][]int) {
	if n == 1 {
		for i := 6; i <= 11; i++ {
			labels = append(labels, []int{i})
		}
		return [][]int{{1}, {2}}, labels
	}
	for left := 1; left <= n-2; left++ {
		c, l := rights(left)
		d, m := rights(n - 1 - left)
		conds = slices.Concat(conds, of(c, d, 3), of(c, d, 4), of(l, m, 5))
		labels = slices.Concat(labels, of(l, m, 12), of(l, m, 13))
	}
	return conds, labels
}

func of(left, right [][]int, n int) [][]int {
	var all [][]int
	for _, x := range left {
		for _, y := range right {
			all = append(all, slices.Concat(x, y, []int{n}))
		}
	}
	return all
}

// keys are rules as one number each.
func keys(l [][]int) map[int]bool {
	m := map[int]bool{}
	for _, x := range l {
		m[key(x)] = true
	}
	return m
}

func key(l []int) int {
	k := 0
	for _, n := range l {
		k = k*100 + n + 1
	}
	return k
}

func TestAllSmallRules(t *testing.T) {
	for n := 1; n <= 5; n++ {
		conds, labels := rights(n)
		cond, label := keys(conds), keys(labels)
		l := slices.Repeat([]int{0}, n)
		for next := true; next; {
			is(t, l, cond[key(l)], label[key(l)])
			next = false
			for i := range l {
				if l[i]++; l[i] <= 14 {
					next = true
					break
				}
				l[i] = 0
			}
		}
		if t.Failed() {
			t.FailNow()
		}
		if n%2 == 1 && (len(conds) == 0 || len(labels) == 0) || n%2 == 0 && len(conds)+len(labels) > 0 {
			t.Error(n, len(conds), len(labels))
		}
	}
}

func TestRulesOfSeven(t *testing.T) {
	conds, labels := rights(7)
	for _, l := range conds {
		is(t, l, true, false)
	}
	for _, l := range labels {
		is(t, l, false, true)
	}
	for _, l := range [][]int{conds[0], conds[len(conds)-1], labels[0], labels[len(labels)-1]} {
		for i := range l {
			is(t, slices.Delete(slices.Clone(l), i, i+1), false, false)
			for _, n := range []int{-1, 0, 14} {
				other := slices.Clone(l)
				other[i] = n
				is(t, other, false, false)
			}
		}
	}
}

// chain is n labels, and what takes each two of them: 2n - 1 numbers.
func chain(n int, word string) []int { return row("one" + times(n-1, " one "+word)) }

func TestSizes(t *testing.T) {
	is(t, nil, false, false)
	is(t, []int{}, false, false)
	is(t, []int{1}, true, false)
	is(t, []int{6}, false, true)
	for n := 1; n <= 25; n++ {
		ok := 2*n-1 <= 40
		is(t, chain(n, "join"), false, ok)
		is(t, chain(n, "meet"), false, ok)
		is(t, append(slices.Repeat([]int{9}, n), slices.Repeat([]int{12}, n-1)...), false, ok)
		is(t, append(slices.Repeat([]int{1}, n), slices.Repeat([]int{3}, n-1)...), ok, false)
		is(t, append(slices.Repeat([]int{2}, n), slices.Repeat([]int{4}, n-1)...), ok, false)
		is(t, append(chain(n, "join"), 9), false, false)
		is(t, append(chain(n, "join"), 12), false, false)
		if n > 1 {
			is(t, append(chain(n-1, "join"), 9, 5), ok, false)
		}
	}
	forty := append(chain(20, "join"), 9)
	is(t, forty, false, false)
	is(t, append(forty, 12), false, false)
	is(t, append(forty, 5), false, false)
	is(t, chain(1000, "join"), false, false)
	is(t, slices.Repeat([]int{1}, 40), false, false)
	is(t, slices.Repeat([]int{1}, 41), false, false)
	is(t, slices.Repeat([]int{0}, 100000), false, false)
}

func TestNumbersOfNone(t *testing.T) {
	for _, n := range []int{0, -1, 14, 15, -13, 100, 256 + 1, 1 << 16, 1<<32 + 1, 1<<32 + 9, math.MaxInt, math.MinInt, math.MinInt + 9} {
		is(t, []int{n}, false, false)
		is(t, []int{n, 9, 9, 12}, false, false)
		is(t, []int{9, n, 12}, false, false)
		is(t, []int{9, 9, n}, false, false)
		is(t, []int{9, 9, 12, n}, false, false)
		is(t, []int{9, n}, false, false)
		is(t, []int{n, 9}, false, false)
		is(t, []int{1, n}, false, false)
		is(t, []int{1, 1, n}, false, false)
	}
}

func TestPile(t *testing.T) {
	for n := 1; n <= 13; n++ {
		word := n >= 3 && n <= 5 || n >= 12
		if !word {
			is(t, []int{n}, n <= 2, n > 2)
			is(t, []int{n, n}, false, false)
			is(t, []int{n, n, n}, false, false)
			continue
		}
		conds := n == 3 || n == 4
		is(t, []int{n}, false, false)
		is(t, []int{1, n}, false, false)
		is(t, []int{9, n}, false, false)
		is(t, []int{1, 2, n}, conds, false)
		is(t, []int{9, 10, n}, n == 5, n >= 12)
		is(t, []int{1, 9, n}, false, false)
		is(t, []int{9, 1, n}, false, false)
		is(t, []int{1, 2, n, n}, false, false)
		is(t, []int{9, 10, n, n}, false, false)
		is(t, []int{n, 1, 2}, false, false)
		is(t, []int{1, n, 2}, false, false)
		is(t, []int{1, 1, 2, n}, false, false)
		is(t, []int{9, 9, 10, n}, false, false)
		is(t, []int{9, 1, 2, n}, false, false)
	}
	is(t, row("one two <= one two <= and"), true, false)
	is(t, row("one two <= one two <= or"), true, false)
	is(t, row("one two <= one two <= <="), false, false)
	is(t, row("one two <= one two <= join"), false, false)
	is(t, row("one two join three <="), true, false)
	is(t, row("one two <= three <="), false, false)
	is(t, row("one two <= true"), false, false)
	is(t, row("true one"), false, false)
}

func TestUses(t *testing.T) {
	for _, x := range []struct {
		s    string
		bits uint32
	}{
		{"pc", 1}, {"one", 2}, {"two", 4}, {"three", 8}, {"bot", 0}, {"top", 0}, {"true", 0}, {"false", 0}, {"true false and", 0}, {"bot top join", 0}, {"bot top <=", 0},
		{"pc pc join", 1}, {"one two join", 6}, {"one pc <=", 3}, {"pc three meet", 9}, {"one two join pc <= true or", 7}, {"three bot <= two top <= and", 12},
		{"pc one join two join three join", 15}, {"three two meet one meet pc <=", 15},
	} {
		if bits, e := rule.Uses(row(x.s)); bits != x.bits || e != api.OK {
			t.Errorf("%s: %d %v, want %d", x.s, bits, e, x.bits)
		}
	}
	for bits := range uint32(16) {
		for _, word := range []string{"join", "meet"} {
			l := row("bot top " + word)
			for i, x := range []string{"pc", "one", "two", "three"} {
				if bits>>i&1 == 1 {
					l = append(l, row(x+" "+word)...)
				}
			}
			if got, e := rule.Uses(l); got != bits || e != api.OK {
				t.Errorf("%v: %d %v, want %d", l, got, e, bits)
			}
			l = append(l, row("top <= true and")...)
			if got, e := rule.Uses(l); got != bits || e != api.OK {
				t.Errorf("%v: %d %v, want %d", l, got, e, bits)
			}
		}
	}
	long := chain(19, "join")
	if got, e := rule.Uses(append(long, row("three join")...)); got != 10 || e != api.OK {
		t.Error(got, e)
	}
	for _, l := range [][]int{nil, {}, {0}, {8, 9}, {8, 12}, {12}, {8, 9, 3}, {1, 2, 12}, {1, 8, 5}, append(long, row("three join three join")...), {8, 14}, {8, -1}} {
		if got, e := rule.Uses(l); got != 0 || e != api.ErrArg {
			t.Errorf("%v: %d %v", l, got, e)
		}
	}
}

func TestRulesAreKept(t *testing.T) {
	for _, s := range []string{"one two join pc <=", "one two three join meet", "true false and", "one join", "true one"} {
		l := row(s)
		for range 2 {
			rule.Right(l, false)
			rule.Right(l, true)
			rule.Uses(l)
		}
		if !slices.Equal(l, row(s)) {
			t.Error(s, l)
		}
	}
}
