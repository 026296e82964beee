package draw_test

import (
	"math/big"
	"math/rand"
	"slices"
	"testing"

	"reticent/api"
	"reticent/draw"
)

// slowLeft is what is left of a number, divided by a bound, in numbers without an end.
func slowLeft(n, bound int) int {
	return int(new(big.Int).Mod(big.NewInt(int64(n)), big.NewInt(int64(bound))).Int64())
}

// slowTake is what the document's words say of one choice.
func slowTake(d api.Draws, bound int) (api.Draws, int, api.Errno) {
	if len(d.List) > 500 || len(d.Log) > 2000 || d.At < 0 {
		return api.Draws{}, 0, api.ErrArg
	}
	if bound < 1 {
		return api.Draws{}, 0, api.ErrArg
	}
	if len(d.Log) == 2000 {
		return api.Draws{}, 0, api.ErrMany
	}
	then, choice := api.Draws{List: d.List, At: d.At}, 0
	if d.At < len(d.List) {
		then.At, choice = d.At+1, slowLeft(d.List[d.At], bound)
	}
	then.Log = append(slices.Clone(d.Log), choice)
	return then, choice, api.OK
}

// slowMany takes one choice, and then the others of what is there then.
func slowMany(d api.Draws, bounds []int) (api.Draws, []int, api.Errno) {
	if len(d.List) > 500 || len(d.Log) > 2000 || d.At < 0 {
		return api.Draws{}, nil, api.ErrArg
	}
	if len(bounds) == 0 {
		return d, nil, api.OK
	}
	then, choice, e := slowTake(d, bounds[0])
	if e != api.OK {
		return api.Draws{}, nil, e
	}
	last, rest, e := slowMany(then, bounds[1:])
	if e != api.OK {
		return api.Draws{}, nil, e
	}
	return last, append([]int{choice}, rest...), api.OK
}

// slowCmp is what the document's words say of two rows.
func slowCmp(a, b []int) int {
	if len(a) != len(b) {
		if len(a) < len(b) {
			return -1
		}
		return 1
	}
	for i := range a {
		if a[i] < b[i] {
			return -1
		}
		if a[i] > b[i] {
			return 1
		}
	}
	return 0
}

// rows are all rows of up to so many of some numbers.
func rows(some []int, most int) [][]int {
	all := [][]int{nil}
	for from := 0; most > 0; most-- {
		upto := len(all)
		for _, row := range all[from:upto] {
			for _, x := range some {
				all = append(all, append(slices.Clone(row), x))
			}
		}
		from = upto
	}
	return all
}

// agree holds Many, and Take at each bound as far as it goes, against the document's words.
func agree(t *testing.T, d api.Draws, bounds []int) api.Errno {
	t.Helper()
	then, choices, e := draw.Many(d, bounds)
	want, picked, err := slowMany(d, bounds)
	if e != err || !like(then, want) || !slices.Equal(choices, picked) {
		t.Errorf("%v, %v: %v %v %v, want %v %v %v", d, bounds, then, choices, e, want, picked, err)
	}
	for _, bound := range bounds {
		next, choice, e := draw.Take(d, bound)
		want, picked, err := slowTake(d, bound)
		if e != err || !like(next, want) || choice != picked {
			t.Errorf("%v, %v: %v %v %v, want %v %v %v", d, bound, next, choice, e, want, picked, err)
		}
		if e != api.OK {
			break
		}
		d = next
	}
	return e
}

// TestSmallRows has all rows of up to three of these numbers and of these bounds, from each place on.
func TestSmallRows(t *testing.T) {
	count := map[api.Errno]int{}
	for _, list := range rows([]int{-4, -1, 0, 3, 5}, 3) {
		for _, bounds := range rows([]int{-1, 0, 1, 2, 3, 7}, 3) {
			for at := range len(list) + 2 {
				count[agree(t, api.Draws{List: list, At: at, Log: []int{9, -9}}, bounds)]++
			}
		}
	}
	if count[api.OK] < 10000 || count[api.ErrArg] < 10000 {
		t.Error(count)
	}
}

// TestCmpSmallRows has all pairs of rows of up to four numbers, and what makes them an order.
func TestCmpSmallRows(t *testing.T) {
	all := rows([]int{-2, 0, 1}, 4)
	for i, a := range all {
		for j, b := range all {
			got := draw.Cmp(a, b)
			if got != slowCmp(a, b) {
				t.Errorf("%v and %v: %d", a, b, got)
			}
			if got != -draw.Cmp(b, a) || (got == 0) != (i == j) {
				t.Errorf("%v and %v: %d, the other way round %d", a, b, got, draw.Cmp(b, a))
			}
		}
	}
	some := rows([]int{-1, 4}, 3)
	for _, a := range some {
		for _, b := range some {
			for _, c := range some {
				if draw.Cmp(a, b) < 0 && draw.Cmp(b, c) < 0 && draw.Cmp(a, c) >= 0 {
					t.Errorf("%v, %v and %v", a, b, c)
				}
			}
		}
	}
}

// maker makes things by chance, that is the same each time.
type maker struct{ *rand.Rand }

// number is small mostly.
func (m maker) number() int {
	if m.Intn(4) == 0 {
		return int(m.Uint64())
	}
	return m.Intn(60) - 30
}

func (m maker) row(n int) []int {
	var all []int
	for range n {
		all = append(all, m.number())
	}
	return all
}

// bounds are such as may be, but, at times, one of them.
func (m maker) bounds(n int) []int {
	var all []int
	for range n {
		all = append(all, max(1, m.number()))
	}
	if n > 0 && m.Intn(5) == 0 {
		all[m.Intn(n)] = -m.Intn(3)
	}
	return all
}

// near is a length that is small, or at a limit, or one off.
func (m maker) near(limit int) int {
	if m.Intn(3) == 0 {
		return max(0, limit-m.Intn(4)+1)
	}
	return m.Intn(20)
}

// TestByChance has draws and bounds made by chance, and all that follows of them.
func TestByChance(t *testing.T) {
	m := maker{rand.New(rand.NewSource(1))}
	count := map[api.Errno]int{}
	for range 3000 {
		d := api.Draws{List: m.row(m.near(500)), Log: m.row(m.near(2000))}
		d.At = m.Intn(len(d.List)+4) - 1
		bounds := m.bounds(m.Intn(8))
		e := agree(t, d, bounds)
		count[e]++
		if e == api.OK {
			follows(t, d, bounds)
		}
		if a, b := m.row(m.Intn(4)), m.row(m.Intn(4)); draw.Cmp(a, b) != slowCmp(a, b) {
			t.Errorf("%v and %v: %d", a, b, draw.Cmp(a, b))
		}
	}
	for _, e := range []api.Errno{api.OK, api.ErrArg, api.ErrMany} {
		if count[e] < 100 {
			t.Error(count)
		}
	}
}

// follows holds choices against their bounds, and has them made again out of the Log.
func follows(t *testing.T, d api.Draws, bounds []int) {
	t.Helper()
	then, choices, e := draw.Many(d, bounds)
	if e != api.OK || !draw.Right(then) || len(choices) != len(bounds) {
		t.Errorf("%v, %v: %v %v %v", d, bounds, then, choices, e)
		return
	}
	for i, x := range choices {
		if x < 0 || x >= bounds[i] {
			t.Errorf("%v, %v: %d at %d", d, bounds, x, i)
		}
		if d.At+i >= len(d.List) && x != 0 {
			t.Errorf("%v, %v: %d at %d, where the List has ended", d, bounds, x, i)
		}
	}
	log := then.Log[len(d.Log):]
	again, same, e := draw.Many(draw.New(log), bounds)
	if e != api.OK || !slices.Equal(same, choices) || !slices.Equal(again.Log, log) {
		t.Errorf("%v, %v: %v, and, out of the Log, %v %v", d, bounds, choices, same, e)
	}
}
