package draw_test

import (
	"math"
	"slices"
	"testing"

	"reticent/api"
	"reticent/draw"
)

func like(a, b api.Draws) bool {
	return slices.Equal(a.List, b.List) && a.At == b.At && slices.Equal(a.Log, b.Log)
}

// counted is a row of so many numbers, 1 and up.
func counted(n int) []int {
	var all []int
	for i := range n {
		all = append(all, i+1)
	}
	return all
}

// drawn are draws with lists of such lengths.
func drawn(list, at, log int) api.Draws {
	return api.Draws{List: counted(list), At: at, Log: counted(log)}
}

// takes tells a choice that is another one, or draws behind it that are others; Many must tell the same of one bound.
func takes(t *testing.T, d api.Draws, bound int, want int, then api.Draws) {
	t.Helper()
	got, choice, e := draw.Take(d, bound)
	if e != api.OK || choice != want || !like(got, then) {
		t.Errorf("%v, %d: %v %d %v, want %v %d", d, bound, got, choice, e, then, want)
	}
	got, choices, e := draw.Many(d, []int{bound})
	if e != api.OK || !slices.Equal(choices, []int{want}) || !like(got, then) {
		t.Errorf("%v, %d: %v %v %v, want %v %d", d, bound, got, choices, e, then, want)
	}
}

// refused tells a choice that has not its error, or something beside it.
func refused(t *testing.T, d api.Draws, bound int, want api.Errno) {
	t.Helper()
	if got, choice, e := draw.Take(d, bound); e != want || choice != 0 || !like(got, api.Draws{}) {
		t.Errorf("%v, %d: %v %d %v, want %v", d, bound, got, choice, e, want)
	}
	refusedMany(t, d, []int{bound}, want)
}

func refusedMany(t *testing.T, d api.Draws, bounds []int, want api.Errno) {
	t.Helper()
	if got, choices, e := draw.Many(d, bounds); e != want || len(choices) != 0 || !like(got, api.Draws{}) {
		t.Errorf("%v, %v: %v %v %v, want %v", d, bounds, got, choices, e, want)
	}
}

// mayBe are draws that may be, mayNotBe such as may not.
func mayBe() []api.Draws {
	return []api.Draws{
		{}, {List: []int{}, Log: []int{}}, {At: 1}, {At: math.MaxInt}, {List: []int{math.MinInt, math.MaxInt}, At: 2, Log: []int{math.MinInt}},
		drawn(499, 0, 0), drawn(500, 0, 0), drawn(500, 500, 0), drawn(500, 501, 0), drawn(0, 0, 1999), drawn(0, 0, 2000), drawn(500, math.MaxInt, 2000),
	}
}

func mayNotBe() []api.Draws {
	return []api.Draws{
		{At: -1}, {At: math.MinInt}, {List: []int{1, 2}, At: -1, Log: []int{1}},
		drawn(501, 0, 0), drawn(501, 501, 0), drawn(5000, 0, 0), drawn(0, 0, 2001), drawn(0, 0, 5000), drawn(501, -1, 2001), drawn(500, -1, 2000),
	}
}

func TestRight(t *testing.T) {
	for _, d := range mayBe() {
		if !draw.Right(d) {
			t.Errorf("%d, %d, %d: false", len(d.List), d.At, len(d.Log))
		}
	}
	for _, d := range mayNotBe() {
		if draw.Right(d) {
			t.Errorf("%d, %d, %d: true", len(d.List), d.At, len(d.Log))
		}
	}
}

// TestNew has rows that are too long, too: what is made of those may not be.
func TestNew(t *testing.T) {
	for _, list := range [][]int{nil, {}, {0}, {-1, 5, math.MinInt}, counted(500), counted(501), counted(5000)} {
		d := draw.New(list)
		if !like(d, api.Draws{List: list}) {
			t.Errorf("%v: %v", list, d)
		}
		if draw.Right(d) != (len(list) <= 500) {
			t.Errorf("%d: %v", len(list), draw.Right(d))
		}
	}
}

func TestCmp(t *testing.T) {
	for _, x := range []struct {
		a, b []int
		want int
	}{
		{nil, nil, 0},
		{nil, []int{}, 0},
		{nil, []int{math.MinInt}, -1},
		{[]int{9}, []int{0, 0}, -1},
		{[]int{9, 9}, []int{math.MinInt, 0, 0}, -1},
		{[]int{1, 2, 3}, []int{1, 2, 3}, 0},
		{[]int{1, 2, 3}, []int{1, 2, 4}, -1},
		{[]int{1, 2, 9}, []int{1, 3, 0}, -1},
		{[]int{-1}, []int{0}, -1},
		{[]int{-2}, []int{-1}, -1},
		{[]int{math.MinInt}, []int{math.MaxInt}, -1},
		{[]int{math.MinInt}, []int{1}, -1},
		{[]int{-2}, []int{math.MaxInt}, -1},
		{counted(600), counted(600), 0},
		{counted(600), counted(601), -1},
	} {
		if got := draw.Cmp(x.a, x.b); got != x.want {
			t.Errorf("%v and %v: %d, want %d", x.a, x.b, got, x.want)
		}
		if got := draw.Cmp(x.b, x.a); got != -x.want {
			t.Errorf("%v and %v: %d, want %d", x.b, x.a, got, -x.want)
		}
	}
}

// TestTake has a row's numbers below 0, and such as no sum may be made of.
func TestTake(t *testing.T) {
	for _, x := range []struct{ n, bound, want int }{
		{-1, 3, 2}, {0, 3, 0}, {1, 3, 1}, {2, 3, 2}, {3, 3, 0}, {7, 3, 1},
		{-2, 3, 1}, {-3, 3, 0}, {-4, 3, 2}, {-3, 1, 0}, {5, 1, 0}, {math.MinInt, 1, 0}, {math.MaxInt, 1, 0},
		{math.MinInt, 2, 0}, {math.MinInt, 10, 2}, {math.MaxInt, 10, 7}, {math.MaxInt, 2, 1},
		{math.MaxInt, math.MaxInt, 0}, {math.MaxInt - 1, math.MaxInt, math.MaxInt - 1}, {-1, math.MaxInt, math.MaxInt - 1}, {math.MinInt, math.MaxInt, math.MaxInt - 1}, {math.MinInt + 1, math.MaxInt, 0},
	} {
		takes(t, api.Draws{List: []int{x.n}}, x.bound, x.want, api.Draws{List: []int{x.n}, At: 1, Log: []int{x.want}})
		takes(t, api.Draws{List: []int{8, x.n, 8}, At: 1, Log: []int{-4, 50}}, x.bound, x.want, api.Draws{List: []int{8, x.n, 8}, At: 2, Log: []int{-4, 50, x.want}})
	}
}

// TestEnd has At be where no number of the List is: it stays there, and 0 is chosen.
func TestEnd(t *testing.T) {
	for _, bound := range []int{1, 2, 20, math.MaxInt} {
		takes(t, api.Draws{}, bound, 0, api.Draws{Log: []int{0}})
		for _, at := range []int{2, 3, 500, 501, math.MaxInt} {
			takes(t, api.Draws{List: []int{5, 7}, At: at}, bound, 0, api.Draws{List: []int{5, 7}, At: at, Log: []int{0}})
		}
	}
	takes(t, api.Draws{List: []int{5, 7}, At: 1}, 10, 7, api.Draws{List: []int{5, 7}, At: 2, Log: []int{7}})
	takes(t, drawn(500, 499, 0), 1000, 500, api.Draws{List: counted(500), At: 500, Log: []int{500}})
}

// TestLastRoom has the Log's last place be taken, and none behind it.
func TestLastRoom(t *testing.T) {
	want := drawn(3, 1, 1999)
	want.Log = append(want.Log, 1)
	takes(t, drawn(3, 0, 1999), 5, 1, want)
	refused(t, want, 5, api.ErrMany)
}

// bad are bounds that none may have.
var bad = []int{0, -1, -2, math.MinInt}

func TestErrors(t *testing.T) {
	for _, d := range mayNotBe() {
		for _, bound := range append([]int{1, 7, math.MaxInt}, bad...) {
			refused(t, d, bound, api.ErrArg)
		}
		for _, bounds := range [][]int{nil, {}, {3, 3}, {0, 3}, counted(3000)} {
			refusedMany(t, d, bounds, api.ErrArg)
		}
	}
	for _, d := range mayBe() {
		for _, bound := range bad {
			refused(t, d, bound, api.ErrArg)
		}
	}
	for _, bound := range []int{1, 2, math.MaxInt} {
		refused(t, drawn(0, 0, 2000), bound, api.ErrMany)
		refused(t, drawn(500, 0, 2000), bound, api.ErrMany)
		refused(t, drawn(500, 500, 2000), bound, api.ErrMany)
	}
}

// TestFirstBound has the error be that of the first bound that has one, not of the greatest or of the last.
func TestFirstBound(t *testing.T) {
	for _, x := range []struct {
		log    int
		bounds []int
		want   api.Errno
	}{
		{0, []int{1, 2, 0}, api.ErrArg},
		{0, []int{0, 1, 2}, api.ErrArg},
		{1999, []int{1, 0}, api.ErrArg},
		{1999, []int{1, 1}, api.ErrMany},
		{1999, []int{1, 1, 0}, api.ErrMany},
		{1999, []int{0, 1, 1}, api.ErrArg},
		{2000, []int{1, 0}, api.ErrMany},
		{2000, []int{0, 1}, api.ErrArg},
		{1998, []int{1, 1, -1}, api.ErrArg},
		{1998, []int{1, 1, 1}, api.ErrMany},
		{0, counted(2001), api.ErrMany},
		{0, append(counted(2000), 0), api.ErrArg},
		{0, append(counted(2001), 0), api.ErrMany},
		{0, make([]int, 5000), api.ErrArg},
		{0, counted(1 << 20), api.ErrMany},
	} {
		refusedMany(t, drawn(3, 0, x.log), x.bounds, x.want)
	}
}

func TestMany(t *testing.T) {
	for _, x := range []struct {
		d       api.Draws
		bounds  []int
		choices []int
		then    api.Draws
	}{
		{api.Draws{}, []int{3, 1}, []int{0, 0}, api.Draws{Log: []int{0, 0}}},
		{draw.New([]int{-1, 5, 9}), []int{3, 4}, []int{2, 1}, api.Draws{List: []int{-1, 5, 9}, At: 2, Log: []int{2, 1}}},
		{draw.New([]int{-1, 5}), []int{3, 4, 7, 9}, []int{2, 1, 0, 0}, api.Draws{List: []int{-1, 5}, At: 2, Log: []int{2, 1, 0, 0}}},
		{api.Draws{List: []int{8, 8, 8}, At: 1, Log: []int{7}}, []int{9, 3}, []int{8, 2}, api.Draws{List: []int{8, 8, 8}, At: 3, Log: []int{7, 8, 2}}},
		{api.Draws{List: []int{8}, At: 6, Log: []int{7}}, []int{9}, []int{0}, api.Draws{List: []int{8}, At: 6, Log: []int{7, 0}}},
	} {
		got, choices, e := draw.Many(x.d, x.bounds)
		if e != api.OK || !slices.Equal(choices, x.choices) || !like(got, x.then) {
			t.Errorf("%v, %v: %v %v %v, want %v %v", x.d, x.bounds, got, choices, e, x.then, x.choices)
		}
	}
}

// TestNoBounds has draws that may be stay as they are, also where the Log is full.
func TestNoBounds(t *testing.T) {
	for _, d := range mayBe() {
		for _, bounds := range [][]int{nil, {}} {
			if got, choices, e := draw.Many(d, bounds); e != api.OK || len(choices) != 0 || !like(got, d) {
				t.Errorf("%v: %v %v %v", d, got, choices, e)
			}
		}
	}
}

// TestWholeLog has as many choices as there is room for, and has them made again out of the Log, as far as a List may go.
func TestWholeLog(t *testing.T) {
	bounds := make([]int, 2000)
	for i := range bounds {
		bounds[i] = 1 + i*i%97
	}
	list := make([]int, 500)
	for i := range list {
		list[i] = (i - 250) * 1000003
	}
	d, choices, e := draw.Many(draw.New(list), bounds)
	if e != api.OK || d.At != 500 || len(choices) != 2000 || !slices.Equal(d.Log, choices) {
		t.Fatal(d, choices, e)
	}
	for i, x := range choices {
		if x < 0 || x >= bounds[i] || i >= 500 && x != 0 {
			t.Errorf("%d at %d, below %d", x, i, bounds[i])
		}
	}
	again, same, e := draw.Many(draw.New(d.Log[:500]), bounds)
	if e != api.OK || !slices.Equal(same, choices) || !slices.Equal(again.Log, d.Log) {
		t.Error(same, e)
	}
	if _, _, e := draw.Take(draw.New(d.Log), 1); e != api.ErrArg {
		t.Error(e)
	}
}

// roomy is a list of the same, with room behind it that is the caller's as well.
func roomy(l []int) []int { return append(slices.Clone(l), 70, 71, 72)[:len(l)] }

// spoil changes a list, and what room is behind it.
func spoil(l []int) {
	l = l[:cap(l)]
	for i := range l {
		l[i] = -99
	}
}

// TestNothingShared has each list of an answer be changed, and neither the arguments nor the answer's other lists change.
func TestNothingShared(t *testing.T) {
	list, log, bounds := roomy([]int{5, 6, 7}), roomy([]int{8, 9}), roomy([]int{10, 10})
	whole := func() []int { return slices.Concat(list[:6], log[:5], bounds[:5]) }
	was := whole()
	d := api.Draws{List: list, At: 1, Log: log}
	calls := []func() [][]int{
		func() [][]int { return [][]int{draw.New(list).List} },
		func() [][]int {
			then, _, _ := draw.Take(d, 10)
			return [][]int{then.List, then.Log}
		},
		func() [][]int {
			then, choices, _ := draw.Many(d, bounds)
			return [][]int{then.List, then.Log, choices}
		},
		func() [][]int {
			then, choices, _ := draw.Many(d, nil)
			return [][]int{then.List, then.Log, choices}
		},
		func() [][]int {
			then, choices, _ := draw.Many(api.Draws{List: list, Log: list}, bounds)
			return [][]int{then.List, then.Log, choices}
		},
	}
	for c, call := range calls {
		for i := range call() {
			answer, want := call(), call()
			spoil(answer[i])
			for j := range answer {
				if j != i && !slices.Equal(answer[j], want[j]) {
					t.Errorf("call %d: list %d shares with list %d", c, i, j)
				}
			}
			if !slices.Equal(whole(), was) {
				t.Fatalf("call %d: list %d shares with an argument: %v, it was %v", c, i, whole(), was)
			}
		}
	}
	if draw.Cmp(list, log); !slices.Equal(whole(), was) {
		t.Error(whole(), was)
	}
}
