package pick_test

import (
	"math"
	"slices"
	"testing"

	"reticent/api"
	"reticent/draw"
	"reticent/pick"
)

func like(a, b api.Draws) bool {
	return slices.Equal(a.List, b.List) && a.At == b.At && slices.Equal(a.Log, b.Log)
}

// same is a row of so many of one number.
func same(n, x int) []int {
	all := make([]int, n)
	for i := range all {
		all[i] = x
	}
	return all
}

// put is a row where a number is changed.
func put(l []int, i, x int) []int {
	l = slices.Clone(l)
	l[i] = x
	return l
}

func sum(weights []int) int {
	all := 0
	for _, w := range weights {
		all += w
	}
	return all
}

// next are draws of which the next choice is told, and what they are behind it.
func next(choice int) (api.Draws, api.Draws) {
	list := []int{7, choice, 9}
	return api.Draws{List: list, At: 1, Log: []int{-4, 50}}, api.Draws{List: list, At: 2, Log: []int{-4, 50, choice}}
}

// drawn are draws with lists of such lengths.
func drawn(list, at, log int) api.Draws {
	return api.Draws{List: same(list, 3), At: at, Log: same(log, 5)}
}

// picks tells a choice that picks another place, or draws behind it that are others.
func picks(t *testing.T, weights []int, choice, want int) {
	t.Helper()
	d, then := next(choice)
	got, place, e := pick.Weighted(d, weights)
	if e != api.OK || place != want || !like(got, then) {
		t.Errorf("%v, %d: %v %d %v, want %v %d", weights, choice, got, place, e, then, want)
	}
}

func picksNone(t *testing.T, d api.Draws, weights []int, want api.Errno) {
	t.Helper()
	if got, place, e := pick.Weighted(d, weights); e != want || place != 0 || !like(got, api.Draws{}) {
		t.Errorf("%v, %v: %v %d %v, want %v", d, weights, got, place, e, want)
	}
}

// makes tells a choice that makes another number, or draws behind it that are others.
func makes(t *testing.T, most, choice, want int) {
	t.Helper()
	d, then := next(choice)
	got, n, e := pick.Signed(d, most)
	if e != api.OK || n != want || !like(got, then) {
		t.Errorf("%d, %d: %v %d %v, want %v %d", most, choice, got, n, e, then, want)
	}
}

func makesNone(t *testing.T, d api.Draws, most int, want api.Errno) {
	t.Helper()
	if got, n, e := pick.Signed(d, most); e != want || n != 0 || !like(got, api.Draws{}) {
		t.Errorf("%v, %d: %v %d %v, want %v", d, most, got, n, e, want)
	}
}

func least(t *testing.T, weights []int, i, want int, err api.Errno) {
	t.Helper()
	if got, e := pick.Least(weights, i); got != want || e != err {
		t.Errorf("%v, %d: %d %v, want %d %v", weights, i, got, e, want, err)
	}
}

func unsigned(t *testing.T, most, n, want int, err api.Errno) {
	t.Helper()
	if got, e := pick.Unsigned(most, n); got != want || e != err {
		t.Errorf("%d, %d: %d %v, want %d %v", most, n, got, e, want, err)
	}
}

// mayBe are weights that may be, mayNotBe such as may not.
func mayBe() [][]int {
	return [][]int{
		{1}, {100}, {0, 1}, {1, 0}, {100, 100}, {2, 0, 3},
		same(19, 1), same(20, 1), same(20, 100), put(same(20, 0), 19, 1), put(same(20, 0), 0, 100), put(same(20, 100), 7, 0),
	}
}

func mayNotBe() [][]int {
	return [][]int{
		nil, {}, {0}, {0, 0, 0}, same(20, 0), same(21, 0),
		same(21, 1), same(21, 100), same(1000, 1), put(same(21, 0), 20, 1),
		{-1}, {101}, {-1, 5}, {5, -1}, {5, 101}, {101, 5}, {5, -5}, {0, -1}, put(same(20, 1), 19, -1), put(same(20, 1), 19, 101), put(same(20, 0), 0, 101),
		{math.MinInt}, {math.MaxInt}, {math.MaxInt, 1, 1}, {math.MinInt, 1}, {math.MinInt, math.MinInt}, {math.MinInt, math.MaxInt, 2}, {math.MaxInt, math.MaxInt, 3},
	}
}

// badDraws are draws that may not be.
func badDraws() []api.Draws {
	return []api.Draws{
		{At: -1}, {At: math.MinInt}, {List: []int{1, 2}, At: -1, Log: []int{1}},
		drawn(501, 0, 0), drawn(501, 501, 0), drawn(0, 0, 2001), drawn(501, -1, 2001), drawn(0, -1, 2000),
	}
}

func TestWeighted(t *testing.T) {
	for _, x := range []struct {
		weights []int
		places  []int
	}{
		{[]int{2, 0, 3}, []int{0, 0, 2, 2, 2}},
		{[]int{1}, []int{0}},
		{[]int{4}, []int{0, 0, 0, 0}},
		{[]int{0, 1}, []int{1}},
		{[]int{1, 0}, []int{0}},
		{[]int{0, 0, 2, 0, 0, 1, 0}, []int{2, 2, 5}},
		{[]int{1, 1, 1}, []int{0, 1, 2}},
		{[]int{3, 2, 1}, []int{0, 0, 0, 1, 1, 2}},
		{[]int{1, 2, 3}, []int{0, 1, 1, 2, 2, 2}},
		{put(same(20, 0), 19, 2), []int{19, 19}},
	} {
		for choice, want := range x.places {
			picks(t, x.weights, choice, want)
		}
	}
}

// TestWeightedBound has the choice be below the sum of the weights: numbers of the List that are not come to such as are.
func TestWeightedBound(t *testing.T) {
	for _, x := range []struct {
		weights          []int
		n, choice, place int
	}{
		{[]int{2, 0, 3}, 5, 0, 0}, {[]int{2, 0, 3}, 7, 2, 2}, {[]int{2, 0, 3}, -1, 4, 2}, {[]int{2, 0, 3}, -4, 1, 0},
		{[]int{1}, 99, 0, 0}, {[]int{0, 1}, -99, 0, 1},
		{same(20, 100), 1999, 1999, 19}, {same(20, 100), 2000, 0, 0}, {same(20, 100), 2001, 1, 0}, {same(20, 100), -1, 1999, 19}, {same(20, 100), 100, 100, 1},
	} {
		want := api.Draws{List: []int{x.n}, At: 1, Log: []int{x.choice}}
		if then, place, e := pick.Weighted(draw.New([]int{x.n}), x.weights); e != api.OK || place != x.place || !like(then, want) {
			t.Errorf("%v, %d: %v %d %v, want %v %d", x.weights, x.n, then, place, e, want, x.place)
		}
	}
}

// TestAllPlaces has every choice below the sum, of weights that are at the limits, too: each place is picked as often as it weighs, and in their order.
func TestAllPlaces(t *testing.T) {
	for _, weights := range mayBe() {
		choice := 0
		for place, w := range weights {
			for range w {
				picks(t, weights, choice, place)
				choice++
			}
		}
	}
}

// TestEnd has a List that is at its end: 0 is chosen, so the first one is picked that weighs something, and 0 is made.
func TestEnd(t *testing.T) {
	for _, x := range []struct {
		weights []int
		want    int
	}{{[]int{1}, 0}, {[]int{5, 6}, 0}, {[]int{0, 0, 6, 7}, 2}, {put(same(20, 0), 19, 1), 19}} {
		for _, d := range []api.Draws{{}, {List: []int{8}, At: 1}, {At: math.MaxInt, Log: []int{9}}} {
			want := api.Draws{List: d.List, At: d.At, Log: append(slices.Clone(d.Log), 0)}
			if then, place, e := pick.Weighted(d, x.weights); e != api.OK || place != x.want || !like(then, want) {
				t.Errorf("%v, %v: %v %d %v", d, x.weights, then, place, e)
			}
			if then, n, e := pick.Signed(d, 20); e != api.OK || n != 0 || !like(then, want) {
				t.Errorf("%v: %v %d %v", d, then, n, e)
			}
		}
	}
}

// TestLastRoom has the Log's last place be taken, and none behind it.
func TestLastRoom(t *testing.T) {
	want := drawn(4, 1, 1999)
	want.Log = append(want.Log, 3)
	if then, place, e := pick.Weighted(drawn(4, 0, 1999), []int{3, 4}); e != api.OK || place != 1 || !like(then, want) {
		t.Error(then, place, e)
	}
	if then, n, e := pick.Signed(drawn(4, 0, 1999), 2); e != api.OK || n != 2 || !like(then, want) {
		t.Error(then, n, e)
	}
	picksNone(t, want, []int{3, 4}, api.ErrMany)
	makesNone(t, want, 2, api.ErrMany)
}

// TestWeightedErrors has weights that may not be come ahead of all that is wrong with the draws.
func TestWeightedErrors(t *testing.T) {
	for _, weights := range mayNotBe() {
		for _, d := range append(badDraws(), api.Draws{}, drawn(3, 0, 0), drawn(500, 500, 1999), drawn(3, 0, 2000)) {
			picksNone(t, d, weights, api.ErrArg)
		}
	}
	for _, weights := range mayBe() {
		for _, d := range badDraws() {
			picksNone(t, d, weights, api.ErrArg)
		}
		picksNone(t, drawn(0, 0, 2000), weights, api.ErrMany)
		picksNone(t, drawn(500, 3, 2000), weights, api.ErrMany)
	}
}

// outside are places that no weights have.
func outside(weights []int) []int {
	n := len(weights)
	return []int{-1, -2, math.MinInt, n, n + 1, 20, 21, 1000, math.MaxInt}
}

func TestLeast(t *testing.T) {
	for _, x := range []struct {
		weights    []int
		place, min int
	}{
		{[]int{2, 0, 3}, 0, 0}, {[]int{2, 0, 3}, 2, 2},
		{[]int{1}, 0, 0}, {[]int{100}, 0, 0}, {[]int{0, 1}, 1, 0}, {[]int{1, 0}, 0, 0},
		{[]int{3, 2, 1}, 1, 3}, {[]int{3, 2, 1}, 2, 5},
		{same(20, 100), 0, 0}, {same(20, 100), 1, 100}, {same(20, 100), 19, 1900}, {put(same(20, 0), 19, 1), 19, 0}, {put(same(20, 100), 7, 0), 8, 700},
	} {
		least(t, x.weights, x.place, x.min, api.OK)
	}
}

// TestLeastErrors has a weight of 0 ahead of, between and behind others, and weights that may not be at places that are none, too.
func TestLeastErrors(t *testing.T) {
	for _, weights := range mayBe() {
		for i, w := range weights {
			if w == 0 {
				least(t, weights, i, 0, api.ErrNone)
			}
		}
		for _, i := range outside(weights) {
			least(t, weights, i, 0, api.ErrNone)
		}
	}
	for _, i := range []int{0, 2} {
		least(t, []int{0, 4, 0}, i, 0, api.ErrNone)
	}
	least(t, []int{2, 0, 3}, 1, 0, api.ErrNone)
	for _, weights := range mayNotBe() {
		for i := range weights {
			least(t, weights, i, 0, api.ErrArg)
		}
		for _, i := range outside(weights) {
			least(t, weights, i, 0, api.ErrArg)
		}
	}
}

// TestLeastPicks has the least choice of each place pick it, and one less pick another.
func TestLeastPicks(t *testing.T) {
	for _, weights := range mayBe() {
		for place, w := range weights {
			if w == 0 {
				continue
			}
			choice, e := pick.Least(weights, place)
			if e != api.OK {
				t.Errorf("%v, %d: %v", weights, place, e)
			}
			picks(t, weights, choice, place)
			if choice == 0 {
				continue
			}
			d, _ := next(choice - 1)
			if _, other, e := pick.Weighted(d, weights); e != api.OK || other >= place || weights[other] == 0 {
				t.Errorf("%v, %d: %d picks %d %v", weights, place, choice-1, other, e)
			}
		}
	}
}

// numbers are what the choices make, each at its choice, as the document begins to tell them.
var numbers = []int{0, 1, -1, 2, -2, 3, -3, 4, -4, 5, -5, 6, -6, 7, -7, 8, -8, 9, -9, 10, -10, 11, -11, 12, -12, 13, -13, 14, -14, 15, -15, 16, -16, 17, -17, 18, -18, 19, -19, 20, -20}

// TestNumbers has all that is from 0 to 20 at most: every choice, and every number.
func TestNumbers(t *testing.T) {
	for most := range 21 {
		for choice := range 2*most + 1 {
			makes(t, most, choice, numbers[choice])
			unsigned(t, most, numbers[choice], choice, api.OK)
		}
	}
}

// TestSignedBound has the choice be below 2 times most and 1.
func TestSignedBound(t *testing.T) {
	for _, x := range []struct{ most, n, choice, want int }{
		{0, 1, 0, 0}, {0, -1, 0, 0}, {0, 99, 0, 0},
		{1, 3, 0, 0}, {1, 4, 1, 1}, {1, -1, 2, -1},
		{20, 41, 0, 0}, {20, 40, 40, -20}, {20, 42, 1, 1}, {20, -1, 40, -20}, {20, -2, 39, 20},
	} {
		want := api.Draws{List: []int{x.n}, At: 1, Log: []int{x.choice}}
		if then, n, e := pick.Signed(draw.New([]int{x.n}), x.most); e != api.OK || n != x.want || !like(then, want) {
			t.Errorf("%d, %d: %v %d %v, want %v %d", x.most, x.n, then, n, e, want, x.want)
		}
	}
}

// badMost are such as no number may be at most.
var badMost = []int{-1, -2, -20, 21, 22, 100, math.MinInt, math.MinInt / 2, math.MaxInt, math.MaxInt / 2}

func TestSignedErrors(t *testing.T) {
	for _, most := range badMost {
		for _, d := range append(badDraws(), api.Draws{}, drawn(3, 0, 0), drawn(500, 500, 1999), drawn(3, 0, 2000)) {
			makesNone(t, d, most, api.ErrArg)
		}
	}
	for most := range 21 {
		for _, d := range badDraws() {
			makesNone(t, d, most, api.ErrArg)
		}
		makesNone(t, drawn(0, 0, 2000), most, api.ErrMany)
		makesNone(t, drawn(500, 3, 2000), most, api.ErrMany)
	}
}

func TestUnsignedErrors(t *testing.T) {
	for _, most := range badMost {
		for _, n := range []int{0, 1, -1, 20, -20, 21, -21, most, -most, most + 1, math.MinInt, math.MaxInt} {
			unsigned(t, most, n, 0, api.ErrArg)
		}
	}
	for most := range 21 {
		for _, n := range []int{most + 1, -most - 1, most + 2, -most - 2, 2*most + 1, 21, -21, 100, math.MinInt, math.MinInt + 1, math.MaxInt} {
			unsigned(t, most, n, 0, api.ErrNone)
		}
	}
}

// roomy is a list of the same, with room behind it that is the caller's as well.
func roomy(l []int) []int { return append(slices.Clone(l), 70, 71, 72)[:len(l)] }

// spoil changes a list, and what room is behind it.
func spoil(l []int) {
	l = l[:cap(l)]
	for i := range l {
		l[i] = -99
	}
}

// TestNothingShared has each list of an answer be changed, and neither the arguments nor the answer's other list change.
func TestNothingShared(t *testing.T) {
	list, log, weights := roomy([]int{5, 6, 7}), roomy([]int{8, 9}), roomy([]int{4, 0, 5})
	whole := func() []int { return slices.Concat(list[:6], log[:5], weights[:6]) }
	was := whole()
	d := api.Draws{List: list, At: 1, Log: log}
	for _, call := range []func() api.Draws{
		func() api.Draws { then, _, _ := pick.Weighted(d, weights); return then },
		func() api.Draws {
			then, _, _ := pick.Weighted(api.Draws{List: weights, Log: weights}, weights)
			return then
		},
		func() api.Draws { then, _, _ := pick.Signed(d, 20); return then },
	} {
		first, want := call(), call()
		spoil(first.List)
		if !slices.Equal(first.Log, want.Log) {
			t.Error(first, want)
		}
		spoil(first.Log)
		second := call()
		spoil(second.Log)
		if !slices.Equal(second.List, want.List) || !slices.Equal(whole(), was) {
			t.Errorf("%v, want %v; %v, it was %v", second, want, whole(), was)
		}
	}
	pick.Least(weights, 2)
	if !slices.Equal(whole(), was) {
		t.Error(whole(), was)
	}
}
