package pick_test

import (
	"math/rand"
	"slices"
	"testing"

	"reticent/api"
	"reticent/draw"
	"reticent/pick"
)

// slowMayBe is what the document's words say of weights.
func slowMayBe(weights []int) bool {
	if len(weights) < 1 || len(weights) > 20 {
		return false
	}
	other := false
	for _, w := range weights {
		if w < 0 || w > 100 {
			return false
		}
		other = other || w != 0
	}
	return other
}

// slowPlaces is each place, as often as it weighs: what a choice picks stands at the choice.
func slowPlaces(weights []int) []int {
	var all []int
	for place, w := range weights {
		for range w {
			all = append(all, place)
		}
	}
	return all
}

func slowWeighted(d api.Draws, weights []int) (api.Draws, int, api.Errno) {
	if !slowMayBe(weights) {
		return api.Draws{}, 0, api.ErrArg
	}
	places := slowPlaces(weights)
	then, choice, e := draw.Take(d, len(places))
	if e != api.OK {
		return api.Draws{}, 0, e
	}
	return then, places[choice], api.OK
}

func slowLeast(weights []int, i int) (int, api.Errno) {
	if !slowMayBe(weights) {
		return 0, api.ErrArg
	}
	choice := slices.Index(slowPlaces(weights), i)
	if choice < 0 {
		return 0, api.ErrNone
	}
	return choice, api.OK
}

// slowNumbers are 0, and then each number and the one below 0, as far as most.
func slowNumbers(most int) []int {
	all := []int{0}
	for n := 1; n <= most; n++ {
		all = append(all, n, -n)
	}
	return all
}

func slowSigned(d api.Draws, most int) (api.Draws, int, api.Errno) {
	if most < 0 || most > 20 {
		return api.Draws{}, 0, api.ErrArg
	}
	all := slowNumbers(most)
	then, choice, e := draw.Take(d, len(all))
	if e != api.OK {
		return api.Draws{}, 0, e
	}
	return then, all[choice], api.OK
}

func slowUnsigned(most, n int) (int, api.Errno) {
	if most < 0 || most > 20 {
		return 0, api.ErrArg
	}
	choice := slices.Index(slowNumbers(most), n)
	if choice < 0 {
		return 0, api.ErrNone
	}
	return choice, api.OK
}

// agreeWeights holds a choice, and the least choices, against the document's words.
func agreeWeights(t *testing.T, d api.Draws, weights []int) api.Errno {
	t.Helper()
	then, place, e := pick.Weighted(d, weights)
	want, picked, err := slowWeighted(d, weights)
	if e != err || place != picked || !like(then, want) {
		t.Errorf("%v, %v: %v %d %v, want %v %d %v", d, weights, then, place, e, want, picked, err)
	}
	if e == api.OK && weights[place] == 0 {
		t.Errorf("%v, %v: %d, that weighs nothing", d, weights, place)
	}
	for i := -2; i < len(weights)+2; i++ {
		want, err := slowLeast(weights, i)
		least(t, weights, i, want, err)
	}
	return e
}

func agreeNumbers(t *testing.T, d api.Draws, most int) api.Errno {
	t.Helper()
	then, n, e := pick.Signed(d, most)
	want, made, err := slowSigned(d, most)
	if e != err || n != made || !like(then, want) {
		t.Errorf("%v, %d: %v %d %v, want %v %d %v", d, most, then, n, e, want, made, err)
	}
	return e
}

// rows are all rows of up to so many of some numbers.
func rows(some []int, most int) [][]int {
	all := [][]int{nil}
	for from := 0; most > 0; most-- {
		upto := len(all)
		for _, row := range all[from:upto] {
			for _, x := range some {
				all = append(all, append(slices.Clone(row), x))
			}
		}
		from = upto
	}
	return all
}

// TestSmallWeights has all rows of up to four of these weights, at every choice below their sum, and at one that is not.
func TestSmallWeights(t *testing.T) {
	count := map[api.Errno]int{}
	for _, weights := range rows([]int{-1, 0, 1, 2, 5}, 4) {
		for choice := range max(1, sum(weights)+1) {
			d, _ := next(choice)
			count[agreeWeights(t, d, weights)]++
		}
	}
	for _, weights := range rows([]int{0, 99, 100, 101}, 4) {
		for _, choice := range []int{0, 98, 99, 100, 101, 198, 199, 200, 300, 399} {
			d, _ := next(choice)
			count[agreeWeights(t, d, weights)]++
		}
	}
	if count[api.OK] < 1000 || count[api.ErrArg] < 300 {
		t.Error(count)
	}
}

// TestOneChoiceEach has each number be made by just one choice, and each choice make just one number.
func TestOneChoiceEach(t *testing.T) {
	for most := -3; most <= 24; most++ {
		made := map[int]int{}
		for choice := range max(1, 2*most+1) {
			d, _ := next(choice)
			if agreeNumbers(t, d, most) == api.OK {
				_, n, _ := pick.Signed(d, most)
				made[n]++
			}
		}
		for n := -60; n <= 60; n++ {
			want, err := slowUnsigned(most, n)
			unsigned(t, most, n, want, err)
			if (made[n] == 1) != (err == api.OK) || made[n] > 1 {
				t.Errorf("%d is made by %d choices, at most %d", n, made[n], most)
			}
		}
	}
}

// chance makes things by chance, that is the same each time.
type chance struct{ *rand.Rand }

// number is small mostly.
func (c chance) number() int {
	if c.Intn(4) == 0 {
		return int(c.Uint64())
	}
	return c.Intn(60) - 30
}

func (c chance) row(n int) []int {
	var all []int
	for range n {
		all = append(all, c.number())
	}
	return all
}

// near is a length that is small, or at a limit, or one off.
func (c chance) near(limit int) int {
	if c.Intn(3) == 0 {
		return max(0, limit-c.Intn(4)+1)
	}
	return c.Intn(20)
}

func (c chance) draws() api.Draws {
	d := api.Draws{List: c.row(c.near(500)), Log: c.row(c.near(2000))}
	d.At = c.Intn(len(d.List)+4) - 1
	return d
}

// weights are such as may be mostly, at times with many that are 0, or with one that none may have.
func (c chance) weights() []int {
	var all []int
	most := 1 + c.Intn(100)
	for range c.near(20) {
		all = append(all, max(0, c.Intn(101)*(1+c.Intn(2))-most))
	}
	for i := range all {
		all[i] = min(all[i], 100)
	}
	if len(all) > 0 && c.Intn(6) == 0 {
		all[c.Intn(len(all))] = []int{-1, 101, 100, 0, c.number()}[c.Intn(5)]
	}
	return all
}

func TestByChance(t *testing.T) {
	c := chance{rand.New(rand.NewSource(1))}
	weighed, signed := map[api.Errno]int{}, map[api.Errno]int{}
	for range 5000 {
		weighed[agreeWeights(t, c.draws(), c.weights())]++
		signed[agreeNumbers(t, c.draws(), c.Intn(26)-2)]++
		most, n := c.Intn(26)-2, c.number()
		want, err := slowUnsigned(most, n)
		unsigned(t, most, n, want, err)
	}
	for _, e := range []api.Errno{api.OK, api.ErrArg, api.ErrMany} {
		if weighed[e] < 100 || signed[e] < 100 {
			t.Error(weighed, signed)
		}
	}
}
