package chooser_test

import (
	"slices"
	"testing"

	"reticent/api"
	"reticent/chooser"
)

var (
	labels = api.Lattice{Names: []string{"a", "b", "c"}, Up: []uint32{7, 6, 4}}
	space  = api.Space{Code: 2, Mem: 2, Stack: 2, Val: 5, Weights: []int{0, 0, 3, 0, 0, 0, 0, 0, 0, 0, 0, 0, 2}}
)

func isLike(a, b api.Draws) bool {
	return slices.Equal(a.List, b.List) && a.At == b.At && slices.Equal(a.Log, b.Log)
}

// things chooses one of each thing, and tells it as a number.
func things(c *chooser.Chooser) map[string]func() int {
	return map[string]func() int{
		"below":  func() int { return c.Below(7) },
		"number": c.Number,
		"op":     c.Op,
		"label":  c.Label,
		"place":  c.Place,
		"ret": func() int {
			if c.Ret() {
				return 1
			}
			return 0
		},
		"value":     func() int { return c.Value(false) },
		"ret value": func() int { return c.Value(true) },
		"row":       func() int { return len(chooser.Row(c, 4, func() int { return 9 })) },
	}
}

// TestChosen has each thing be made by each choice below its bound, and of a number that is one below 0 by the greatest.
func TestChosen(t *testing.T) {
	numbers := []int{0, 1, -1, 2, -2, 3, -3, 4, -4, 5, -5}
	places := []int{0, 1, 2, 3, 4, 5, 6, 7, 8, 9, 10, 11, 12}
	for name, all := range map[string][]int{
		"below": {0, 1, 2, 3, 4, 5, 6}, "number": numbers, "op": {2, 2, 2, 12, 12}, "label": {0, 1, 2}, "place": places,
		"ret": {0, 1}, "value": numbers, "ret value": places, "row": {0, 1, 2, 3, 4},
	} {
		for i := -1; i < len(all); i++ {
			choice := (i + len(all)) % len(all)
			c := chooser.New(labels, space, api.Draws{List: []int{99, i, 99}, At: 1, Log: []int{8}})
			got := things(c)[name]()
			then, e := c.Draws()
			if want := (api.Draws{List: []int{99, i, 99}, At: 2, Log: []int{8, choice}}); got != all[choice] || e != api.OK || !isLike(then, want) {
				t.Errorf("%s of %d: %d, want %d; %v %v", name, i, got, all[choice], then, e)
			}
		}
	}
}

// TestRow has what a row is of be chosen in order, behind how many there are.
func TestRow(t *testing.T) {
	c := chooser.New(labels, space, api.Draws{List: []int{3, 7, 8, 9, 10}})
	got := chooser.Row(c, 5, func() int { return c.Below(100) })
	then, e := c.Draws()
	if !slices.Equal(got, []int{7, 8, 9}) || e != api.OK || then.At != 4 || !slices.Equal(then.Log, []int{3, 7, 8, 9}) {
		t.Error(got, then, e)
	}
}

// TestBehindAnError has the first error stay: it is told instead of the draws, and nothing is chosen any more.
func TestBehindAnError(t *testing.T) {
	full := api.Draws{List: []int{5, 6, 7}, Log: make([]int, api.MaxLog)}
	for name := range things(nil) {
		c := chooser.New(labels, space, api.Draws{List: []int{5}, At: -1})
		told(t, c, name, api.ErrArg)
		c = chooser.New(labels, space, full)
		if then, e := c.Draws(); e != api.OK || !isLike(then, full) {
			t.Error(name, e)
		}
		told(t, c, name, api.ErrMany)
	}
}

func told(t *testing.T, c *chooser.Chooser, name string, want api.Errno) {
	t.Helper()
	first := things(c)[name]()
	for other, one := range things(c) {
		if got := one(); got != 0 || first != 0 {
			t.Errorf("%s, %s: %d %d", name, other, first, got)
		}
	}
	c.Below(0)
	if then, e := c.Draws(); e != want || !isLike(then, api.Draws{}) {
		t.Errorf("%s: %v %v, want %v", name, then, e, want)
	}
}

// TestNothingKept has the draws be copied, also where nothing is chosen.
func TestNothingKept(t *testing.T) {
	d := api.Draws{List: []int{5, 6, 7}, Log: []int{1, 2}}
	c := chooser.New(labels, space, d)
	then, _ := c.Draws()
	then.List[0], then.Log[0] = 99, 99
	_ = append(then.Log, 99)
	if !slices.Equal(d.List, []int{5, 6, 7}) || !slices.Equal(d.Log, []int{1, 2}) {
		t.Error(d)
	}
}
