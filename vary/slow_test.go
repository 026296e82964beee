package vary_test

import (
	"math/rand"
	"slices"
	"testing"

	"reticent/api"
	"reticent/draw"
	"reticent/equiv"
	"reticent/gen"
	"reticent/lattice"
	"reticent/state"
	"reticent/vary"
)

// slow is what the document's words say, of all that may be: choices are taken off a row by hand.
type slow struct {
	l    api.Lattice
	sp   api.Space
	o    int
	list []int
	at   int
	log  []int
}

func (w *slow) sees(a int) bool { return w.l.Up[a]&(1<<w.o) != 0 }

func (w *slow) below(bound int) int {
	n := 0
	if w.at < len(w.list) {
		n = ((w.list[w.at] % bound) + bound) % bound
		w.at++
	}
	w.log = append(w.log, n)
	return n
}

// number is a place, if that is what a slot has.
func (w *slow) number(place bool) int {
	if place {
		return w.below(13)
	}
	n := w.below(2*w.sp.Val + 1)
	if n%2 == 0 {
		return -n / 2
	}
	return (n + 1) / 2
}

// slots varies slots where they stand.
func (w *slow) slots(row []api.Slot) {
	for i := range row {
		if !w.sees(row[i].L) {
			row[i].V = w.number(row[i].Ret)
		}
	}
}

// left is how many slots are left of a stack, cropped.
func (w *slow) left(row []api.Slot) int {
	for n := len(row); n > 0; n-- {
		if top := row[n-1]; top.Ret && w.sees(top.L) {
			return n
		}
	}
	return 0
}

// unseen lays slots on a stack, cropped, and tells where the machine is.
func (w *slow) unseen(s *api.State) {
	s.Stack = s.Stack[:w.left(s.Stack)]
	w.slots(s.Stack)
	for n := w.below(w.sp.Stack - len(s.Stack) + 1); n > 0; n-- {
		ret := w.below(2) == 1
		a := w.below(len(w.l.Names))
		if w.sees(a) {
			ret = false
		}
		s.Stack = append(s.Stack, api.Slot{Ret: ret, V: w.number(ret), L: a})
	}
	s.Pc.V = w.below(13)
	var labels []int
	for a := range w.l.Names {
		if !w.sees(a) {
			labels = append(labels, a)
		}
	}
	s.Pc.L = labels[w.below(len(labels))]
}

func (w *slow) state(s api.State) api.State {
	s = api.State{Pc: s.Pc, Code: slices.Clone(s.Code), Mem: slices.Clone(s.Mem), Stack: slices.Clone(s.Stack), Out: slices.Clone(s.Out)}
	for i := range s.Code {
		if s.Code[i].Op == 1 && !w.sees(s.Code[i].L) {
			s.Code[i].N = w.number(false)
		}
	}
	for i := range s.Mem {
		if !w.sees(s.Mem[i].L) {
			s.Mem[i].V = w.number(false)
		}
	}
	if w.sees(s.Pc.L) {
		w.slots(s.Stack)
	} else {
		w.unseen(&s)
	}
	return s
}

func slowState(l api.Lattice, sp api.Space, o int, s api.State, d api.Draws) (api.Draws, api.State, api.Errno) {
	if e := lattice.Check(l); e != api.OK {
		return api.Draws{}, api.State{}, e
	}
	if !gen.Right(sp) {
		return api.Draws{}, api.State{}, api.ErrArg
	}
	if in, _ := gen.Has(l, sp, s); !in {
		return api.Draws{}, api.State{}, api.ErrArg
	}
	if o < 0 || o >= len(l.Names) {
		return api.Draws{}, api.State{}, api.ErrNone
	}
	if !draw.Right(d) {
		return api.Draws{}, api.State{}, api.ErrArg
	}
	w := &slow{l: l, sp: sp, o: o, list: d.List, at: d.At, log: slices.Clone(d.Log)}
	s = w.state(s)
	if len(w.log) > 2000 {
		return api.Draws{}, api.State{}, api.ErrMany
	}
	return api.Draws{List: d.List, At: w.at, Log: w.log}, s, api.OK
}

// slowPair has the first state be made and the second one varied, where that is nobody's error.
func slowPair(l api.Lattice, sp api.Space, o int, d api.Draws) (api.Draws, api.State, api.State, api.Errno) {
	left, a, e := gen.State(l, sp, d)
	if e != api.OK {
		return api.Draws{}, api.State{}, api.State{}, e
	}
	if o < 0 || o >= len(l.Names) {
		return api.Draws{}, api.State{}, api.State{}, api.ErrNone
	}
	then, b, e := slowState(l, sp, o, a, left)
	if e != api.OK {
		return api.Draws{}, api.State{}, api.State{}, e
	}
	return then, a, b, api.OK
}

// agree holds what is varied against the document's words, and against what follows; the Log makes it again.
func agree(t *testing.T, l api.Lattice, sp api.Space, o int, s api.State, d api.Draws) (api.Draws, api.State, api.Errno) {
	t.Helper()
	then, other, e := vary.State(l, sp, o, s, d)
	left, want, err := slowState(l, sp, o, s, d)
	if e != err || !state.Like(other, want) || !like(then, left) {
		t.Fatalf("%v, %v, %d, %v, %v: %v %v %v, want %v %v %v", l, sp, o, s, d, then, other, e, left, want, err)
	}
	if e != api.OK {
		return then, other, e
	}
	follows(t, l, sp, o, s, other)
	choices := then.Log[len(d.Log):]
	again, same, f := vary.State(l, sp, o, s, api.Draws{List: choices})
	if f != api.OK || !state.Like(same, other) || !slices.Equal(again.Log, choices) || again.At != len(choices) {
		t.Fatalf("%v, %d, %v, %v: %v %v %v, want %v", sp, o, s, choices, again, same, f, other)
	}
	return then, other, e
}

// agreePair holds a pair against the document's words, and against what follows; the Log makes it again.
func agreePair(t *testing.T, l api.Lattice, sp api.Space, o int, d api.Draws) api.Errno {
	t.Helper()
	then, a, b, e := vary.Pair(l, sp, o, d)
	left, a2, b2, err := slowPair(l, sp, o, d)
	if e != err || !state.Like(a, a2) || !state.Like(b, b2) || !like(then, left) {
		t.Fatalf("%v, %v, %d, %v: %v %v %v %v, want %v %v %v %v", l, sp, o, d, then, a, b, e, left, a2, b2, err)
	}
	if e != api.OK {
		return e
	}
	follows(t, l, sp, o, a, b)
	choices := then.Log[len(d.Log):]
	again, a2, b2, f := vary.Pair(l, sp, o, api.Draws{List: choices})
	if f != api.OK || !state.Like(a, a2) || !state.Like(b, b2) || !slices.Equal(again.Log, choices) || again.At != len(choices) {
		t.Fatalf("%v, %d, %v: %v %v %v %v, want %v %v", sp, o, choices, again, a2, b2, f, a, b)
	}
	return e
}

// rows goes through all rows of choices that are taken: the next one is the Log's, where the last choice that can be is one greater. A choice that is its bound itself comes to 0, and so can't be.
func rows(taken func(choices []int) []int) {
	log := taken(nil)
	for i := len(log) - 1; i >= 0; i-- {
		next := taken(append(slices.Clone(log[:i]), log[i]+1))
		if next[i] == log[i]+1 {
			log, i = next, len(next)
		}
	}
}

// written is a state, and its text.
type written struct {
	state api.State
	text  string
}

// every are all states that choices make in a space.
func every(t *testing.T, l api.Lattice, sp api.Space) []written {
	t.Helper()
	var all []written
	seen := map[string]bool{}
	rows(func(choices []int) []int {
		then, s, e := gen.State(l, sp, draw.New(choices))
		text, f := state.Text(l, s)
		if e != api.OK || f != api.OK {
			t.Fatal(choices, e, f)
		}
		if !seen[text] {
			all, seen[text] = append(all, written{s, text}), true
		}
		return then.Log
	})
	return all
}

// everyVaried tells all states that choices make of one, by their texts, and how many rows of choices make each.
func everyVaried(t *testing.T, l api.Lattice, sp api.Space, o int, s api.State) map[string]int {
	t.Helper()
	made, seen := map[string]int{}, map[string]bool{}
	rows(func(choices []int) []int {
		then, other, e := vary.State(l, sp, o, s, draw.New(choices))
		text, f := state.Text(l, other)
		if e != api.OK || f != api.OK {
			t.Fatal(choices, e, f)
		}
		// A row that does not go on may stand for one that was had.
		if by := rowText(then.Log); !seen[by] {
			seen[by] = true
			made[text]++
		}
		return then.Log
	})
	return made
}

// rowText is for choices below 64.
func rowText(choices []int) string {
	var text []byte
	for _, n := range choices {
		text = append(text, byte('0'+n))
	}
	return string(text)
}

// ways is how many rows of choices make a state of one: a slot that is laid on top, of a label that is seen, is no place to go back to by either choice.
func ways(w *slow, s, other api.State) int {
	if w.sees(s.Pc.L) {
		return 1
	}
	n := 1
	for _, x := range other.Stack[w.left(s.Stack):] {
		if w.sees(x.L) {
			n *= 2
		}
	}
	return n
}

// TestEvery has just those states of small spaces be made of one by choices that are alike with it, each by so many rows of choices.
func TestEvery(t *testing.T) {
	only := func(sp api.Space, ops ...int) api.Space {
		sp.Weights = same(13, 0)
		for _, op := range ops {
			sp.Weights[op] = 1
		}
		return sp
	}
	for _, x := range []struct {
		kind string
		n    int
		sp   api.Space
		step int // one of so many states is varied
	}{
		{"chain", 1, space(1, 0, 0, 1), 7},
		{"chain", 2, only(space(2, 0, 0, 1), api.IPush, api.ICall), 61},
		{"chain", 2, only(space(0, 2, 0, 1), api.IHalt), 11},
		{"chain", 2, only(space(0, 0, 1, 2), api.IHalt), 5},
		{"chain", 3, only(space(0, 0, 1, 1), api.IHalt), 29},
		{"diamond", 2, only(space(0, 0, 1, 0), api.IHalt), 61},
		{"chain", 2, only(space(0, 0, 2, 0), api.IHalt), 1409},
		{"chain", 2, only(space(1, 1, 1, 0), api.IPush), 317},
	} {
		l := made(t, x.kind, x.n)
		all := every(t, l, x.sp)
		for o := range l.Up {
			w := &slow{l: l, o: o}
			for i := 0; i < len(all); i += x.step {
				s := all[i].state
				got := everyVaried(t, l, x.sp, o, s)
				for _, other := range all {
					want := 0
					if alike, _ := equiv.States(l, o, s, other.state); alike {
						want = ways(w, s, other.state)
					}
					if got[other.text] != want {
						t.Fatalf("%v, %d, %v: %s: %d times, want %d", x.sp, o, s, other.text, got[other.text], want)
					}
					delete(got, other.text)
				}
				if len(got) > 0 {
					t.Fatalf("%v, %d, %v: %v", x.sp, o, s, got)
				}
			}
		}
	}
}

// chance makes things by chance, that is the same each time.
type chance struct{ *rand.Rand }

// numbers are small mostly.
func (c chance) numbers(n int) []int {
	var all []int
	for range n {
		if c.Intn(9) == 0 {
			all = append(all, int(c.Uint64()))
		} else {
			all = append(all, c.Intn(100)-50)
		}
	}
	return all
}

// draws are such as may be mostly.
func (c chance) draws() api.Draws {
	d := api.Draws{List: c.numbers(c.Intn(200)), Log: c.numbers(c.Intn(20))}
	d.At = c.Intn(len(d.List)/4 + 2)
	switch c.Intn(15) {
	case 0, 1, 2:
		d.Log = c.numbers(1960 + c.Intn(44))
	case 3:
		d.List = c.numbers(498 + c.Intn(5))
	case 4:
		d.At = c.Intn(3) - 2
	}
	return d
}

// space is one that may be mostly, where much is pushed.
func (c chance) space() api.Space {
	sp := space(c.Intn(13), c.Intn(7), c.Intn(13), c.Intn(21))
	sp.Weights[api.IPush] = 20
	if c.Intn(15) == 0 {
		sp = badSpaces()[c.Intn(len(badSpaces()))]
	}
	return sp
}

func (c chance) observer(l api.Lattice) int {
	if c.Intn(9) == 0 {
		return []int{-1, len(l.Up), len(l.Up) + 1, 40}[c.Intn(4)]
	}
	return c.Intn(len(l.Up))
}

// state is one in a space, mostly, if there are any.
func (c chance) state(l api.Lattice, sp api.Space) api.State {
	_, s, _ := gen.State(l, sp, api.Draws{List: c.numbers(200)})
	switch i := c.Intn(30); {
	case i == 0:
		s.Out = []api.Atom{{V: c.Intn(3)}}
	case i == 1:
		s.Pc.L = c.Intn(9) - 1
	case i == 2 && len(s.Mem) > 0:
		s.Mem[0].V = c.Intn(60) - 30
	case i == 3 && len(s.Stack) > 0:
		s.Stack[0] = api.Slot{Ret: c.Intn(2) == 0, V: c.Intn(60) - 30, L: c.Intn(3)}
	case i == 4 && len(s.Code) > 0:
		s.Code[0].N = c.Intn(60) - 30
	}
	return s
}

func TestByChance(t *testing.T) {
	c := chance{rand.New(rand.NewSource(1))}
	turned := api.Lattice{Names: []string{"high", "mid", "low"}, Up: []uint32{1, 3, 7}}
	lattices := []api.Lattice{turned, made(t, "chain", 1), made(t, "chain", 3), made(t, "diamond", 2), made(t, "diamond", 6), made(t, "power", 3)}
	count, pairs, other := map[api.Errno]int{}, map[api.Errno]int{}, 0
	for range 8000 {
		l, sp := lattices[c.Intn(len(lattices))], c.space()
		o, s := c.observer(l), c.state(l, sp)
		_, then, e := agree(t, l, sp, o, s, c.draws())
		count[e]++
		if e == api.OK && !state.Like(s, then) {
			other++
		}
		pairs[agreePair(t, l, sp, c.observer(l), c.draws())]++
	}
	for _, n := range []map[api.Errno]int{count, pairs} {
		if n[api.OK] < 3000 || n[api.ErrArg] < 300 || n[api.ErrNone] < 100 || n[api.ErrMany] < 100 || other < 2000 {
			t.Error(count, pairs, other)
		}
	}
}
