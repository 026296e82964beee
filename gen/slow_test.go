package gen_test

import (
	"math/rand"
	"slices"
	"testing"

	"reticent/api"
	"reticent/gen"
	"reticent/lattice"
	"reticent/state"
)

// slow is what the document's words say, of a lattice and a space that may be: choices are taken off a row by hand.
type slow struct {
	l    api.Lattice
	sp   api.Space
	list []int
	at   int
	log  []int
}

func (w *slow) below(bound int) int {
	n := 0
	if w.at < len(w.list) {
		n = ((w.list[w.at] % bound) + bound) % bound
		w.at++
	}
	w.log = append(w.log, n)
	return n
}

// number counts up and down, from 0 on.
func (w *slow) number() int {
	all := []int{0}
	for n := 1; n <= w.sp.Val; n++ {
		all = append(all, n, -n)
	}
	return all[w.below(len(all))]
}

func (w *slow) label() int { return w.below(len(w.l.Names)) }

// op has each Op as often as it weighs.
func (w *slow) op() int {
	var all []int
	for op, n := range w.sp.Weights {
		all = append(all, same(n, op)...)
	}
	return all[w.below(len(all))]
}

func (w *slow) state() api.State {
	var s api.State
	for n := w.below(w.sp.Code + 1); n > 0; n-- {
		x := api.Instr{Op: w.op()}
		switch x.Op {
		case 1:
			x.N = w.number()
			x.L = w.label()
		case 8:
			x.N = w.below(13)
		case 9:
			x.N = w.below(4)
		case 10:
			x.N = w.below(2)
		}
		s.Code = append(s.Code, x)
	}
	for n := w.below(w.sp.Mem + 1); n > 0; n-- {
		v := w.number()
		s.Mem = append(s.Mem, api.Atom{V: v, L: w.label()})
	}
	for n := w.below(w.sp.Stack + 1); n > 0; n-- {
		ret, v := w.below(2) == 1, 0
		if ret {
			v = w.below(13)
		} else {
			v = w.number()
		}
		s.Stack = append(s.Stack, api.Slot{Ret: ret, V: v, L: w.label()})
	}
	s.Pc.V = w.below(13)
	s.Pc.L = w.label()
	return s
}

func slowSpace(sp api.Space) bool {
	for i, n := range []int{sp.Code, sp.Mem, sp.Stack, sp.Val} {
		if n < 0 || n > []int{12, 6, 12, 20}[i] {
			return false
		}
	}
	some := false
	for _, n := range sp.Weights {
		if n < 0 || n > 100 {
			return false
		}
		some = some || n > 0
	}
	return some && len(sp.Weights) == 13
}

func slowCheck(l api.Lattice, sp api.Space) api.Errno {
	if e := lattice.Check(l); e != api.OK {
		return e
	}
	if !slowSpace(sp) {
		return api.ErrArg
	}
	return api.OK
}

func slowState(l api.Lattice, sp api.Space, d api.Draws) (api.Draws, api.State, api.Errno) {
	if e := slowCheck(l, sp); e != api.OK {
		return api.Draws{}, api.State{}, e
	}
	if len(d.List) > 500 || len(d.Log) > 2000 || d.At < 0 {
		return api.Draws{}, api.State{}, api.ErrArg
	}
	w := &slow{l: l, sp: sp, list: d.List, at: d.At, log: slices.Clone(d.Log)}
	s := w.state()
	if len(w.log) > 2000 {
		return api.Draws{}, api.State{}, api.ErrMany
	}
	return api.Draws{List: d.List, At: w.at, Log: w.log}, s, api.OK
}

// slowHas gathers all that has to be from -Val to Val.
func slowHas(l api.Lattice, sp api.Space, s api.State) (bool, api.Errno) {
	if e := slowCheck(l, sp); e != api.OK {
		return false, e
	}
	if !state.Right(l, s) || len(s.Code) > sp.Code || len(s.Mem) > sp.Mem || len(s.Stack) > sp.Stack || len(s.Out) > 0 {
		return false, api.OK
	}
	var numbers []int
	for _, x := range s.Code {
		if sp.Weights[x.Op] == 0 {
			return false, api.OK
		}
		if x.Op == 1 {
			numbers = append(numbers, x.N)
		}
	}
	for _, x := range s.Mem {
		numbers = append(numbers, x.V)
	}
	for _, x := range s.Stack {
		if !x.Ret {
			numbers = append(numbers, x.V)
		}
	}
	for _, n := range numbers {
		if max(n, -n) > sp.Val {
			return false, api.OK
		}
	}
	return true, api.OK
}

// agreeState holds what is made against the document's words, and against what follows: it is in the space, and the Log makes it again.
func agreeState(t *testing.T, l api.Lattice, sp api.Space, d api.Draws) (api.State, api.Errno) {
	t.Helper()
	then, s, e := gen.State(l, sp, d)
	want, made, err := slowState(l, sp, d)
	if e != err || !state.Like(s, made) || !like(then, want) {
		t.Fatalf("%v, %v, %v: %v %v %v, want %v %v %v", l, sp, d, then, s, e, want, made, err)
	}
	if e != api.OK {
		return s, e
	}
	has(t, l, sp, s, true)
	choices := then.Log[len(d.Log):]
	if again, other, f := gen.State(l, sp, api.Draws{List: choices}); f != api.OK || !state.Like(other, s) || !slices.Equal(again.Log, choices) || again.At != len(choices) {
		t.Fatalf("%v, %v: %v %v %v, want %v", sp, choices, again, other, f, s)
	}
	return s, e
}

// agreeHas holds an answer against the document's words; what is in a space is in the largest one, too.
func agreeHas(t *testing.T, l api.Lattice, sp api.Space, s api.State) (bool, api.Errno) {
	t.Helper()
	got, e := gen.Has(l, sp, s)
	if want, err := slowHas(l, sp, s); got != want || e != err {
		t.Fatalf("%v, %v, %v: %v %v, want %v %v", l, sp, s, got, e, want, err)
	}
	if got {
		has(t, l, weighing(same(13, 1)), s, true)
	}
	return got, e
}

// every tells all states of a space that choices make, by their texts: the next row of choices is the Log's, where the last choice that can be is one greater.
func every(t *testing.T, l api.Lattice, sp api.Space) map[string]int {
	t.Helper()
	made := map[string]int{}
	for choices, more := []int(nil), true; more; {
		s, e := agreeState(t, l, sp, api.Draws{List: choices})
		text, f := state.Text(l, s)
		if e != api.OK || f != api.OK {
			t.Fatal(choices, e, f)
		}
		made[text]++
		then, _, _ := gen.State(l, sp, api.Draws{List: choices})
		choices, more = following(l, sp, then.Log)
	}
	return made
}

// following asks by a choice that is its bound itself, and so comes to 0.
func following(l api.Lattice, sp api.Space, log []int) ([]int, bool) {
	for i := len(log) - 1; i >= 0; i-- {
		choices := append(slices.Clone(log[:i]), log[i]+1)
		if then, _, _ := gen.State(l, sp, api.Draws{List: choices}); then.Log[i] == log[i]+1 {
			return choices, true
		}
	}
	return nil, false
}

// TestEvery has all states of small spaces be made, each by one row of choices, and no others.
func TestEvery(t *testing.T) {
	for _, x := range []struct {
		kind   string
		n      int
		sp     api.Space
		states int // but for where the machine is
	}{
		{"chain", 1, space(0, 0, 0, 0), 1},
		{"diamond", 2, space(0, 0, 0, 20), 1},
		{"chain", 2, api.Space{Code: 1, Val: 1, Weights: same(13, 1)}, 1 + 9 + 3*2 + 13 + 4 + 2},
		{"chain", 1, api.Space{Code: 2, Val: 1, Weights: only(1, 3, 10)}, 1 + 6 + 36},
		{"chain", 2, api.Space{Mem: 2, Val: 1, Weights: only(0)}, 1 + 6 + 36},
		{"chain", 1, api.Space{Stack: 2, Val: 2, Weights: only(12)}, 1 + 18 + 324},
		{"chain", 2, api.Space{Stack: 1, Val: 20, Weights: only(12)}, 1 + 2*(13+41)},
		{"chain", 1, api.Space{Code: 1, Mem: 1, Stack: 1, Val: 0, Weights: only(9, 12)}, (1 + 5) * 2 * (1 + 14)},
	} {
		l := made(t, x.kind, x.n)
		got := every(t, l, x.sp)
		if len(got) != x.states*13*len(l.Up) {
			t.Errorf("%v: %d states, want %d", x.sp, len(got), x.states*13*len(l.Up))
		}
		for text, n := range got {
			if n != 1 {
				t.Errorf("%v: %s: %d times", x.sp, text, n)
			}
		}
	}
}

// TestEveryWeighs has each state of one instruction be made by as many rows of choices as that weighs.
func TestEveryWeighs(t *testing.T) {
	l := made(t, "chain", 1)
	sp := api.Space{Code: 1, Weights: []int{3, 0, 1, 2, 0, 0, 0, 0, 2, 0, 5, 0, 1}}
	count := 0
	for text, n := range every(t, l, sp) {
		want := 1
		for _, x := range told(t, l, text).Code {
			want = sp.Weights[x.Op]
		}
		if n != want {
			t.Errorf("%s: %d times, want %d", text, n, want)
		}
		count++
	}
	if count != 13*(1+4+13+2) {
		t.Error(count)
	}
}

// chance makes things by chance, that is the same each time.
type chance struct{ *rand.Rand }

// number is small mostly.
func (c chance) number() int {
	if c.Intn(9) == 0 {
		return int(c.Uint64())
	}
	return c.Intn(100) - 50
}

func (c chance) row(n int) []int {
	var all []int
	for range n {
		all = append(all, c.number())
	}
	return all
}

func (c chance) draws() api.Draws {
	d := api.Draws{List: c.row(c.Intn(120)), Log: c.row(c.Intn(20))}
	d.At = c.Intn(len(d.List)/4 + 2)
	switch c.Intn(12) {
	case 0, 1:
		d.Log = c.row(1900 + c.Intn(104))
	case 2:
		d.List = c.row(498 + c.Intn(5))
	case 3:
		d.At = c.Intn(3) - 2
	}
	return d
}

func (c chance) weights() []int {
	all := same(13, 0)
	for i := range all {
		all[i] = max(0, c.Intn(140)-40)
	}
	return all
}

// space is one that may be mostly.
func (c chance) space() api.Space {
	sp := api.Space{Code: c.Intn(13), Mem: c.Intn(7), Stack: c.Intn(13), Val: c.Intn(21), Weights: c.weights()}
	if c.Intn(12) == 0 {
		sp = with(sp, c.Intn(4), []int{-1, 21, 13, 12, 7}[c.Intn(5)])
	}
	if c.Intn(12) == 0 {
		sp.Weights = badWeights()[c.Intn(len(badWeights()))]
	}
	return sp
}

// near is a space that is nearly that which a state needs.
func (c chance) near(s api.State) api.Space {
	val := 0
	for _, x := range s.Code {
		if x.Op == api.IPush {
			val = max(val, x.N, -x.N)
		}
	}
	for _, x := range s.Mem {
		val = max(val, x.V, -x.V)
	}
	for _, x := range s.Stack {
		if !x.Ret {
			val = max(val, x.V, -x.V)
		}
	}
	off := func() int { return max(0, c.Intn(40)-38) }
	sp := api.Space{Code: len(s.Code) - off(), Mem: len(s.Mem) - off(), Stack: len(s.Stack) - off(), Val: val - off(), Weights: same(13, 1)}
	if c.Intn(4) == 0 {
		sp.Weights[c.Intn(13)] = 0
	}
	return sp
}

// spoiled is a state of which something may not be, at times.
func (c chance) spoiled(s api.State) api.State {
	switch i := c.Intn(12); {
	case i == 0:
		s.Out = []api.Atom{{V: c.Intn(3)}}
	case i == 1:
		s.Pc = api.Atom{V: c.Intn(16) - 1, L: c.Intn(4) - 1}
	case i == 2 && len(s.Code) > 0:
		s.Code[c.Intn(len(s.Code))] = api.Instr{Op: c.Intn(16) - 1, N: c.Intn(60) - 30, L: c.Intn(3)}
	case i == 3 && len(s.Mem) > 0:
		s.Mem[c.Intn(len(s.Mem))] = api.Atom{V: c.Intn(60) - 30, L: c.Intn(3)}
	case i == 4 && len(s.Stack) > 0:
		s.Stack[c.Intn(len(s.Stack))] = api.Slot{Ret: c.Intn(2) == 0, V: c.Intn(60) - 30, L: c.Intn(3)}
	}
	return s
}

func TestByChance(t *testing.T) {
	c := chance{rand.New(rand.NewSource(1))}
	lattices := []api.Lattice{made(t, "chain", 1), made(t, "chain", 3), made(t, "diamond", 2), made(t, "diamond", 6), made(t, "power", 3)}
	count, in := map[api.Errno]int{}, map[bool]int{}
	for range 6000 {
		l, sp := lattices[c.Intn(len(lattices))], c.space()
		s, e := agreeState(t, l, sp, c.draws())
		count[e]++
		if e != api.OK {
			continue
		}
		s = c.spoiled(s)
		for _, sp := range []api.Space{c.near(s), c.near(s), c.space()} {
			if got, e := agreeHas(t, l, sp, s); e == api.OK {
				in[got]++
			}
		}
	}
	if count[api.OK] < 3000 || count[api.ErrArg] < 500 || count[api.ErrMany] < 100 || in[true] < 2000 || in[false] < 2000 {
		t.Error(count, in)
	}
}
