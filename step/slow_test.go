package step_test

import (
	"fmt"
	"math"
	"math/rand"
	"slices"
	"testing"

	"reticent/api"
	"reticent/judge"
	"reticent/state"
	"reticent/step"
	"reticent/table"
)

// slowOne is what the document's words say, of arguments that may be: the stack is gone through from its top, what an instruction needs is told as a list, and the state then is made anew. The tests hold the package against it.
func slowOne(l api.Lattice, t api.Table, s api.State) (api.State, int) {
	if s.Pc.V > len(s.Code)-1 {
		return s, api.SError
	}
	x := s.Code[s.Pc.V]
	had, below, ok := slowNeeds(s, x)
	if !ok {
		return s, api.SError
	}
	if x.Op == api.IHalt {
		return s, api.SHalt
	}
	labels := slowLabels(l, s, x, had)
	row := t.Rows[x.Op]
	if may, _ := judge.Cond(l, row.May, labels); !may {
		return s, api.SStop
	}
	res, _ := judge.Label(l, row.Res, labels)
	pc, _ := judge.Label(l, row.Pc, labels)
	v := func(i int) int { return had[i].V }
	then := api.State{Pc: api.Atom{V: s.Pc.V + 1, L: pc}, Code: s.Code, Mem: slices.Clone(s.Mem), Stack: slices.Clone(s.Stack[:below]), Out: slices.Clone(s.Out)}
	put := func(n int) { then.Stack = append(then.Stack, api.Slot{V: n, L: res}) }
	switch x.Op {
	case api.IPush:
		put(x.N)
	case api.IAdd:
		put(v(1) + v(0))
	case api.ISub:
		put(v(1) - v(0))
	case api.ILoad:
		put(s.Mem[v(0)].V)
	case api.IStore:
		then.Mem[v(0)] = api.Atom{V: v(1), L: res}
	case api.IJump:
		then.Pc.V = v(0)
	case api.IBnz:
		if v(0) != 0 {
			then.Pc.V = x.N
		}
	case api.ICall:
		then.Stack = append(then.Stack, api.Slot{Ret: true, V: s.Pc.V + 1, L: s.Pc.L})
		for i := x.N; i > 0; i-- {
			then.Stack = append(then.Stack, had[i])
		}
		then.Pc.V = v(0)
	case api.IReturn:
		if x.N == 1 {
			put(v(0))
		}
		then.Pc.V = s.Stack[below].V
	case api.IOutput:
		then.Out = append(then.Out, api.Atom{V: v(0), L: res})
	}
	if !slowRight(then) {
		return s, api.SError
	}
	return then, api.SStep
}

// slowNeeds are the atoms that an instruction needs, the one on top first, how much of the stack is left below all that it takes, and whether all is there.
func slowNeeds(s api.State, x api.Instr) (had []api.Slot, below int, ok bool) {
	atoms := map[int]int{api.IPop: 1, api.IAdd: 2, api.ISub: 2, api.ILoad: 1, api.IStore: 2, api.IJump: 1, api.IBnz: 1, api.ICall: 1 + x.N, api.IReturn: x.N, api.IOutput: 1}[x.Op]
	for i := range atoms {
		at := len(s.Stack) - 1 - i
		if at < 0 || s.Stack[at].Ret {
			return nil, 0, false
		}
		had = append(had, s.Stack[at])
	}
	below = len(s.Stack) - atoms
	switch x.Op {
	case api.ILoad, api.IStore:
		ok = had[0].V >= 0 && had[0].V <= len(s.Mem)-1
	case api.IJump, api.ICall:
		ok = had[0].V >= 0 && had[0].V <= 12
	case api.IReturn:
		for !ok && below > 0 {
			below--
			ok = s.Stack[below].Ret
		}
	default:
		ok = true
	}
	return had, below, ok
}

// slowLabels are those of `pc`, `one`, `two` and `three`.
func slowLabels(l api.Lattice, s api.State, x api.Instr, had []api.Slot) []int {
	bottom := 0
	for a, up := range l.Up {
		if up == 1<<len(l.Up)-1 {
			bottom = a
		}
	}
	var some []int
	for _, y := range had {
		some = append(some, y.L)
	}
	switch x.Op {
	case api.IPush:
		some = []int{x.L}
	case api.ILoad, api.IStore:
		some = append(some, s.Mem[had[0].V].L)
	case api.ICall:
		some = some[:1]
	case api.IReturn:
		at := len(s.Stack) - 1
		for !s.Stack[at].Ret {
			at--
		}
		some = append(some, s.Stack[at].L)
		if x.N == 0 {
			some = []int{bottom, s.Stack[at].L}
		}
	}
	return append(append([]int{s.Pc.L}, some...), bottom, bottom, bottom)[:4]
}

func slowRight(s api.State) bool {
	for _, x := range slices.Concat(s.Mem, s.Out) {
		if x.V < -20 || x.V > 20 {
			return false
		}
	}
	for _, x := range s.Stack {
		if x.V < -20 || x.V > 20 || x.Ret && (x.V < 0 || x.V > 12) {
			return false
		}
	}
	return len(s.Stack) <= 12 && len(s.Out) <= 8 && s.Pc.V <= 12
}

// holds tells a step of which something else comes than the document's words say, or than what follows.
func holds(t *testing.T, l api.Lattice, rules api.Table, s api.State) int {
	t.Helper()
	got, came, e := step.One(l, rules, s)
	want, what := slowOne(l, rules, s)
	if e != api.OK || came != what || !state.Like(got, want) {
		t.Fatalf("%v %v %v: %v %d %v, want %v %d", l, rules, s, got, came, e, want, what)
	}
	if !state.Right(l, got) || !slices.Equal(got.Code, s.Code) || len(got.Mem) != len(s.Mem) || len(got.Out) < len(s.Out) || !slices.Equal(got.Out[:len(s.Out)], s.Out) {
		t.Fatalf("%v %v %v: %v", l, rules, s, got)
	}
	if came != api.SStep && !state.Like(got, s) {
		t.Fatalf("%v %v %v: %v, though %d came of it", l, rules, s, got, came)
	}
	return came
}

// eachComes tells what came of instructions too seldom: halt alone halts, and nothing else comes of it; noop and halt need nothing.
func eachComes(t *testing.T, count map[string]int, least int) {
	t.Helper()
	for op := range api.IAll {
		word, _ := table.Name(op)
		for _, came := range []int{api.SStep, api.SHalt, api.SStop, api.SError} {
			never := (came == api.SHalt) != (op == api.IHalt) || came == api.SError && op == api.INoop
			if n := count[comes(op, came)]; never && n != 0 || !never && n < least {
				t.Error(word, came, n)
			}
		}
	}
}

func comes(op, came int) string { return fmt.Sprint(op, " ", came) }

// each are instructions of all kinds, with the edges of their numbers.
func each() []api.Instr {
	l := []api.Instr{{Op: api.IPush, N: -20, L: 1}, {Op: api.IPush, L: 2}, {Op: api.IPush, N: 20, L: 3}, {Op: api.IBnz}, {Op: api.IBnz, N: 5}, {Op: api.IBnz, N: 12}}
	for n := range 4 {
		l = append(l, api.Instr{Op: api.ICall, N: n})
	}
	for op := range api.IAll {
		if op != api.IPush && op != api.IBnz && op != api.ICall {
			l = append(l, api.Instr{Op: op})
		}
	}
	return append(l, api.Instr{Op: api.IReturn, N: 1})
}

// TestSmallStacks has all stacks of up to four of these slots, of each instruction.
func TestSmallStacks(t *testing.T) {
	slots := []api.Slot{{V: -1}, {V: 0, L: 1}, {V: 1, L: 2}, {V: 12, L: 3}, {V: 13}, {Ret: true, L: 1}, {Ret: true, V: 12, L: 2}}
	mixed := ruled(t, "add : one <= two ; two ; one ;", "store : two <= three or pc <= one ; three ; two ;", "call : one <= pc ; bot ; one ;", "return : one <= two ; two ; one join two ;", "load : two <= one ; one ; two ;")
	count := map[int]int{}
	var all func(stack []api.Slot, more int)
	all = func(stack []api.Slot, more int) {
		for _, x := range each() {
			for n, rules := range []api.Table{table.Usual(), mixed} {
				s := api.State{Pc: api.Atom{V: 1, L: 2 * n}, Code: []api.Instr{{}, x}, Mem: []api.Atom{{V: 5, L: 1}, {V: 6, L: 3}}, Stack: stack}
				count[holds(t, diamond, rules, s)]++
			}
		}
		if more == 0 {
			return
		}
		for _, x := range slots {
			all(append(slices.Clone(stack), x), more-1)
		}
	}
	all(nil, 4)
	if count[api.SStep] < 10000 || count[api.SStop] < 1000 || count[api.SError] < 10000 || count[api.SHalt] < 1000 {
		t.Error(count)
	}
}

// TestAllSums has each two numbers be added, taken away, and asked of memories of all lengths.
func TestAllSums(t *testing.T) {
	for a := -20; a <= 20; a++ {
		for b := -20; b <= 20; b++ {
			for _, op := range []int{api.IAdd, api.ISub} {
				holds(t, turned, table.Usual(), api.State{Code: []api.Instr{{Op: op}}, Stack: []api.Slot{{V: a, L: 1}, {V: b, L: 3}}})
			}
		}
		for n := range 7 {
			for _, op := range []int{api.ILoad, api.IStore, api.IJump, api.IBnz, api.ICall, api.IOutput} {
				holds(t, turned, table.Usual(), api.State{Pc: api.Atom{L: 2}, Code: []api.Instr{{Op: op}}, Mem: make([]api.Atom, n), Stack: []api.Slot{{V: a, L: 2}, {V: a, L: 2}}})
			}
		}
	}
}

// maker makes things by chance, that is the same each time.
type maker struct{ *rand.Rand }

func chance(seed int64) maker { return maker{rand.New(rand.NewSource(seed))} }

func (m maker) label(n, words int) []int {
	if words == 0 {
		return []int{api.RBot + m.Intn(3+n)}
	}
	k := m.Intn(words)
	return slices.Concat(m.label(n, k), m.label(n, words-1-k), []int{api.RJoin + m.Intn(2)})
}

func (m maker) condition(n, words int) []int {
	if m.Intn(4) == 0 {
		return []int{api.RTrue + m.Intn(2)}
	}
	if words < 2 || m.Intn(2) == 0 {
		return slices.Concat(m.label(n, words/2), m.label(n, words/2), []int{api.RFlows})
	}
	k := m.Intn(words)
	return slices.Concat(m.condition(n, k), m.condition(n, words-1-k), []int{api.RAnd + m.Intn(2)})
}

// table is one that may be.
func (m maker) table() api.Table {
	var t api.Table
	for op := range api.IAll {
		n, _ := table.Arity(op)
		t.Rows = append(t.Rows, api.Row{May: m.condition(n, m.Intn(4)), Res: m.label(n, m.Intn(3)), Pc: m.label(n, m.Intn(3))})
	}
	return t
}

func (m maker) atom(l api.Lattice) api.Atom {
	v := m.Intn(41) - 20
	if m.Intn(2) == 0 {
		v = m.Intn(7)
	}
	return api.Atom{V: v, L: m.Intn(len(l.Up))}
}

func (m maker) instruction(l api.Lattice, op int) api.Instr {
	x := api.Instr{Op: op}
	switch op {
	case api.IPush:
		a := m.atom(l)
		x.N, x.L = a.V, a.L
	case api.IBnz:
		x.N = m.Intn(13)
	case api.ICall:
		x.N = m.Intn(4)
	case api.IReturn:
		x.N = m.Intn(2)
	}
	return x
}

// state is one that may be, mostly with an instruction to do.
func (m maker) state(l api.Lattice) api.State {
	var s api.State
	for range 1 + m.Intn(12) {
		s.Code = append(s.Code, m.instruction(l, m.Intn(api.IAll)))
	}
	s.Pc = api.Atom{V: m.Intn(len(s.Code)), L: m.Intn(len(l.Up))}
	if m.Intn(20) == 0 {
		s.Pc.V = m.Intn(13)
	}
	for range m.Intn(7) {
		s.Mem = append(s.Mem, m.atom(l))
	}
	for range m.some(12) {
		x := m.atom(l)
		if m.Intn(5) == 0 {
			s.Stack = append(s.Stack, api.Slot{Ret: true, V: m.Intn(13), L: x.L})
			continue
		}
		s.Stack = append(s.Stack, api.Slot{V: x.V, L: x.L})
	}
	for range m.some(8) {
		s.Out = append(s.Out, m.atom(l))
	}
	return s
}

// some is as many as may be in one of four cases, for what is too much then.
func (m maker) some(most int) int {
	if m.Intn(4) == 0 {
		return most
	}
	return m.Intn(most + 1)
}

// TestByChance has states, tables and lattices made by chance.
func TestByChance(t *testing.T) {
	m := chance(1)
	count := map[string]int{}
	for _, l := range append(known(), of(31, 18, 28, 24, 16)) {
		for n := range 12000 {
			rules := table.Usual()
			if n%2 == 0 {
				rules = m.table()
			}
			s := m.state(l)
			came := holds(t, l, rules, s)
			if s.Pc.V < len(s.Code) {
				count[comes(s.Code[s.Pc.V].Op, came)]++
			}
		}
	}
	eachComes(t, count, 30)
}

// TestStepByStep has steps follow each other, as far as they are done.
func TestStepByStep(t *testing.T) {
	m := chance(2)
	done := 0
	for range 3000 {
		l, rules := known()[m.Intn(4)], table.Usual()
		if m.Intn(2) == 0 {
			rules = m.table()
		}
		s := m.state(l)
		for range 40 {
			if holds(t, l, rules, s) != api.SStep {
				break
			}
			s, _, _ = step.One(l, rules, s)
			done++
		}
	}
	if done < 1000 {
		t.Error(done)
	}
}

// TestAnyArguments has one thing of a state, or of a table, be any number: what may not be is refused, and all else is as the document's words say.
func TestAnyArguments(t *testing.T) {
	m := chance(3)
	others := []int{-1, 1, 4, 8, 9, 10, 11, 12, 13, 14, -20, 20, -21, 21, math.MinInt, math.MaxInt}
	count := map[api.Errno]int{}
	for range 30000 {
		l, rules := known()[m.Intn(4)], m.table()
		s := m.state(l)
		for _, x := range m.places(&rules, &s) {
			*x = others[m.Intn(len(others))]
		}
		_, want := table.Check(rules)
		if want == api.OK && !state.Right(l, s) {
			want = api.ErrArg
		}
		count[want]++
		if want != api.OK {
			refused(t, l, rules, s, want)
			continue
		}
		holds(t, l, rules, s)
	}
	if count[api.OK] < 1000 || count[api.ErrArg] < 1000 || count[api.ErrArity] < 100 {
		t.Error(count)
	}
}

// places are one number of a table, or of a state, or none.
func (m maker) places(rules *api.Table, s *api.State) []*int {
	var all []*int
	switch m.Intn(3) {
	case 0:
		row := &rules.Rows[m.Intn(api.IAll)]
		for _, r := range [][]int{row.May, row.Res, row.Pc} {
			for i := range r {
				all = append(all, &r[i])
			}
		}
	case 1:
		all = append(all, &s.Pc.V, &s.Pc.L)
		for i := range s.Code {
			all = append(all, &s.Code[i].Op, &s.Code[i].N, &s.Code[i].L)
		}
		for i := range s.Stack {
			all = append(all, &s.Stack[i].V, &s.Stack[i].L)
		}
		for i := range s.Mem {
			all = append(all, &s.Mem[i].V, &s.Mem[i].L)
		}
		for i := range s.Out {
			all = append(all, &s.Out[i].V, &s.Out[i].L)
		}
	default:
		return nil
	}
	return []*int{all[m.Intn(len(all))]}
}
