package equiv_test

import (
	"math/rand"
	"slices"
	"testing"

	"reticent/api"
	"reticent/equiv"
	"reticent/state"
)

// slow is an observer of a lattice, by the document's words. The tests hold the package against it.
type slow struct {
	l api.Lattice
	o int
}

func (w slow) sees(a int) bool { return w.l.Up[a]&(1<<w.o) != 0 }

func (w slow) numbers(a, b api.Atom) bool {
	if a.L != b.L {
		return false
	}
	return !w.sees(a.L) || a.V == b.V
}

func (w slow) atoms(a, b []api.Atom) bool {
	if len(a) == 0 || len(b) == 0 {
		return len(a) == len(b)
	}
	return w.numbers(a[0], b[0]) && w.atoms(a[1:], b[1:])
}

func (w slow) codes(a, b []api.Instr) bool {
	if len(a) == 0 || len(b) == 0 {
		return len(a) == len(b)
	}
	x, y := a[0], b[0]
	alike := x.Op == y.Op && x.L == y.L
	if alike && (x.Op != api.IPush || w.sees(x.L)) {
		alike = x.N == y.N
	}
	return alike && w.codes(a[1:], b[1:])
}

func (w slow) stacks(a, b []api.Slot) bool {
	if len(a) == 0 || len(b) == 0 {
		return len(a) == len(b)
	}
	x, y := a[0], b[0]
	return x.Ret == y.Ret && w.numbers(api.Atom{V: x.V, L: x.L}, api.Atom{V: y.V, L: y.L}) && w.stacks(a[1:], b[1:])
}

// outs passes by what is not seen, as far as there is some ahead.
func (w slow) outs(a, b []api.Atom) bool {
	switch {
	case len(a) > 0 && !w.sees(a[0].L):
		return w.outs(a[1:], b)
	case len(b) > 0 && !w.sees(b[0].L):
		return w.outs(a, b[1:])
	case len(a) == 0 || len(b) == 0:
		return len(a) == len(b)
	}
	return a[0] == b[0] && w.outs(a[1:], b[1:])
}

// crop takes from the top what is none of what stays.
func (w slow) crop(s []api.Slot) []api.Slot {
	if len(s) == 0 {
		return nil
	}
	if top := s[len(s)-1]; top.Ret && w.sees(top.L) {
		return s
	}
	return w.crop(s[:len(s)-1])
}

func (w slow) states(a, b api.State) bool {
	if !w.codes(a.Code, b.Code) || !w.atoms(a.Mem, b.Mem) || !w.outs(a.Out, b.Out) {
		return false
	}
	both := w.sees(a.Pc.L) && w.sees(b.Pc.L) && a.Pc == b.Pc && w.stacks(a.Stack, b.Stack)
	none := !w.sees(a.Pc.L) && !w.sees(b.Pc.L) && w.stacks(w.crop(a.Stack), w.crop(b.Stack))
	return both || none
}

// rows are all rows of up to so many of some things.
func rows[T any](some []T, most int) [][]T {
	all := [][]T{nil}
	for from := 0; most > 0; most-- {
		upto := len(all)
		for _, row := range all[from:upto] {
			for _, x := range some {
				all = append(all, append(slices.Clone(row), x))
			}
		}
		from = upto
	}
	return all
}

// relation holds a call against the document's words for all pairs of some things and each observer, and tells what does not follow: what is alike with itself, the other way round and through a third one, and to the top just what is the same.
func relation[T any](t *testing.T, l api.Lattice, some []T, call func(l api.Lattice, o int, a, b T) (bool, api.Errno), words func(w slow, a, b T) bool, same func(a, b T) bool) {
	t.Helper()
	count := [2]int{}
	for o := range l.Up {
		w := slow{l, o}
		alike := make([][]bool, len(some))
		for i, a := range some {
			alike[i] = make([]bool, len(some))
			for j, b := range some {
				got, e := call(l, o, a, b)
				if want := words(w, a, b); got != want || e != api.OK {
					t.Fatalf("%d: %v and %v: %v %v, want %v", o, a, b, got, e, want)
				}
				if got {
					count[1]++
				} else {
					count[0]++
				}
				if o == len(l.Up)-1 && got != same(a, b) {
					t.Fatalf("the top: %v and %v: %v", a, b, got)
				}
				alike[i][j] = got
			}
		}
		follows(t, some, alike)
	}
	if count[0] < 50 || count[1] < 50 {
		t.Error(count)
	}
}

// follows has two that are alike be alike with the same ones, so that it is enough to hold the rows of the first one.
func follows[T any](t *testing.T, some []T, alike [][]bool) {
	t.Helper()
	for i := range some {
		if !alike[i][i] {
			t.Fatalf("%v is not alike with itself", some[i])
		}
		for j := range some {
			if alike[i][j] && !slices.Equal(alike[i], alike[j]) {
				t.Fatalf("%v and %v are alike, but not with the same ones", some[i], some[j])
			}
		}
	}
}

// everyAtom are all of two numbers.
func everyAtom(l api.Lattice) []api.Atom {
	var all []api.Atom
	for a := range l.Up {
		all = append(all, api.Atom{V: 0, L: a}, api.Atom{V: 1, L: a})
	}
	return all
}

func everySlot(l api.Lattice) []api.Slot {
	var all []api.Slot
	for _, x := range everyAtom(l) {
		all = append(all, api.Slot{V: x.V, L: x.L}, api.Slot{Ret: true, V: x.V, L: x.L})
	}
	return all
}

func everyInstruction(l api.Lattice, ops ...int) []api.Instr {
	var all []api.Instr
	for _, x := range everyAtom(l) {
		for _, op := range ops {
			all = append(all, api.Instr{Op: op, N: x.V, L: x.L})
		}
	}
	return all
}

// TestSmallRows has all rows of up to so many things; in both lattices the last label is the top.
func TestSmallRows(t *testing.T) {
	chain, diamond := made(t, "chain", 2), made(t, "diamond", 2)
	for _, x := range []struct {
		l           api.Lattice
		atoms, rest int
	}{{chain, 4, 2}, {diamond, 2, 1}} {
		relation(t, x.l, rows(everyAtom(x.l), x.atoms), equiv.Atoms, slow.atoms, slices.Equal)
		relation(t, x.l, rows(everyAtom(x.l), x.atoms), equiv.Outs, slow.outs, slices.Equal)
		relation(t, x.l, rows(everySlot(x.l), x.rest), equiv.Stacks, slow.stacks, slices.Equal)
		relation(t, x.l, rows(everyInstruction(x.l, api.INoop, api.IPush, api.ICall), x.rest), equiv.Codes, slow.codes, slices.Equal)
	}
}

// TestSmallStates has all of up to two of these slots, at each of two places of each label.
func TestSmallStates(t *testing.T) {
	for _, l := range []api.Lattice{made(t, "chain", 2), made(t, "diamond", 2)} {
		top := len(l.Up) - 1
		var all []api.State
		for _, stack := range rows([]api.Slot{{Ret: true}, {Ret: true, V: 1, L: top}, {V: 1, L: top}, {Ret: true, V: 1, L: 1}}, 2) {
			for _, pc := range everyAtom(l) {
				all = append(all, api.State{Pc: pc, Stack: stack})
			}
		}
		relation(t, l, all, equiv.States, slow.states, state.Like)
	}
}

// TestCropped has all stacks of up to four slots.
func TestCropped(t *testing.T) {
	count := map[int]int{}
	l := made(t, "chain", 2)
	for o := range l.Up {
		for _, s := range rows(everySlot(l), 4) {
			got, e := equiv.Crop(l, o, s)
			if want := (slow{l, o}).crop(s); !slices.Equal(got, want) || e != api.OK {
				t.Fatalf("%d: %v: %v %v, want %v", o, s, got, e, want)
			}
			count[len(got)]++
		}
	}
	for n := range 5 {
		if count[n] < 100 {
			t.Error(count)
		}
	}
}

// maker makes things by chance, that is the same each time.
type maker struct{ *rand.Rand }

func (m maker) label(l api.Lattice) int { return m.Intn(len(l.Up)) }

func (m maker) atoms(l api.Lattice, most int) []api.Atom {
	var row []api.Atom
	for range m.Intn(most + 1) {
		row = append(row, api.Atom{V: m.Intn(5) - 2, L: m.label(l)})
	}
	return row
}

func (m maker) state(l api.Lattice) api.State {
	s := api.State{Pc: api.Atom{V: m.Intn(3), L: m.label(l)}, Mem: m.atoms(l, 6), Out: m.atoms(l, 8)}
	for range m.Intn(13) {
		s.Code = append(s.Code, api.Instr{Op: m.Intn(api.IAll), N: m.Intn(3), L: m.label(l)})
	}
	for range m.Intn(13) {
		s.Stack = append(s.Stack, api.Slot{Ret: m.Intn(3) == 0, V: m.Intn(3), L: m.label(l)})
	}
	return s
}

// near is a state that often is alike with another one: little that is seen of it is changed, and all else where it may be. What goes on above where a machine that is not seen goes back may be anything, and what it puts out there, too.
func (m maker) near(w slow, s api.State) api.State {
	hidden := func(a int) bool { return !w.sees(a) || m.Intn(60) == 0 }
	then := api.State{Pc: s.Pc, Code: slices.Clone(s.Code), Mem: slices.Clone(s.Mem), Stack: slices.Clone(s.Stack)}
	for i, x := range then.Code {
		if hidden(x.L) && (x.Op == api.IPush || m.Intn(60) == 0) {
			then.Code[i].N = m.Intn(5)
		}
	}
	for i, x := range then.Mem {
		if hidden(x.L) {
			then.Mem[i].V = m.Intn(5)
		}
	}
	if hidden(s.Pc.L) {
		then.Pc = api.Atom{V: m.Intn(3), L: m.label(w.l)}
		then.Stack = append(slices.Clone(w.crop(s.Stack)), api.Slot{Ret: m.Intn(9) == 0, V: m.Intn(3), L: m.label(w.l)})
	}
	for i, x := range then.Stack {
		if hidden(x.L) {
			then.Stack[i].V = m.Intn(5)
		}
	}
	for _, x := range s.Out {
		if !hidden(x.L) {
			then.Out = append(then.Out, x)
		}
		if a := m.label(w.l); hidden(a) {
			then.Out = append(then.Out, api.Atom{V: m.Intn(5), L: a})
		}
	}
	return then
}

// TestByChance has states of several lattices, alike and not, with a third one that is near the second one.
func TestByChance(t *testing.T) {
	m := maker{rand.New(rand.NewSource(1))}
	count := map[bool]int{}
	through := 0
	lattices := []api.Lattice{made(t, "chain", 1), made(t, "chain", 3), made(t, "diamond", 3), made(t, "power", 3)}
	for range 20000 {
		l := lattices[m.Intn(len(lattices))]
		w := slow{l, m.label(l)}
		a := m.state(l)
		b := m.near(w, a)
		c := m.near(w, b)
		ab, bc, ac := w.states(a, b), w.states(b, c), w.states(a, c)
		is(t, equiv.States, l, w.o, a, a, true)
		is(t, equiv.States, l, w.o, a, b, ab)
		is(t, equiv.States, l, w.o, b, c, bc)
		is(t, equiv.States, l, w.o, a, c, ac)
		if ab && bc {
			through++
			is(t, equiv.States, l, w.o, a, c, true)
		}
		is(t, equiv.Atoms, l, w.o, a.Mem, b.Mem, w.atoms(a.Mem, b.Mem))
		is(t, equiv.Codes, l, w.o, a.Code, b.Code, w.codes(a.Code, b.Code))
		is(t, equiv.Stacks, l, w.o, a.Stack, b.Stack, w.stacks(a.Stack, b.Stack))
		is(t, equiv.Outs, l, w.o, a.Out, b.Out, w.outs(a.Out, b.Out))
		if got, e := equiv.Crop(l, w.o, a.Stack); !slices.Equal(got, w.crop(a.Stack)) || e != api.OK {
			t.Errorf("%d: %v: %v %v", w.o, a.Stack, got, e)
		}
		count[ab]++
	}
	if count[true] < 3000 || count[false] < 3000 || through < 2000 {
		t.Error(count, through)
	}
}
