package state_test

import (
	"fmt"
	"math"
	"math/rand"
	"slices"
	"strings"
	"testing"

	"reticent/api"
	"reticent/code"
	"reticent/lattice"
	"reticent/lex"
	"reticent/state"
)

// fault is why tokens tell no state, and where.
type fault struct {
	at int
	e  api.Errno
}

// slowFrom is what the document's words say: the first thing that is wrong is thrown. All things are read as slots, and told apart behind that. The tests hold the package against it.
func slowFrom(l api.Lattice, toks []api.Tok, i int) (s api.State, at int, e api.Errno) {
	if e := lattice.Check(l); e != api.OK {
		return s, 0, e
	}
	if i < 0 || i >= len(toks) || toks[len(toks)-1].Kind != api.TEnd {
		return s, 0, api.ErrArg
	}
	defer func() {
		switch f := recover().(type) {
		case nil:
		case fault:
			s, at, e = api.State{}, f.at, f.e
		default:
			panic(f)
		}
	}()
	at = i
	need := func(ok bool, e api.Errno) {
		if !ok {
			panic(fault{at, e})
		}
	}
	quoted := func(text string) bool {
		kind := api.TWord
		if strings.Contains("-@;,", text) {
			kind = api.TMark
		}
		return toks[at] == api.Tok{Kind: kind, Text: text, At: toks[at].At}
	}
	take := func(text string) {
		need(quoted(text), api.ErrSyntax)
		at++
	}
	thing := func(ret bool) (x api.Slot) {
		if x.Ret = ret && quoted("ret"); x.Ret {
			at++
		}
		less := quoted("-")
		if less {
			at++
		}
		need(toks[at].Kind == api.TNum && len(toks[at].Text) <= 4, api.ErrSyntax)
		for _, c := range []byte(toks[at].Text) {
			x.V = 10*x.V + int(c&15)
		}
		if less {
			x.V = 0 - x.V
		}
		at++
		take("@")
		need(toks[at].Kind == api.TWord, api.ErrSyntax)
		x.L = slices.Index(l.Names, toks[at].Text)
		need(x.L >= 0, api.ErrName)
		at++
		return x
	}
	row := func(word string, most int) (all []api.Slot) {
		take(word)
		for more := !quoted(";"); more; {
			need(len(all) < most, api.ErrMany)
			all = append(all, thing(word == "stack"))
			if more = quoted(","); more {
				at++
			}
		}
		take(";")
		return all
	}
	take("pc")
	s.Pc = atoms(thing(false))[0]
	take(";")
	take("code")
	if s.Code, at, e = code.From(l, toks, at); e != api.OK {
		return api.State{}, at, e
	}
	s.Mem = atoms(row("mem", 6)...)
	s.Stack = row("stack", 12)
	s.Out = atoms(row("out", 8)...)
	if !slowRight(l, s) {
		return api.State{}, i, api.ErrArg
	}
	return s, at, api.OK
}

func atoms(all ...api.Slot) (l []api.Atom) {
	for _, x := range all {
		l = append(l, api.Atom{V: x.V, L: x.L})
	}
	return l
}

func slowParse(l api.Lattice, s string) (api.State, int, api.Errno) {
	if e := lattice.Check(l); e != api.OK {
		return api.State{}, 0, e
	}
	toks, at, e := lex.Lex(s)
	if e != api.OK {
		return api.State{}, at, e
	}
	x, i, e := slowFrom(l, toks, 0)
	if e != api.OK {
		return api.State{}, toks[i].At, e
	}
	if i != len(toks)-1 {
		return api.State{}, toks[i].At, api.ErrSyntax
	}
	return x, 0, api.OK
}

func slowRight(l api.Lattice, s api.State) bool {
	all := append([]api.Slot{{Ret: true, V: s.Pc.V, L: s.Pc.L}}, s.Stack...)
	for _, x := range slices.Concat(s.Mem, s.Out) {
		all = append(all, api.Slot{V: x.V, L: x.L})
	}
	for _, x := range all {
		low, high := -20, 20
		if x.Ret {
			low, high = 0, 12
		}
		if x.V < low || x.V > high || x.L < 0 || x.L > len(l.Names)-1 {
			return false
		}
	}
	return code.Right(l, s.Code) && len(s.Mem) <= 6 && len(s.Stack) <= 12 && len(s.Out) <= 8
}

// slowText is for a state that may be.
func slowText(l api.Lattice, s api.State) string {
	one := func(v, a int) string {
		return strings.ReplaceAll(fmt.Sprintf("%d @ %s", v, l.Names[a]), "-", "- ")
	}
	var mem, stack, out []string
	for _, x := range s.Mem {
		mem = append(mem, one(x.V, x.L))
	}
	for _, x := range s.Stack {
		stack = append(stack, map[bool]string{true: "ret "}[x.Ret]+one(x.V, x.L))
	}
	for _, x := range s.Out {
		out = append(out, one(x.V, x.L))
	}
	program, _ := code.Text(l, s.Code)
	text := "pc " + one(s.Pc.V, s.Pc.L) + " ;\ncode " + program + "\nmem " + strings.Join(mem, " , ") + " ;\nstack " + strings.Join(stack, " , ") + " ;\nout " + strings.Join(out, " , ") + " ;\n"
	return strings.NewReplacer("code \n", "code\n", "  ", " ").Replace(text)
}

// holds tells tokens of which something else is told than the document's words say.
func holds(t *testing.T, l api.Lattice, toks []api.Tok, i int) api.Errno {
	t.Helper()
	got, at, e := state.From(l, toks, i)
	want, k, f := slowFrom(l, toks, i)
	if e != f || at != k || !state.Like(got, want) || e != api.OK && !isNone(got) {
		t.Fatalf("%v, %d: %v %d %v, want %v %d %v", toks, i, got, at, e, want, k, f)
	}
	if e == api.OK && !state.Right(l, got) {
		t.Fatalf("%v, %d: %v may not be", toks, i, got)
	}
	return e
}

// holdsText tells a text that is not read as the document's words say.
func holdsText(t *testing.T, l api.Lattice, s string) api.Errno {
	t.Helper()
	got, at, e := state.Parse(l, s)
	want, k, f := slowParse(l, s)
	if e != f || at != k || !state.Like(got, want) || e != api.OK && !isNone(got) {
		t.Fatalf("%q: %v %d %v, want %v %d %v", s, got, at, e, want, k, f)
	}
	if e == api.OK && !state.Right(l, got) {
		t.Fatalf("%q: %v may not be", s, got)
	}
	return e
}

// eachHappens tells errors of which too few were seen.
func eachHappens(t *testing.T, count map[api.Errno]int, least int) {
	t.Helper()
	for _, e := range []api.Errno{api.OK, api.ErrArg, api.ErrSyntax, api.ErrName, api.ErrMany} {
		if count[e] < least {
			t.Error(e, count)
		}
	}
}

// TestFewTokens has all rows of up to three of these tokens behind begun states, with and without an end.
func TestFewTokens(t *testing.T) {
	few := tokens("pc code mem stack out ret halt - @ , ; 2 21 00000 b none")
	few = append(few, api.Tok{Kind: api.TMark, Text: "mem"}, api.Tok{Kind: api.TWord, Text: ";"})
	var all func(l []api.Tok, more int)
	all = func(l []api.Tok, more int) {
		holds(t, diamond, l, 0)
		holds(t, diamond, append(l, api.Tok{}), 0)
		if more == 0 {
			return
		}
		for _, x := range few {
			all(append(l, x), more-1)
		}
	}
	for _, s := range []string{
		"", "pc", "pc 2", "pc 21 @ a", "pc 0 @ a ;", "pc 0 @ a ; code", "pc 0 @ a ; code halt ;", "pc 0 @ a ; code mem", "pc 0 @ a ; code mem 1 @ b", "pc 0 @ a ; code mem " + times(5, "1 @ a , ") + "1 @ a",
		"pc 0 @ a ; code mem ; stack", "pc 0 @ a ; code mem ; stack ret 1", "pc 0 @ a ; code mem ; stack 1 @ c ,", "pc 0 @ a ; code mem ; stack " + times(11, "ret 1 @ a , ") + "1 @ a",
		"pc 0 @ a ; code mem ; stack ; out", "pc 0 @ a ; code mem ; stack ; out - 20 @", "pc 0 @ a ; code mem ; stack ; out " + times(7, "1 @ a , ") + "1 @ a", "pc 13 @ a ; code mem ; stack ; out", noneText,
	} {
		l := tokens(s)
		all(append(make([]api.Tok, 0, 100), l[:len(l)-1]...), 3)
	}
}

// TestEachTokenChanged has a state's text without each token, with each one twice, and with another one there.
func TestEachTokenChanged(t *testing.T) {
	s := some()
	s.Mem = append(s.Mem, make([]api.Atom, 4)...)
	s.Out = append(s.Out, make([]api.Atom, 5)...)
	text, _ := state.Text(diamond, s)
	words := strings.Fields(text)
	count := map[api.Errno]int{}
	for i := range words {
		count[holdsText(t, diamond, strings.Join(slices.Delete(slices.Clone(words), i, i+1), " "))]++
		count[holdsText(t, diamond, strings.Join(slices.Insert(slices.Clone(words), i, words[i]), " "))]++
		count[holdsText(t, diamond, strings.Join(words[:i], " "))]++
		for _, x := range []string{
			":", ";", ",", "@", "-", "- 1", "0", "1", "4", "13", "21", "9999", "00001", "10000", "b", "e", "pc", "code", "mem", "stack", "out", "ret", "ret 1", "halt", "halt ;", "none", "&", ", 1 @ a", ", ret 1 @ a", "1 @ a ,", "; out",
		} {
			other := slices.Clone(words)
			other[i] = x
			count[holdsText(t, diamond, strings.Join(other, " "))]++
			count[holdsText(t, diamond, strings.Join(slices.Insert(slices.Clone(words), i, x), " "))]++
		}
	}
	eachHappens(t, count, 10)
}

// maker makes things by chance, that is the same each time.
type maker struct{ *rand.Rand }

func chance(seed int64) maker { return maker{rand.New(rand.NewSource(seed))} }

func (m maker) atom(l api.Lattice) api.Atom {
	return api.Atom{V: m.Intn(41) - 20, L: m.Intn(len(l.Up))}
}

func (m maker) place(l api.Lattice) api.Atom {
	return api.Atom{V: m.Intn(13), L: m.Intn(len(l.Up))}
}

func (m maker) instruction(l api.Lattice) api.Instr {
	switch op := m.Intn(14); op {
	case api.IPush, 13:
		x := m.atom(l)
		return api.Instr{Op: api.IPush, N: x.V, L: x.L}
	case api.IBnz:
		return api.Instr{Op: op, N: m.Intn(13)}
	case api.ICall:
		return api.Instr{Op: op, N: m.Intn(4)}
	case api.IReturn:
		return api.Instr{Op: op, N: m.Intn(2)}
	default:
		return api.Instr{Op: op}
	}
}

// state is one that may be, of as much of all as may be at most.
func (m maker) state(l api.Lattice) api.State {
	s := api.State{Pc: m.place(l)}
	for range m.Intn(13) {
		s.Code = append(s.Code, m.instruction(l))
	}
	for range m.Intn(7) {
		s.Mem = append(s.Mem, m.atom(l))
	}
	for range m.Intn(13) {
		ret := m.Intn(3) == 0
		x := m.atom(l)
		if ret {
			x = m.place(l)
		}
		s.Stack = append(s.Stack, api.Slot{Ret: ret, V: x.V, L: x.L})
	}
	for range m.Intn(9) {
		s.Out = append(s.Out, m.atom(l))
	}
	return s
}

func TestWrittenIsRead(t *testing.T) {
	m := chance(1)
	for _, l := range known() {
		for range 3000 {
			s := m.state(l)
			text, e := state.Text(l, s)
			if want := slowText(l, s); text != want || e != api.OK {
				t.Fatalf("%v: %q %v, want %q", s, text, e, want)
			}
			toks := tokens(text)
			if got, at, e := state.From(l, toks, 0); !state.Like(got, s) || at != len(toks)-1 || e != api.OK {
				t.Fatalf("%q: %v %d %v, want %v", text, got, at, e, s)
			}
			if len(toks) > 200 {
				failsAt(t, l, text, 0, api.ErrMany)
				continue
			}
			reads(t, l, text, s)
			reads(t, l, lex.Join(toks), s)
			reads(t, l, strings.NewReplacer(" ;", ";", " @ ", "@", "- ", "-", " ,", ",").Replace(text), s)
		}
	}
}

// TestRightByChance has some numbers of states be changed, and some rows be longer.
func TestRightByChance(t *testing.T) {
	m := chance(2)
	others := []int{-1, 1, 4, 8, 12, 13, -20, 20, -21, 21, math.MinInt, math.MaxInt}
	count := map[bool]int{}
	for _, l := range known() {
		for range 10000 {
			s := m.state(l)
			all := []*int{&s.Pc.V, &s.Pc.L}
			for i := range s.Code {
				all = append(all, &s.Code[i].Op, &s.Code[i].N, &s.Code[i].L)
			}
			for i := range s.Mem {
				all = append(all, &s.Mem[i].V, &s.Mem[i].L)
			}
			for i := range s.Stack {
				all = append(all, &s.Stack[i].V, &s.Stack[i].L)
			}
			for i := range s.Out {
				all = append(all, &s.Out[i].V, &s.Out[i].L)
			}
			for range m.Intn(3) {
				*all[m.Intn(len(all))] = others[m.Intn(len(others))]
			}
			switch m.Intn(12) {
			case 0:
				s.Code = append(s.Code, s.Code...)
			case 1:
				s.Mem = append(s.Mem, s.Mem...)
			case 2:
				s.Stack = append(s.Stack, s.Stack...)
			case 3:
				s.Out = append(s.Out, s.Out...)
			case 4:
				for i := range s.Stack {
					s.Stack[i].Ret = !s.Stack[i].Ret
				}
			}
			is := slowRight(l, s)
			count[is]++
			right(t, l, s, is)
			if text, _ := state.Text(l, s); is && text != slowText(l, s) {
				t.Fatal(l, s, text)
			}
		}
	}
	if count[true] < 10000 || count[false] < 10000 {
		t.Error(count)
	}
}

// TestReadByChance has rows of tokens of any kind and text, from any place on.
func TestReadByChance(t *testing.T) {
	m := chance(3)
	texts := strings.Fields("pc code mem stack out ret halt push - @ , ; 1 12 13 20 21 0012 00012 a b z e none ? \xff \x00")
	texts = append(texts, "", "\n")
	count := map[api.Errno]int{}
	for range 100000 {
		l := known()[m.Intn(5)]
		text, _ := state.Text(l, m.state(l))
		if m.Intn(4) == 0 {
			text, _ = state.Text(l, api.State{})
		}
		toks := tokens(text)
		if m.Intn(5) == 0 {
			toks = append(toks[:len(toks)-1], toks...)
		}
		for range m.Intn(3) {
			i := m.Intn(len(toks) - 1)
			switch m.Intn(6) {
			case 0:
				toks[i].Kind = m.Intn(6) - 1
			case 1:
				toks = slices.Insert(toks, i, toks[m.Intn(len(toks))])
			case 2:
				toks = slices.Concat(toks[:i], tokens(", ret 1 @ a")[m.Intn(2):5], toks[i:])
			case 3:
				// As many as may be are easily too many.
				toks = slices.Concat(toks[:i], slices.Repeat(tokens(", 1 @ a")[:4], m.Intn(14)), toks[i:])
			default:
				toks[i].Text = texts[m.Intn(len(texts))]
			}
		}
		if m.Intn(20) == 0 {
			toks[len(toks)-1].Kind = m.Intn(4)
		}
		i := 0
		if m.Intn(4) == 0 {
			i = m.Intn(len(toks)+3) - 1
		}
		count[holds(t, l, toks, i)]++
	}
	eachHappens(t, count, 100)
}

// TestTextsByChance has written states be changed by chance: what is still read is written, and read as the same again.
func TestTextsByChance(t *testing.T) {
	m := chance(4)
	others := strings.Fields("pc code mem stack out ret halt - @ , ; : 1 2 12 13 20 21 0012 00012 a b c none & #")
	count := map[api.Errno]int{}
	for range 50000 {
		l := known()[m.Intn(5)]
		text, _ := state.Text(l, m.state(l))
		words := append(strings.Fields(text), "\n")
		for range m.Intn(4) {
			i := m.Intn(len(words))
			switch m.Intn(6) {
			case 0:
				words = append(slices.Delete(words, i, i+1), "\n")
			case 1:
				words = slices.Insert(words, i, others[m.Intn(len(others))])
			case 2:
				words = slices.Insert(words, i, strings.Fields(times(m.Intn(14), ", 1 @ a "))...)
			default:
				words[i] = others[m.Intn(len(others))]
			}
		}
		s := strings.Join(words, " ")
		e := holdsText(t, l, s)
		count[e]++
		if e != api.OK {
			continue
		}
		x, _, _ := state.Parse(l, s)
		again, e := state.Text(l, x)
		if e != api.OK {
			t.Fatal(s, e)
		}
		if len(strings.Fields(again)) < 200 {
			reads(t, l, again, x)
		}
	}
	eachHappens(t, count, 20)
}

// TestAnyText has texts of any bytes by chance, alone and within a state's text.
func TestAnyText(t *testing.T) {
	m := chance(5)
	bytes := "pcodemstackutr ;;,@@-019ab#\n&\x00\xff"
	for range 100000 {
		s := make([]byte, m.Intn(8))
		for i := range s {
			s[i] = bytes[m.Intn(len(bytes))]
		}
		holdsText(t, diamond, string(s))
		i := m.Intn(len(someText) + 1)
		holdsText(t, diamond, someText[:i]+string(s)+someText[i:])
	}
}
