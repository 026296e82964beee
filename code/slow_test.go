package code_test

import (
	"math"
	"math/rand"
	"slices"
	"strconv"
	"strings"
	"testing"

	"reticent/api"
	"reticent/code"
	"reticent/lattice"
	"reticent/lex"
)

// slowFrom is what the document's words say, told by the forms of the instructions, piece by piece; the tests hold the package against it.
func slowFrom(l api.Lattice, toks []api.Tok, i int) ([]api.Instr, int, api.Errno) {
	if e := lattice.Check(l); e != api.OK {
		return nil, 0, e
	}
	if i < 0 || i >= len(toks) || toks[len(toks)-1].Kind != api.TEnd {
		return nil, 0, api.ErrArg
	}
	var p []api.Instr
	for {
		op := slices.IndexFunc(told, func(x form) bool {
			return toks[i].Kind == api.TWord && strings.Fields(x.form)[0] == toks[i].Text
		})
		if op < 0 {
			return p, i, api.OK
		}
		if len(p) == 12 {
			return nil, i, api.ErrMany
		}
		begin := i
		x := api.Instr{Op: op}
		i++
		for _, due := range strings.Fields(told[op].form)[1:] {
			switch here := toks[i]; due {
			case "NUMBER":
				less := here == api.Tok{Kind: api.TMark, Text: "-", At: here.At}
				if less {
					i++
				}
				if toks[i].Kind != api.TNum || len(toks[i].Text) > 4 {
					return nil, i, api.ErrSyntax
				}
				for k, weight := len(toks[i].Text)-1, 1; k >= 0; k, weight = k-1, weight*10 {
					x.N += int(toks[i].Text[k]&15) * weight
				}
				if less {
					x.N = 0 - x.N
				}
			case "NAME":
				if here.Kind != api.TWord {
					return nil, i, api.ErrSyntax
				}
				if x.L = slices.Index(l.Names, here.Text); x.L < 0 {
					return nil, i, api.ErrName
				}
			default:
				if here.Kind != api.TMark || here.Text != due {
					return nil, i, api.ErrSyntax
				}
			}
			i++
		}
		if x.N < told[op].low || x.N > told[op].high {
			return nil, begin, api.ErrArg
		}
		p = append(p, x)
	}
}

func slowParse(l api.Lattice, s string) ([]api.Instr, int, api.Errno) {
	if e := lattice.Check(l); e != api.OK {
		return nil, 0, e
	}
	toks, at, e := lex.Lex(s)
	if e != api.OK {
		return nil, at, e
	}
	p, i, e := slowFrom(l, toks, 0)
	if e != api.OK {
		return nil, toks[i].At, e
	}
	if i != len(toks)-1 {
		return nil, toks[i].At, api.ErrSyntax
	}
	return p, 0, api.OK
}

func slowRight(l api.Lattice, p []api.Instr) bool {
	for _, x := range p {
		if x.Op < 0 || x.Op > 12 || x.N < told[x.Op].low || x.N > told[x.Op].high {
			return false
		}
		if x.L != 0 && (x.Op != 1 || x.L < 0 || x.L >= len(l.Names)) {
			return false
		}
	}
	return len(p) <= 12
}

// slowText is for a program that may be.
func slowText(l api.Lattice, p []api.Instr) string {
	var all []string
	for _, x := range p {
		n := strings.Replace(strconv.Itoa(x.N), "-", "- ", 1)
		all = append(all, strings.NewReplacer("NUMBER", n, "NAME", l.Names[x.L]).Replace(told[x.Op].form))
	}
	return strings.Join(all, " ")
}

// holds tells tokens of which something else is told than the document's words say.
func holds(t *testing.T, l api.Lattice, toks []api.Tok, i int) api.Errno {
	t.Helper()
	got, at, e := code.From(l, toks, i)
	want, k, f := slowFrom(l, toks, i)
	if e != f || at != k || !slices.Equal(got, want) || e != api.OK && len(got) != 0 {
		t.Fatalf("%v, %d: %v %d %v, want %v %d %v", toks, i, got, at, e, want, k, f)
	}
	if e == api.OK && !code.Right(l, got) {
		t.Fatalf("%v, %d: %v may not be", toks, i, got)
	}
	return e
}

// holdsText tells a text that is not read as the document's words say.
func holdsText(t *testing.T, l api.Lattice, s string) api.Errno {
	t.Helper()
	got, at, e := code.Parse(l, s)
	want, k, f := slowParse(l, s)
	if e != f || at != k || !slices.Equal(got, want) || e != api.OK && len(got) != 0 {
		t.Fatalf("%q: %v %d %v, want %v %d %v", s, got, at, e, want, k, f)
	}
	if e == api.OK && !code.Right(l, got) {
		t.Fatalf("%q: %v may not be", s, got)
	}
	return e
}

// TestFewTokens has all rows of up to four of these tokens, and of up to three behind begun instructions, with and without an end.
func TestFewTokens(t *testing.T) {
	some := tokens("noop push call - @ ; 2 21 00000 b none")
	some = append(some, api.Tok{Kind: api.TMark, Text: "push"})
	var all func(l []api.Tok, i, more int)
	all = func(l []api.Tok, i, more int) {
		holds(t, diamond, l, i)
		holds(t, diamond, append(l, api.Tok{}), i)
		if more == 0 {
			return
		}
		for _, x := range some {
			all(append(l, x), i, more-1)
		}
	}
	all(make([]api.Tok, 0, 9), 0, 4)
	for _, s := range []string{"push", "push -", "push 2", "push - 21 @", "push 2 @ a", "return", "return 1", "noop ; push 2 @ b ;"} {
		l := tokens(s)
		all(append(make([]api.Tok, 0, 20), l[:len(l)-1]...), 0, 3)
	}
	most := tokens(times(12, "halt ; "))
	for more := range 3 {
		all(append(make([]api.Tok, 0, 40), most[:len(most)-1]...), 0, more)
	}
}

// TestFewPieces has all texts of up to four pieces.
func TestFewPieces(t *testing.T) {
	some := []string{"noop", "push", "return ", "a", "none", "1", "20", "00000", "- ", "@", ";", "# ;\n", "&"}
	count := map[api.Errno]int{}
	var all func(s string, more int)
	all = func(s string, more int) {
		count[holdsText(t, diamond, s)]++
		if more == 0 {
			return
		}
		for _, x := range some {
			all(s+x, more-1)
		}
	}
	all("", 4)
	for _, s := range []string{"push 1 ", "push - 20 @ a", "push 99 @", "return 2"} {
		all(s, 3)
	}
	for _, e := range []api.Errno{api.OK, api.ErrArg, api.ErrSyntax, api.ErrName} {
		if count[e] == 0 {
			t.Error(e, count)
		}
	}
}

// TestEachTokenChanged has a program's text without each token, with each one twice, and with another one there.
func TestEachTokenChanged(t *testing.T) {
	words := strings.Fields("noop ; push - 20 @ a ; push 7 @ d ; pop ; add ; load ; jump ; bnz 12 ; call 3 ; return 1 ; output ; halt ;")
	count := map[api.Errno]int{}
	for i := range words {
		count[holdsText(t, diamond, strings.Join(slices.Delete(slices.Clone(words), i, i+1), " "))]++
		count[holdsText(t, diamond, strings.Join(slices.Insert(slices.Clone(words), i, words[i]), " "))]++
		count[holdsText(t, diamond, strings.Join(words[:i], " "))]++
		for _, x := range []string{
			":", ";", "@", "-", "- 1", "0", "1", "4", "13", "21", "9999", "00001", "10000", "b", "e", "push", "halt", "store", "none", "&", "; noop", "noop ;", "store ; sub ;", "push 1 @ a ;",
		} {
			other := slices.Clone(words)
			other[i] = x
			count[holdsText(t, diamond, strings.Join(other, " "))]++
		}
	}
	for _, e := range []api.Errno{api.OK, api.ErrArg, api.ErrSyntax, api.ErrName, api.ErrMany} {
		if count[e] == 0 {
			t.Error(e, count)
		}
	}
}

// maker makes things by chance, that is the same each time.
type maker struct{ *rand.Rand }

func chance(seed int64) maker { return maker{rand.New(rand.NewSource(seed))} }

// program is one that may be.
func (m maker) program(l api.Lattice) []api.Instr {
	p := make([]api.Instr, m.Intn(13))
	for i := range p {
		op := m.Intn(13)
		if m.Intn(3) == 0 {
			op = api.IPush
		}
		p[i] = api.Instr{Op: op, N: told[op].low + m.Intn(told[op].high-told[op].low+1)}
		if op == api.IPush {
			p[i].L = m.Intn(len(l.Up))
		}
	}
	return p
}

// TestWrittenIsRead has each instruction that may be, and programs by chance.
func TestWrittenIsRead(t *testing.T) {
	same := func(l api.Lattice, p []api.Instr) {
		t.Helper()
		text, e := code.Text(l, p)
		if want := slowText(l, p); text != want || e != api.OK {
			t.Fatalf("%v: %q %v, want %q", p, text, e, want)
		}
		reads(t, l, text, p)
		toks, _, _ := lex.Lex(text)
		reads(t, l, lex.Join(toks), p)
		reads(t, l, strings.ReplaceAll(text, " ", ""), p)
		got, at, e := code.From(l, toks, 0)
		if !slices.Equal(got, p) || at != len(toks)-1 || e != api.OK || !code.Like(got, p) {
			t.Fatalf("%q: %v %d %v, want %v", text, got, at, e, p)
		}
	}
	for _, l := range known() {
		for op, x := range told {
			for n := x.low; n <= x.high; n++ {
				same(l, []api.Instr{{Op: op, N: n}})
				same(l, slices.Repeat([]api.Instr{{Op: op, N: n}}, 12))
			}
		}
		for a := range l.Up {
			for n := -20; n <= 20; n++ {
				same(l, []api.Instr{{Op: 1, N: n, L: a}})
				same(l, slices.Repeat([]api.Instr{{Op: 1, N: n, L: a}}, 12))
			}
		}
		m := chance(1)
		for range 2000 {
			same(l, m.program(l))
		}
	}
}

// TestRightByChance has some numbers of programs be changed.
func TestRightByChance(t *testing.T) {
	m := chance(2)
	strange := []int{-1, 1, 4, 8, 13, -20, 20, -21, 21, math.MinInt, math.MaxInt}
	count := map[bool]int{}
	for _, l := range known() {
		for range 10000 {
			p := m.program(l)
			for range m.Intn(3) {
				if len(p) > 0 {
					x := &p[m.Intn(len(p))]
					*[]*int{&x.Op, &x.N, &x.L}[m.Intn(3)] = strange[m.Intn(len(strange))]
				}
			}
			if m.Intn(10) == 0 {
				p = append(p, p...)
			}
			is := slowRight(l, p)
			count[is]++
			if got := code.Right(l, p); got != is {
				t.Fatal(l, p, got)
			}
			text, e := code.Text(l, p)
			switch {
			case is && (text != slowText(l, p) || e != api.OK):
				t.Fatal(l, p, text, e)
			case !is && (text != "" || e != api.ErrArg):
				t.Fatal(l, p, text, e)
			}
		}
	}
	if count[true] < 10000 || count[false] < 10000 {
		t.Error(count)
	}
}

// TestReadByChance has rows of tokens of any kind and text, from any place on.
func TestReadByChance(t *testing.T) {
	m := chance(3)
	texts := strings.Fields("noop push bnz call return halt - @ ; 1 2 12 20 21 0012 00012 a b push z e ? \xff \x00")
	texts = append(texts, "", "\n")
	count := map[api.Errno]int{}
	for range 200000 {
		l := known()[m.Intn(5)]
		var toks []api.Tok
		if m.Intn(2) == 0 {
			text, _ := code.Text(l, m.program(l))
			toks, _, _ = lex.Lex(text)
			if m.Intn(5) == 0 {
				toks = append(toks[:len(toks)-1], toks...)
			}
		} else {
			toks = make([]api.Tok, m.Intn(12))
			for i := range toks {
				toks[i] = api.Tok{Kind: m.Intn(4), Text: texts[m.Intn(len(texts))], At: m.Intn(9)}
			}
		}
		for range m.Intn(3) {
			if len(toks) > 1 {
				x := &toks[m.Intn(len(toks)-1)]
				if m.Intn(4) == 0 {
					x.Kind = m.Intn(6) - 1
				} else {
					x.Text = texts[m.Intn(len(texts))]
				}
			}
		}
		if m.Intn(10) > 0 {
			toks = append(toks, api.Tok{})
		}
		i := 0
		if m.Intn(2) == 0 {
			i = m.Intn(len(toks)+3) - 1
		}
		count[holds(t, l, toks, i)]++
	}
	for _, e := range []api.Errno{api.OK, api.ErrArg, api.ErrSyntax, api.ErrName, api.ErrMany} {
		if count[e] < 100 {
			t.Error(e, count)
		}
	}
}

// TestTextsByChance has written programs be changed by chance: what is still read is written, and read as the same again.
func TestTextsByChance(t *testing.T) {
	m := chance(4)
	some := strings.Fields("noop push bnz call return halt none - @ ; : 1 2 12 20 21 0012 00012 a b c push z & #")
	count := map[api.Errno]int{}
	for range 50000 {
		l := known()[m.Intn(5)]
		text, _ := code.Text(l, m.program(l))
		if m.Intn(20) == 0 {
			text += " " + text
		}
		words := append(strings.Fields(text), "\n")
		for range m.Intn(4) {
			i := m.Intn(len(words))
			switch m.Intn(3) {
			case 0:
				words = append(slices.Delete(words, i, i+1), "\n")
			case 1:
				words = slices.Insert(words, i, some[m.Intn(len(some))])
			default:
				words[i] = some[m.Intn(len(some))]
			}
		}
		s := strings.Join(words, " ")
		e := holdsText(t, l, s)
		count[e]++
		if e != api.OK {
			continue
		}
		p, _, _ := code.Parse(l, s)
		again, e := code.Text(l, p)
		if e != api.OK {
			t.Fatal(s, e)
		}
		reads(t, l, again, p)
	}
	for _, e := range []api.Errno{api.OK, api.ErrArg, api.ErrSyntax, api.ErrName, api.ErrMany} {
		if count[e] < 20 {
			t.Error(e, count)
		}
	}
}

// TestAnyText has texts of any bytes by chance, of which some are read.
func TestAnyText(t *testing.T) {
	m := chance(5)
	bytes := "halt;;  pushbnz0129-@#\n&\x00\xff"
	for range 100000 {
		s := make([]byte, m.Intn(30))
		for i := range s {
			s[i] = bytes[m.Intn(len(bytes))]
		}
		holdsText(t, diamond, string(s))
	}
}
