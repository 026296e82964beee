package state_test

import (
	"math"
	"slices"
	"strings"
	"testing"

	"reticent/api"
	"reticent/lex"
	"reticent/state"
)

func times(n int, s string) string { return strings.Repeat(s, n) }

// reads tells a text whose state is another one.
func reads(t *testing.T, l api.Lattice, s string, want api.State) {
	t.Helper()
	if got, at, e := state.Parse(l, s); e != api.OK || at != 0 || !state.Like(got, want) {
		t.Errorf("%q: %v %d %v, want %v", s, got, at, e, want)
	}
}

// failsAt tells a text that has not its error, or a state or another place beside it.
func failsAt(t *testing.T, l api.Lattice, s string, at int, e api.Errno) {
	t.Helper()
	if got, i, f := state.Parse(l, s); f != e || i != at || !isNone(got) {
		t.Errorf("%.200q (%d bytes): %v %d %v, want %d %v", s, len(s), got, i, f, at, e)
	}
}

// cut is a text without its "!", and where the token behind that begins.
func cut(t *testing.T, s string) (string, int) {
	t.Helper()
	ahead, behind, ok := strings.Cut(s, "!")
	if !ok {
		t.Fatalf("%q: no place", s)
	}
	return ahead + behind, len(ahead) + len(behind) - len(strings.TrimLeft(behind, " "))
}

// fails has the place stand in the text, behind a "!" that is left out: as a byte of the text, and as a place of its tokens.
func fails(t *testing.T, s string, e api.Errno) {
	t.Helper()
	text, at := cut(t, s)
	failsAt(t, diamond, text, at, e)
	toks, _, f := lex.Lex(text)
	if f != api.OK {
		t.Fatalf("%q: %v", text, f)
	}
	i := slices.IndexFunc(toks, func(x api.Tok) bool { return x.At == at })
	for n := range 4 {
		refused(t, diamond, append(slices.Repeat([]api.Tok{{Kind: api.TWord, Text: "none"}}, n), toks...), n, n+i, e)
	}
}

// tokens are those of texts with blanks between, of kinds that lex would tell, and an end; where they stand is no place of the row.
func tokens(s string) []api.Tok {
	var l []api.Tok
	for i, text := range strings.Fields(s) {
		kind := api.TMark
		switch c := text[0]; {
		case c >= 'a' && c <= 'z':
			kind = api.TWord
		case c >= '0' && c <= '9':
			kind = api.TNum
		}
		l = append(l, api.Tok{Kind: kind, Text: text, At: 1000 + 7*i})
	}
	return append(l, api.Tok{Kind: api.TEnd, At: -1})
}

// tells tells tokens that have another state, or another place behind it.
func tells(t *testing.T, toks []api.Tok, i int, want api.State, behind int) {
	t.Helper()
	if got, k, e := state.From(diamond, toks, i); e != api.OK || k != behind || !state.Like(got, want) {
		t.Errorf("%v, %d: %v %d %v, want %v %d", toks, i, got, k, e, want, behind)
	}
}

// refused tells tokens that have not their error, or something beside it.
func refused(t *testing.T, l api.Lattice, toks []api.Tok, i, at int, e api.Errno) {
	t.Helper()
	if got, k, f := state.From(l, toks, i); f != e || k != at || !isNone(got) {
		t.Errorf("%v, %d: %v %d %v, want %d %v", toks, i, got, k, f, at, e)
	}
}

const noneText = "pc 0 @ a ; code mem ; stack ; out ;"

func TestRead(t *testing.T) {
	reads(t, diamond, someText, some())
	reads(t, diamond, noneText, api.State{})
	reads(t, diamond, "pc 0 @ a ; code halt ; mem ; stack ret 1 @ a ; out ;", api.State{Code: []api.Instr{{Op: api.IHalt}}, Stack: []api.Slot{{Ret: true, V: 1}}})
	reads(t, diamond, "pc3@b;code push-3@a;mem-1@a,2@b;stack ret 0@c,1@d;out 4@a;", api.State{
		Pc: api.Atom{V: 3, L: 1}, Code: []api.Instr{{Op: 1, N: -3}}, Mem: []api.Atom{{V: -1}, {V: 2, L: 1}}, Stack: []api.Slot{{Ret: true, L: 2}, {V: 1, L: 3}}, Out: []api.Atom{{V: 4}},
	})
	reads(t, diamond, "# pc\n\tpc 0 # &\n@ a ; code\n\n\nmem ;stack ; # ;\n out ;\n \t# out ;", api.State{})
	reads(t, diamond, strings.ReplaceAll(someText, " ", "\n"), some())
	reads(t, named, "pc 0 @ mem ; code push 1 @ halt ; mem 1 @ mem , 2 @ ret ; stack ret 1 @ ret , 1 @ ret ; out ;", api.State{
		Pc: api.Atom{L: 2}, Code: []api.Instr{{Op: 1, N: 1, L: 3}}, Mem: []api.Atom{{V: 1, L: 2}, {V: 2}}, Stack: []api.Slot{{Ret: true, V: 1}, {V: 1}},
	})
}

// slots are where an atom may stand: ahead of it and behind, and the state that it makes.
var slots = []struct {
	ahead, behind string
	low, high     int
	of            func(v, l int) api.State
}{
	{"pc ", " ; code mem ; stack ; out ;", 0, 12, func(v, l int) api.State { return api.State{Pc: api.Atom{V: v, L: l}} }},
	{"pc 0 @ a ; code mem ", " ; stack ; out ;", -20, 20, func(v, l int) api.State { return api.State{Mem: []api.Atom{{V: v, L: l}}} }},
	{"pc 0 @ a ; code mem 1 @ b , ", " ; stack ; out ;", -20, 20, func(v, l int) api.State { return api.State{Mem: []api.Atom{{V: 1, L: 1}, {V: v, L: l}}} }},
	{"pc 0 @ a ; code mem ; stack ", " ; out ;", -20, 20, func(v, l int) api.State { return api.State{Stack: []api.Slot{{V: v, L: l}}} }},
	{"pc 0 @ a ; code mem ; stack ret ", " ; out ;", 0, 12, func(v, l int) api.State { return api.State{Stack: []api.Slot{{Ret: true, V: v, L: l}}} }},
	{"pc 0 @ a ; code mem ; stack ret 1 @ b , ", " , 3 @ d ; out ;", -20, 20, func(v, l int) api.State {
		return api.State{Stack: []api.Slot{{Ret: true, V: 1, L: 1}, {V: v, L: l}, {V: 3, L: 3}}}
	}},
	{"pc 0 @ a ; code mem ; stack 1 @ b , ret ", " ; out ;", 0, 12, func(v, l int) api.State {
		return api.State{Stack: []api.Slot{{V: 1, L: 1}, {Ret: true, V: v, L: l}}}
	}},
	{"pc 0 @ a ; code mem ; stack ; out ", " ;", -20, 20, func(v, l int) api.State { return api.State{Out: []api.Atom{{V: v, L: l}}} }},
	{"pc 0 @ a ; code mem ; stack ; out 1 @ b , ", " ;", -20, 20, func(v, l int) api.State { return api.State{Out: []api.Atom{{V: 1, L: 1}, {V: v, L: l}}} }},
}

func TestAtoms(t *testing.T) {
	for _, x := range slots {
		for s, v := range map[string]int{"0": 0, "- 0": 0, "0000": 0, "- 0000": 0, "1": 1, "- 1": -1, "-7": -7, "12": 12, "13": 13, "0012": 12, "20": 20, "0020": 20, "- 0020": -20, "21": 21, "- 21": -21, "9999": 9999, "- 9999": -9999, "100": 100} {
			for a, name := range diamond.Names {
				text := x.ahead + s + " @ " + name + x.behind
				if v >= x.low && v <= x.high {
					reads(t, diamond, text, x.of(v, a))
					continue
				}
				// A state that may not be is told at its beginning, and what is behind it only then.
				fails(t, "!"+text, api.ErrArg)
				fails(t, " !"+text+" out", api.ErrArg)
			}
		}
		for _, s := range []string{"00000", "12345", "00001", "99999999999999999999"} {
			fails(t, x.ahead+"!"+s+" @ a"+x.behind, api.ErrSyntax)
			fails(t, x.ahead+"- !"+s+" @ a"+x.behind, api.ErrSyntax)
		}
		for _, s := range []string{
			"!@ a", "!a", "- !", "- !@ a", "- !- 1 @ a", "!, 1 @ a", "1 !", "1 !a", "1 !2 @ a", "1 !- 1 @ a", "1 !, 1 @ a", "1 @ !", "1 @ !1", "1 @ !@ a", "1 @ !- 1", "1 @ !, 1 @ a",
			"1 @ a !@ a", "1 @ a !1 @ a", "1 @ a !a", "1 @ a !ret", "1 @ a !- 1 @ a", "!= 1 @ a", "!mem", "- !ret 1 @ a",
		} {
			fails(t, x.ahead+s+x.behind, api.ErrSyntax)
			fails(t, x.ahead+s, api.ErrSyntax)
		}
		if !strings.HasSuffix(x.ahead, "mem ") && !strings.HasSuffix(x.ahead, "stack ") && !strings.HasSuffix(x.ahead, "out ") {
			fails(t, x.ahead+"!"+x.behind, api.ErrSyntax)
		}
		for _, s := range []string{"e", "aa", "ret", "mem", "abcdefghijklm", times(500, "a")} {
			fails(t, x.ahead+"1 @ !"+s+x.behind, api.ErrName)
			// That comes ahead of what is behind it, and of what the state may not be.
			fails(t, x.ahead+"99 @ !"+s, api.ErrName)
			fails(t, x.ahead+"99 @ !"+s+" halt", api.ErrName)
		}
	}
}

// TestAnyDigits has tokens that lex would not tell: of each byte what is left of it, divided by 16, is the digit.
func TestAnyDigits(t *testing.T) {
	for _, x := range slots {
		at := len(strings.Fields(x.ahead))
		l := tokens(x.ahead + "1 @ b" + x.behind)
		for _, s := range []struct {
			text string
			v    int
		}{{"", 0}, {"1:", 20}, {":", 10}, {"\x1f", 15}, {"a", 1}, {"\x00p\xff", 15}, {"q ", 10}, {"0\x01\xf2", 12}, {"?", 15}, {"\xff\xff\xff\xff", 16665}} {
			l[at].Text = s.text
			if s.v >= x.low && s.v <= x.high {
				tells(t, l, 0, x.of(s.v, 1), len(l)-1)
			} else {
				refused(t, diamond, l, 0, 0, api.ErrArg)
			}
		}
		l[at].Text = "\x00\x00\x00\x00\x00"
		refused(t, diamond, l, 0, at, api.ErrSyntax)
	}
}

func TestSomethingElse(t *testing.T) {
	words := strings.Fields(someText)
	for i := range words {
		ahead, behind := strings.Join(words[:i], " "), strings.Join(words[i:], " ")
		fails(t, ahead+" !", api.ErrSyntax)
		for _, other := range []string{":", "(", "<=", "=", ")", "<", ">", "[", "]"} {
			fails(t, ahead+" !"+other+" "+behind, api.ErrSyntax)
		}
		if words[i] != "-" && words[max(i, 1)-1] != "-" && words[max(i, 1)-1] != "@" {
			fails(t, ahead+" !none "+behind, api.ErrSyntax)
		}
	}
	for _, s := range []string{
		"!", "!;", "!pcs 0 @ a ;", "!code", "!mem ;", "!0 @ a ;", "pc 0 @ a !code", "pc 0 @ a !, 1 @ a ; code mem ;", "pc !ret 0 @ a ; code mem ;",
		"pc 0 @ a ; !mem ; stack ; out ;", "pc 0 @ a ; !halt ; mem ; stack ; out ;", "pc 0 @ a ; code !; mem ; stack ; out ;", "pc 0 @ a ; code halt ; !; mem ;", "pc 0 @ a ; code !stack ; mem ; out ;", "pc 0 @ a ; code !code mem ;",
		"pc 0 @ a ; code mem !stack ; out ;", "pc 0 @ a ; code mem !, ; stack ; out ;", "pc 0 @ a ; code mem !ret 1 @ a ; stack ; out ;", "pc 0 @ a ; code mem 1 @ a , !; stack ; out ;", "pc 0 @ a ; code mem 1 @ a , !, 1 @ a ; stack ; out ;", "pc 0 @ a ; code mem 1 @ a , !ret 1 @ a ; stack ;",
		"pc 0 @ a ; code mem 1 @ a !stack ; out ;", "pc 0 @ a ; code mem ; !out ; stack ;", "pc 0 @ a ; code mem ; !mem ; stack ; out ;", "pc 0 @ a ; code mem ; !; stack ; out ;",
		"pc 0 @ a ; code mem ; stack ret !; out ;", "pc 0 @ a ; code mem ; stack ret !ret 1 @ a ; out ;", "pc 0 @ a ; code mem ; stack 1 !ret @ a ; out ;", "pc 0 @ a ; code mem ; stack ret !, 1 @ a ; out ;", "pc 0 @ a ; code mem ; stack 1 @ a , !; out ;", "pc 0 @ a ; code mem ; stack 1 @ a , ret !; out ;",
		"pc 0 @ a ; code mem ; stack ; !stack ; out ;", "pc 0 @ a ; code mem ; stack ; !", "pc 0 @ a ; code mem ; stack ; out !", "pc 0 @ a ; code mem ; stack ; out !ret 1 @ a ;", "pc 0 @ a ; code mem ; stack ; out 1 @ a , !;", "pc 0 @ a ; code mem ; stack ; out 1 @ a !", "pc 0 @ a ; code mem ; stack ; out !, 1 @ a ;",
	} {
		fails(t, s, api.ErrSyntax)
	}
}

// TestProgramErrors are code.From's, in the order of the tokens.
func TestProgramErrors(t *testing.T) {
	rest := " mem ; stack ; out ;"
	for s, e := range map[string]api.Errno{
		"!push 21 @ a ;": api.ErrArg, "halt ; !bnz 13 ;": api.ErrArg, "halt ; !call - 1 ; pop ;": api.ErrArg, "push 1 @ !e ;": api.ErrName, "push 1 !;": api.ErrSyntax, "push !12345 @ a ;": api.ErrSyntax,
		"halt !": api.ErrSyntax, "halt ; noop !noop ;": api.ErrSyntax, times(12, "noop ; ") + "!noop ;": api.ErrMany, times(12, "noop ; ") + "!push": api.ErrMany, times(12, "noop ; ") + "!nop ;": api.ErrSyntax, "!nop ;": api.ErrSyntax,
	} {
		fails(t, "pc 0 @ a ; code "+s+rest, e)
		// They come ahead of what is behind them, and of what the state may not be.
		fails(t, "pc 99 @ a ; code "+s+" mem 1 @ none ;", e)
		fails(t, "pc - 99 @ a ; code "+s+" none", e)
	}
	fails(t, "pc 0 @ !e ; code push 21 @ a ;"+rest, api.ErrName)
	fails(t, "pc 0 !; code push 21 @ a ;"+rest, api.ErrSyntax)
	reads(t, diamond, "pc 0 @ a ; code "+times(12, "noop ; ")+rest, api.State{Code: make([]api.Instr, 12)})
}

// TestMany has one more than may be, behind its mark, whatever it is.
func TestMany(t *testing.T) {
	for _, x := range []struct {
		ahead, behind string
		most          int
		of            func(n int) api.State
	}{
		{"pc 0 @ a ; code mem ", " ; stack ; out ;", 6, func(n int) api.State { return api.State{Mem: make([]api.Atom, n)} }},
		{"pc 0 @ a ; code mem ; stack ", " ; out ;", 12, func(n int) api.State { return api.State{Stack: make([]api.Slot, n)} }},
		{"pc 0 @ a ; code mem ; stack ; out ", " ;", 8, func(n int) api.State { return api.State{Out: make([]api.Atom, n)} }},
	} {
		for n := 1; n <= x.most; n++ {
			reads(t, diamond, x.ahead+times(n-1, "0 @ a , ")+"0 @ a"+x.behind, x.of(n))
		}
		most := x.ahead + times(x.most-1, "0 @ a , ") + "0 @ a"
		for _, s := range []string{"0 @ a ;", "0 @ a , 0 @ a ;", ";", "", "none", ",", "ret 0 @ a", "99 @ none", "00000", ":", "-", "@", "stack", "out ;"} {
			fails(t, most+" , !"+s+x.behind, api.ErrMany)
			fails(t, strings.Replace(most, "pc 0", "pc 99", 1)+" , !"+s, api.ErrMany)
			fails(t, strings.Replace(most, "0 @ a , 0 @ a", "99 @ a , - 99 @ d", 1)+" , !"+s, api.ErrMany)
		}
		fails(t, most+" !0 @ a"+x.behind, api.ErrSyntax)
		fails(t, most+" !: 0 @ a"+x.behind, api.ErrSyntax)
		fails(t, strings.Replace(most, "0 @ a ,", "0 @ !none ,", 1)+" , 0 @ a", api.ErrName)
		fails(t, strings.TrimSuffix(most, "a")+"!; , 0 @ a", api.ErrSyntax)
	}
	fails(t, "pc 0 @ a ; code mem ; stack "+times(11, "ret 1 @ a , ")+"ret 1 @ a , !ret 1 @ a ; out ;", api.ErrMany)
	reads(t, diamond, "pc 0 @ a ; code mem ; stack "+times(11, "ret 1 @ a , ")+"ret 1 @ a ; out ;", api.State{Stack: slices.Repeat([]api.Slot{{Ret: true, V: 1}}, 12)})
}

// TestMayNotBe comes behind all else of the state, but ahead of what is behind it.
func TestMayNotBe(t *testing.T) {
	for _, s := range []string{
		"pc 13 @ a ; code mem ; stack ; out ;", "pc - 1 @ a ; code mem ; stack ; out ;", "pc 0 @ a ; code mem 21 @ a ; stack ; out ;", "pc 0 @ a ; code mem 1 @ a , - 21 @ a ; stack ; out ;",
		"pc 0 @ a ; code mem ; stack 21 @ a ; out ;", "pc 0 @ a ; code mem ; stack ret 13 @ a ; out ;", "pc 0 @ a ; code mem ; stack ret - 1 @ a , 1 @ a ; out ;", "pc 0 @ a ; code mem ; stack ; out - 21 @ d ;", "pc 99 @ a ; code mem 99 @ a ; stack ret 99 @ a ; out 99 @ a ;",
	} {
		fails(t, "!"+s, api.ErrArg)
		fails(t, "\n\t !"+s+" "+s, api.ErrArg)
		fails(t, "!"+s+" ;", api.ErrArg)
		fails(t, strings.TrimSuffix(s, ";")+"!", api.ErrSyntax)
		fails(t, strings.TrimSuffix(s, ";")+"!none", api.ErrSyntax)
		fails(t, strings.Replace(s, "stack", "!none", 1), api.ErrSyntax)
	}
}

func TestBehindTheState(t *testing.T) {
	n := len(strings.Fields(someText))
	for _, x := range []string{"a", "none", ";", "1", "-", "@", "<=", "pc", "out", "ret", "halt", ","} {
		tells(t, tokens(someText+x), 0, some(), n)
		tells(t, tokens(someText+x+" "+someText), 0, some(), n)
		tells(t, tokens(times(5, x+" ")+someText+x), 5, some(), n+5)
		failsAt(t, diamond, someText+x, len(someText), api.ErrSyntax)
		failsAt(t, diamond, someText+" # &\n"+x+" none", len(someText)+5, api.ErrSyntax)
	}
	tells(t, tokens(someText+someText), 0, some(), n)
	tells(t, tokens(someText+someText), n, some(), 2*n)
	refused(t, diamond, tokens(someText+"pc 99 @ a ; code mem ; stack ; out ;"), n, n, api.ErrArg)
	refused(t, diamond, tokens(someText), n, n, api.ErrSyntax)
}

func TestLexErrors(t *testing.T) {
	reads(t, diamond, someText+times(2000-len(someText), " "), some())
	failsAt(t, diamond, someText+times(2001-len(someText), " "), 0, api.ErrMany)
	failsAt(t, diamond, times(2001, "&"), 0, api.ErrMany)
	for _, c := range []string{"&", "A", "\r", "\x00", "\xff", "é", ".", "!"} {
		for i := range len(someText) + 1 {
			failsAt(t, diamond, someText[:i]+c+someText[i:]+"&", i, api.ErrSyntax)
		}
	}
	failsAt(t, diamond, "pc 99 @ x ; &", 12, api.ErrSyntax)
	failsAt(t, diamond, " "+times(199, ";"), 1, api.ErrSyntax)
	failsAt(t, diamond, times(200, ";"), 0, api.ErrMany)
	failsAt(t, diamond, " "+times(200, ";"), 0, api.ErrMany)
}

// TestHowLong has states of up to 200 tokens, the end among them, and of more: no more are read of a text, but any of a row of tokens.
func TestHowLong(t *testing.T) {
	s := full()
	for n := range 13 {
		if n > 0 {
			s.Code[n-1].N = 20
		}
		text, e := state.Text(diamond, s)
		l := tokens(text)
		if e != api.OK || len(l) != 204-n {
			t.Fatal(text, len(l), e)
		}
		tells(t, l, 0, s, len(l)-1)
		if n < 4 {
			failsAt(t, diamond, text, 0, api.ErrMany)
		} else {
			reads(t, diamond, text, s)
		}
	}
}

// TestKinds has tokens of other kinds, which lex would not tell, but of the same Text.
func TestKinds(t *testing.T) {
	whole := tokens(someText)
	tells(t, whole, 0, some(), len(whole)-1)
	for i := range len(whole) - 1 {
		for _, kind := range []int{api.TEnd, api.TWord, api.TNum, api.TMark, -1, 4, math.MinInt, math.MaxInt} {
			l := slices.Clone(whole)
			if kind == l[i].Kind {
				continue
			}
			l[i].Kind = kind
			at := i
			if (l[i].Text == "-" || l[i].Text == "ret") && kind == api.TNum {
				// It is the number, then, and another one stands behind it.
				at++
			}
			refused(t, diamond, l, 0, at, api.ErrSyntax)
		}
	}
}

func TestPlaces(t *testing.T) {
	l := tokens("none " + noneText + " none")
	tells(t, l, 1, api.State{}, 13)
	for i := range len(l) {
		if i != 1 {
			refused(t, diamond, l, i, i, api.ErrSyntax)
		}
	}
	for _, i := range []int{-1, len(l), len(l) + 1, 1 << 32, math.MinInt, math.MaxInt} {
		refused(t, diamond, l, i, 0, api.ErrArg)
	}
	// An end in the midst is wrong there; one must be the last.
	l[3] = api.Tok{Kind: api.TEnd, Text: "@"}
	refused(t, diamond, l, 1, 3, api.ErrSyntax)
	l = tokens(noneText)
	refused(t, diamond, l[:len(l)-1], 0, 0, api.ErrArg)
	refused(t, diamond, l[:len(l)-1], 5, 0, api.ErrArg)
	l[len(l)-1].Text = "none"
	tells(t, l, 0, api.State{}, 12)
	for i := -1; i < 2; i++ {
		refused(t, diamond, nil, i, 0, api.ErrArg)
		refused(t, diamond, []api.Tok{}, i, 0, api.ErrArg)
	}
	refused(t, diamond, []api.Tok{{}}, -1, 0, api.ErrArg)
	refused(t, diamond, []api.Tok{{}}, 0, 0, api.ErrSyntax)
	refused(t, diamond, []api.Tok{{}}, 1, 0, api.ErrArg)
	// A row may have more tokens than a text.
	long := tokens(times(300, "none ") + someText + times(300, "none "))
	tells(t, long, 300, some(), 300+len(strings.Fields(someText)))
}

func TestNoLattice(t *testing.T) {
	for e, all := range strange() {
		for _, l := range all {
			for _, s := range []string{"", noneText, someText, "pc 99 @ x", "&", times(2001, " ")} {
				failsAt(t, l, s, 0, e)
			}
			for _, i := range []int{-1, 0, 1, 99} {
				refused(t, l, tokens("none "+noneText), i, 0, e)
				refused(t, l, nil, i, 0, e)
			}
		}
	}
}

func TestTokensAreKept(t *testing.T) {
	l := tokens(someText)
	keep := slices.Clone(l)
	a, _, _ := state.From(diamond, l, 0)
	b, _, _ := state.From(diamond, l, 0)
	if !slices.Equal(l, keep) {
		t.Error(l)
	}
	a.Code[0], a.Mem[0], a.Stack[0], a.Out[0] = api.Instr{Op: 99}, api.Atom{V: 99}, api.Slot{V: 99}, api.Atom{V: 99}
	if want := some(); !state.Like(b, want) {
		t.Error(b)
	}
	tells(t, l, 0, b, len(l)-1)
}
