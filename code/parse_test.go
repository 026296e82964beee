package code_test

import (
	"math"
	"slices"
	"strings"
	"testing"

	"reticent/api"
	"reticent/code"
)

// reads tells a text whose program is another one.
func reads(t *testing.T, l api.Lattice, s string, want []api.Instr) {
	t.Helper()
	if got, at, e := code.Parse(l, s); e != api.OK || at != 0 || !slices.Equal(got, want) {
		t.Errorf("%q: %v %d %v, want %v", s, got, at, e, want)
	}
}

// failsAt tells a text that has not its error, or a program or another place beside it.
func failsAt(t *testing.T, l api.Lattice, s string, at int, e api.Errno) {
	t.Helper()
	if got, i, f := code.Parse(l, s); f != e || i != at || len(got) != 0 {
		t.Errorf("%.100q (%d bytes): %v %d %v, want %d %v", s, len(s), got, i, f, at, e)
	}
}

// fails has the place stand in the text, behind a "!" that is left out.
func fails(t *testing.T, s string, e api.Errno) {
	t.Helper()
	ahead, behind, ok := strings.Cut(s, "!")
	if !ok {
		t.Fatalf("%q: no place", s)
	}
	failsAt(t, diamond, ahead+behind, len(ahead), e)
}

// tokens are those of texts with blanks between, of kinds that lex would tell, and an end; where they stand is no place of the row.
func tokens(s string) []api.Tok {
	var l []api.Tok
	for i, text := range strings.Fields(s) {
		kind := api.TMark
		switch c := text[0]; {
		case c >= 'a' && c <= 'z':
			kind = api.TWord
		case c >= '0' && c <= '9':
			kind = api.TNum
		}
		l = append(l, api.Tok{Kind: kind, Text: text, At: 1000 + 7*i})
	}
	return append(l, api.Tok{Kind: api.TEnd, At: -1})
}

// tells tells tokens that have another program, or another place behind it.
func tells(t *testing.T, toks []api.Tok, i int, want []api.Instr, behind int) {
	t.Helper()
	if got, k, e := code.From(diamond, toks, i); e != api.OK || k != behind || !slices.Equal(got, want) {
		t.Errorf("%v, %d: %v %d %v, want %v %d", toks, i, got, k, e, want, behind)
	}
}

// refused tells tokens that have not their error, or something beside it.
func refused(t *testing.T, l api.Lattice, toks []api.Tok, i, at int, e api.Errno) {
	t.Helper()
	if got, k, f := code.From(l, toks, i); f != e || k != at || len(got) != 0 {
		t.Errorf("%v, %d: %v %d %v, want %d %v", toks, i, got, k, f, at, e)
	}
}

// refusedAt has the place be the token that stands behind a "!".
func refusedAt(t *testing.T, s string, e api.Errno) {
	t.Helper()
	ahead, behind, ok := strings.Cut(s, "!")
	if !ok {
		t.Fatalf("%q: no place", s)
	}
	refused(t, diamond, tokens(ahead+behind), 0, len(strings.Fields(ahead)), e)
}

func TestReadEach(t *testing.T) {
	reads(t, diamond, "push - 3 @ a ; halt ;", []api.Instr{{Op: api.IPush, N: -3}, {Op: api.IHalt}})
	reads(t, diamond, "", nil)
	reads(t, diamond, " \n\t# push 1 @ a ;", nil)
	for op, x := range told {
		s := strings.NewReplacer("NUMBER", "1", "NAME", "c").Replace(x.form)
		want := api.Instr{Op: op}
		if strings.Contains(x.form, "NUMBER") {
			want.N = 1
		}
		if strings.Contains(x.form, "NAME") {
			want.L = 2
		}
		reads(t, diamond, s, []api.Instr{want})
		reads(t, diamond, s+s, []api.Instr{want, want})
		reads(t, diamond, times(12, s), slices.Repeat([]api.Instr{want}, 12))
		tells(t, tokens(s), 0, []api.Instr{want}, len(strings.Fields(s)))
	}
}

func TestBlanksAndRemarks(t *testing.T) {
	want := []api.Instr{{Op: api.IPush, N: -3, L: 1}, {Op: api.IBnz, N: 12}, {Op: api.IHalt}}
	reads(t, diamond, "push-3@b;bnz12;halt;", want)
	reads(t, diamond, " push\t- # ; &\n3\n@b\n\n;bnz 12;halt ; # ;", want)
	reads(t, diamond, "push - 0003 @ b ; bnz 012 ; halt ;", want)
}

func TestNumbers(t *testing.T) {
	for s, n := range map[string]int{
		"0": 0, "- 0": 0, "0000": 0, "- 0000": 0, "1": 1, "- 1": -1, "20": 20, "- 20": -20, "020": 20, "0020": 20, "- 0020": -20, "-7": -7, "13": 13,
	} {
		reads(t, diamond, "push "+s+" @ a ;", []api.Instr{{Op: api.IPush, N: n}})
	}
	reads(t, diamond, "bnz - 0 ; call - 00 ; return - 000 ;", []api.Instr{{Op: api.IBnz}, {Op: api.ICall}, {Op: api.IReturn}})
	for _, s := range []string{"00000", "00001", "12345", "0000000000000000000", "99999999999999999999"} {
		fails(t, "push !"+s+" @ a ;", api.ErrSyntax)
		fails(t, "push - !"+s+" @ a ;", api.ErrSyntax)
		fails(t, "call !"+s+" ;", api.ErrSyntax)
	}
	for _, s := range []string{"21", "- 21", "9999", "- 9999", "210", "0021"} {
		fails(t, "halt ; !push "+s+" @ a ; halt ;", api.ErrArg)
	}
	fails(t, "!bnz 13 ;", api.ErrArg)
	fails(t, "!bnz - 1 ;", api.ErrArg)
	fails(t, "!call 4 ;", api.ErrArg)
	fails(t, "!call - 1 ;", api.ErrArg)
	fails(t, "!return 2 ;", api.ErrArg)
	fails(t, "!return - 1 ;", api.ErrArg)
	for _, s := range []string{"push - !- 1 @ a ;", "push !a", "push !@ a ;", "push !;", "push !", "push - !", "push - !a", "push 1 !2 @ a ;", "push 1 !- @ a ;"} {
		fails(t, s, api.ErrSyntax)
	}
}

// TestAnyDigits has tokens that lex would not tell: of each byte what is left of it, divided by 16, is the digit.
func TestAnyDigits(t *testing.T) {
	made := func(ahead, digits string) []api.Tok {
		l := tokens("push " + ahead + " 1 @ b ;")
		l[len(l)-5].Text = digits
		return l
	}
	for c := range 256 {
		n := c - c/16*16
		for _, zeros := range []string{"", "0", "pp", "\x00\xf0\x80"} {
			l := made("", zeros+string([]byte{byte(c)}))
			tells(t, l, 0, []api.Instr{{Op: api.IPush, N: n, L: 1}}, 5)
			l = made("-", zeros+string([]byte{byte(c)}))
			tells(t, l, 0, []api.Instr{{Op: api.IPush, N: -n, L: 1}}, 6)
		}
	}
	for s, n := range map[string]int{"": 0, "1:": 20, ":": 10, "\x1f": 15, "\x01\x0a": 20, "a?": 25, "\x02\x01": 21, "q ": 10, "é": 39, "AB": 12, "\x00\x00\x02\x00": 20, "\x01\x00\x00\x00": 1000} {
		for _, sign := range []int{1, -1} {
			ahead := map[int]string{1: "", -1: "-"}[sign]
			if n <= 20 {
				tells(t, made(ahead, s), 0, []api.Instr{{Op: api.IPush, N: sign * n, L: 1}}, 5+len(ahead))
			} else {
				refused(t, diamond, made(ahead, s), 0, 0, api.ErrArg)
			}
		}
	}
	for _, s := range []string{"\x00\x00\x00\x00\x00", "ééé", "\xff\xff\xff\xff\xff", times(1000, "0")} {
		refused(t, diamond, made("", s), 0, 1, api.ErrSyntax)
		refused(t, diamond, made("-", s), 0, 2, api.ErrSyntax)
	}
	refused(t, diamond, made("", "\xff\xff\xff\xff"), 0, 0, api.ErrArg)
	// No sign belongs to a number's own token.
	l := tokens("call 1 ;")
	l[1].Text = "-1"
	refused(t, diamond, l, 0, 0, api.ErrArg)
}

func TestLabels(t *testing.T) {
	for _, l := range known() {
		for a, name := range l.Names {
			reads(t, l, "push 1 @ "+name+" ;", []api.Instr{{Op: api.IPush, N: 1, L: a}})
		}
	}
	reads(t, named, "push 1 @ push ; push 2 @ halt ; halt ;", []api.Instr{{Op: 1, N: 1}, {Op: 1, N: 2, L: 3}, {Op: 12}})
	for _, name := range []string{"e", "aa", "abcdefghijkl", "abcdefghijklm", "push", "halt", "ab", times(500, "a")} {
		fails(t, "push 1 @ !"+name+" ;", api.ErrName)
		// That comes ahead of what is behind it, and of what the instruction may not be.
		fails(t, "push 99 @ !"+name, api.ErrName)
		fails(t, "push 1 @ !"+name+" @ halt", api.ErrName)
	}
	for _, s := range []string{"push 1 !a ;", "push 1 @ !1 ;", "push 1 @ !;", "push 1 @ !@ a ;", "push 1 @ !", "push 1 !;", "push 1 !: a ;", "push 1 @ !- a ;"} {
		fails(t, s, api.ErrSyntax)
	}
	failsAt(t, single, "push 1 @ b ;", 9, api.ErrName)
	failsAt(t, named, "push 1 @ a ;", 9, api.ErrName)
	failsAt(t, named, "push 1 @ abcdefghijk ;", 9, api.ErrName)
}

func TestSomethingElse(t *testing.T) {
	for op, x := range told {
		s := strings.NewReplacer("NUMBER", "1", "NAME", "a").Replace(x.form)
		words := strings.Fields(s)
		for i := 1; i < len(words); i++ {
			ahead, behind := strings.Join(words[:i], " "), strings.Join(words[i:], " ")
			for _, other := range []string{":", ",", "(", "<=", "=", ")", "<", ">", "[", "]"} {
				fails(t, ahead+" !"+other+" "+behind, api.ErrSyntax)
			}
			fails(t, ahead+" !", api.ErrSyntax)
			fails(t, ahead+" # "+behind+"!", api.ErrSyntax)
			if words[i-1] != "@" {
				fails(t, ahead+" !halt ;", api.ErrSyntax)
				fails(t, ahead+" !a", api.ErrSyntax)
			}
		}
		if words[1] == ";" {
			fails(t, words[0]+" !1 ;", api.ErrSyntax)
			fails(t, words[0]+" !- 1 ;", api.ErrSyntax)
			fails(t, words[0]+" !0 ;", api.ErrSyntax)
		}
		if op != api.IPush {
			fails(t, strings.Join(words[:len(words)-1], " ")+" !@ a ;", api.ErrSyntax)
		}
	}
	for _, s := range []string{"!nop ;", "!a ;", "!;", "halt ; !;", "!1", "push1@a; !x", "halt ; !: noop ;", "halt ; !halts ;", "!hal ;", "!@", "!-", "noop ; !@ a ; halt ;"} {
		fails(t, s, api.ErrSyntax)
	}
}

func TestMany(t *testing.T) {
	most := times(12, "noop ; ")
	reads(t, diamond, most, make([]api.Instr, 12))
	fails(t, most+"!halt ;", api.ErrMany)
	fails(t, most+"!halt", api.ErrMany)
	fails(t, most+"!push 99 @ x", api.ErrMany)
	fails(t, most+"!noop noop", api.ErrMany)
	fails(t, most+"!push :", api.ErrMany)
	fails(t, most+"!nop ;", api.ErrSyntax)
	fails(t, most+"!;", api.ErrSyntax)
	fails(t, times(11, "noop ; ")+"!return 2 ; halt ;", api.ErrArg)
	fails(t, times(11, "noop ; ")+"return 2 !halt ;", api.ErrSyntax)
	tells(t, tokens(most+"none"), 0, make([]api.Instr, 12), 24)
	tells(t, tokens(most+most), 24, make([]api.Instr, 12), 48)
	refused(t, diamond, tokens(most+most), 0, 24, api.ErrMany)
	refused(t, diamond, tokens(most+most), 4, 28, api.ErrMany)
}

// TestMayNotBe has the error stand at the word, but only as soon as the mark behind is taken.
func TestMayNotBe(t *testing.T) {
	for _, s := range []string{"push 21 @ a", "push - 21 @ d", "push 9999 @ a", "bnz 13", "bnz - 1", "call 4", "call - 3", "return 2", "return - 1"} {
		fails(t, "!"+s+" ;", api.ErrArg)
		fails(t, "halt ; !"+s+" ; halt", api.ErrArg)
		fails(t, "!"+s+" ; "+s+" ;", api.ErrArg)
		fails(t, s+" !", api.ErrSyntax)
		fails(t, s+" !: ;", api.ErrSyntax)
		fails(t, s+" !halt ;", api.ErrSyntax)
	}
}

func TestLexErrors(t *testing.T) {
	text := "push - 3 @ a ; halt ;"
	want := []api.Instr{{Op: api.IPush, N: -3}, {Op: api.IHalt}}
	reads(t, diamond, text+times(2000-len(text), " "), want)
	failsAt(t, diamond, text+times(2001-len(text), " "), 0, api.ErrMany)
	failsAt(t, diamond, times(2001, "&"), 0, api.ErrMany)
	for _, c := range []string{"&", "A", "\r", "\x00", "\xff", "é", "."} {
		for i := range len(text) + 1 {
			failsAt(t, diamond, text[:i]+c+text[i:]+"&", i, api.ErrSyntax)
		}
	}
	fails(t, "push 99 @ x ; !& noop", api.ErrSyntax)
	fails(t, times(13, "noop ;")+"!&", api.ErrSyntax)
	failsAt(t, diamond, " "+times(199, ";"), 1, api.ErrSyntax)
	failsAt(t, diamond, times(200, ";"), 0, api.ErrMany)
	failsAt(t, diamond, "push 99 @ a ; "+times(195, ";"), 0, api.ErrMany)
	failsAt(t, diamond, " push 99 @ a ; "+times(194, ";"), 1, api.ErrArg)
}

func TestBehindTheProgram(t *testing.T) {
	halt := []api.Instr{{Op: api.IHalt}}
	for _, x := range []string{"a", "x", "mem", ";", "1", "-", "@", "<=", "haltt", "code"} {
		tells(t, tokens(x+" halt ;"), 0, nil, 0)
		tells(t, tokens("halt ; "+x), 0, halt, 2)
		tells(t, tokens("halt ; "+x+" halt ;"), 0, halt, 2)
		tells(t, tokens(x+" halt ; "+x+" noop"), 1, halt, 3)
		tells(t, tokens(times(5, x+" ")+"halt ; "), 5, halt, 7)
		fails(t, "halt ; !"+x+" noop", api.ErrSyntax)
		fails(t, " !"+x, api.ErrSyntax)
	}
}

// TestKinds has tokens of other kinds, which lex would not tell, but of the same Text.
func TestKinds(t *testing.T) {
	whole := tokens("push - 3 @ a ; halt ;")
	want := []api.Instr{{Op: api.IPush, N: -3}, {Op: api.IHalt}}
	tells(t, whole, 0, want, 8)
	for i := range 8 {
		for _, kind := range []int{api.TEnd, api.TWord, api.TNum, api.TMark, -1, 4, math.MinInt, math.MaxInt} {
			l := slices.Clone(whole)
			if kind == l[i].Kind {
				continue
			}
			l[i].Kind = kind
			switch {
			case i == 0:
				tells(t, l, 0, nil, 0)
			case i == 6:
				tells(t, l, 0, want[:1], 6)
			case i == 1 && kind == api.TNum:
				refused(t, diamond, l, 0, 2, api.ErrSyntax)
			default:
				refused(t, diamond, l, 0, i, api.ErrSyntax)
			}
		}
	}
	l := slices.Clone(whole)
	l[4].Text = ""
	refused(t, diamond, l, 0, 4, api.ErrName)
	l[0].Text = ""
	tells(t, l, 0, nil, 0)
}

func TestPlaces(t *testing.T) {
	l := tokens("push 5 @ b ; halt ; none noop ;")
	halt := []api.Instr{{Op: api.IHalt}}
	tells(t, l, 0, []api.Instr{{Op: api.IPush, N: 5, L: 1}, halt[0]}, 7)
	for i := 1; i <= 4; i++ {
		tells(t, l, i, nil, i)
	}
	tells(t, l, 5, halt, 7)
	tells(t, l, 6, nil, 6)
	tells(t, l, 7, nil, 7)
	tells(t, l, 8, []api.Instr{{}}, 10)
	tells(t, l, 9, nil, 9)
	tells(t, l, 10, nil, 10)
	for _, i := range []int{-1, 11, 12, 1 << 32, math.MinInt, math.MaxInt} {
		refused(t, diamond, l, i, 0, api.ErrArg)
	}
	// An end in the midst is no word; one must be the last.
	l[2] = api.Tok{Kind: api.TEnd}
	refused(t, diamond, l, 0, 2, api.ErrSyntax)
	tells(t, l, 2, nil, 2)
	l[7] = api.Tok{Kind: api.TEnd, Text: "noop"}
	tells(t, l, 5, halt, 7)
	refused(t, diamond, l[:len(l)-1], 0, 0, api.ErrArg)
	refused(t, diamond, l[:len(l)-1], 5, 0, api.ErrArg)
	for i := -1; i < 2; i++ {
		refused(t, diamond, nil, i, 0, api.ErrArg)
		refused(t, diamond, []api.Tok{}, i, 0, api.ErrArg)
	}
	// A row may have more tokens than a text.
	long := tokens(times(300, "none ") + times(6, "bnz 3 ; ") + times(300, "none "))
	tells(t, long, 300, slices.Repeat([]api.Instr{{Op: api.IBnz, N: 3}}, 6), 318)
}

func TestPlacesOfErrors(t *testing.T) {
	refusedAt(t, "noop ; push ! ; @ a ;", api.ErrSyntax)
	refusedAt(t, "noop ; push 1 @ ! e ;", api.ErrName)
	refusedAt(t, "noop ; ! push 21 @ a ; noop", api.ErrArg)
	refusedAt(t, "noop ; push ! 12345 @ a", api.ErrSyntax)
	refusedAt(t, "noop ; push - ! 12345 @ a", api.ErrSyntax)
	refusedAt(t, times(12, "noop ; ")+"! noop", api.ErrMany)
	refusedAt(t, "halt !", api.ErrSyntax)
	refusedAt(t, "! call 4 ;", api.ErrArg)
	for i := range 5 {
		refused(t, diamond, tokens(times(i, "none ")+"noop ; call 4 ;"), i, i+2, api.ErrArg)
		refused(t, diamond, tokens(times(i, "none ")+"noop ; call noop ;"), i, i+3, api.ErrSyntax)
	}
}

func TestNoLattice(t *testing.T) {
	for e, all := range strange() {
		for _, l := range all {
			for _, s := range []string{"", "halt ;", "push 99 @ x", "&", times(2001, " "), times(13, "noop ;")} {
				failsAt(t, l, s, 0, e)
			}
			for _, i := range []int{-1, 0, 1, 99} {
				refused(t, l, tokens("none noop"), i, 0, e)
				refused(t, l, nil, i, 0, e)
			}
		}
	}
}

func TestTokensAreKept(t *testing.T) {
	l := tokens("push - 3 @ a ; halt ; none")
	keep := slices.Clone(l)
	a, _, _ := code.From(diamond, l, 0)
	b, _, _ := code.From(diamond, l, 0)
	if !slices.Equal(l, keep) {
		t.Error(l)
	}
	a[0], a[1] = api.Instr{Op: 99}, api.Instr{Op: 99}
	if want := []api.Instr{{Op: 1, N: -3}, {Op: 12}}; !slices.Equal(b, want) {
		t.Error(b)
	}
	tells(t, l, 0, b, 8)
}
