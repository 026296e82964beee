package lex_test

import (
	"fmt"
	"regexp"
	"slices"
	"strings"
	"testing"

	"reticent/api"
	"reticent/lex"
)

// every is each mark of the document.
var every = []string{"<=", "(", ")", "[", "]", ";", ":", ",", "<", ">", "@", "-", "="}

func word(text string, at int) api.Tok { return api.Tok{Kind: api.TWord, Text: text, At: at} }

func num(text string, at int) api.Tok { return api.Tok{Kind: api.TNum, Text: text, At: at} }

func mark(text string, at int) api.Tok { return api.Tok{Kind: api.TMark, Text: text, At: at} }

func end(at int) api.Tok { return api.Tok{Kind: api.TEnd, At: at} }

// holds tells a text that is lexed wrong.
func holds(t *testing.T, s string, want ...api.Tok) {
	t.Helper()
	if got, at, e := lex.Lex(s); e != api.OK || at != 0 || !slices.Equal(got, want) {
		t.Errorf("%q: %v %d %v, want %v", s, got, at, e, want)
	}
}

// fails tells a text that has not its error, or tokens or another place beside it.
func fails(t *testing.T, s string, at int, e api.Errno) {
	t.Helper()
	if got, i, f := lex.Lex(s); f != e || i != at || len(got) != 0 {
		t.Errorf("%.40q (%d bytes): %v %d %v, want %d %v", s, len(s), got, i, f, at, e)
	}
}

var (
	slowOut  = regexp.MustCompile(`\A(?:[\t\n ]|#[^\n]*)`)
	slowWord = regexp.MustCompile(`\A[a-z]+`)
	slowNum  = regexp.MustCompile(`\A[0-9]+`)
	slowMark = regexp.MustCompile(`\A(?:<=|[()\[\];:,<>@=-])`)
)

// slow is what the document's words say; the tests hold the package against it.
func slow(s string) ([]api.Tok, int, api.Errno) {
	if len(s) > 2000 {
		return nil, 0, api.ErrMany
	}
	var l []api.Tok
	at := 0
	for at < len(s) {
		rest := s[at:]
		if out := slowOut.FindString(rest); out != "" {
			at += len(out)
		} else if text := slowWord.FindString(rest); text != "" {
			l, at = append(l, word(text, at)), at+len(text)
		} else if text := slowNum.FindString(rest); text != "" {
			l, at = append(l, num(text, at)), at+len(text)
		} else if text := slowMark.FindString(rest); text != "" {
			l, at = append(l, mark(text, at)), at+len(text)
		} else {
			return nil, at, api.ErrSyntax
		}
	}
	if len(l)+1 > 200 {
		return nil, 0, api.ErrMany
	}
	return append(l, end(at)), 0, api.OK
}

// small are all texts of at most four of some bytes, each one that stands for others and each one at an edge.
func small(yield func(string) bool) {
	const bytes = "az09<=-@# \n\rA\xff"
	texts := []string{""}
	for n := 0; n <= 4; n++ {
		var longer []string
		for _, s := range texts {
			if !yield(s) {
				return
			}
			for i := range len(bytes) {
				longer = append(longer, s+bytes[i:i+1])
			}
		}
		texts = longer
	}
}

func TestSmallTexts(t *testing.T) {
	count := map[api.Errno]int{}
	for s := range small {
		want, place, e := slow(s)
		count[e]++
		if got, at, f := lex.Lex(s); f != e || at != place || !slices.Equal(got, want) {
			t.Fatalf("%q: %v %d %v, want %v %d %v", s, got, at, f, want, place, e)
		}
	}
	if count[api.OK] == 0 || count[api.ErrSyntax] == 0 {
		t.Fatal(count)
	}
}

func TestEachTwoBytes(t *testing.T) {
	for a := range 256 {
		for b := range 256 {
			s := string([]byte{byte(a), byte(b)})
			want, place, e := slow(s)
			if got, at, f := lex.Lex(s); f != e || at != place || !slices.Equal(got, want) {
				t.Fatalf("%q: %v %d %v, want %v %d %v", s, got, at, f, want, place, e)
			}
		}
	}
}

func TestNoTokens(t *testing.T) {
	for _, s := range []string{
		"", " ", "\t", "\n", " \t\n \n\t", "#", "#\n", "##", "# c", "# c\n", " # c", "\n#\n#\n", "# c\n\t# d\n ", "#<= (one) 12\n",
		"# A\x00\r\v\f\x80\xff é!", "# A\x00\r\xff\n",
	} {
		holds(t, s, end(len(s)))
	}
}

func TestComments(t *testing.T) {
	holds(t, "one<=two # c", word("one", 0), mark("<=", 3), word("two", 5), end(12))
	holds(t, "one#c", word("one", 0), end(5))
	holds(t, "one#c\n", word("one", 0), end(6))
	holds(t, "one#two\nthree", word("one", 0), word("three", 8), end(13))
	holds(t, "a#b#c\nd#\n#\n1#", word("a", 0), word("d", 6), num("1", 11), end(13))
	holds(t, "<#\n=", mark("<", 0), mark("=", 3), end(4))
	holds(t, "1#A\r\xff\n2", num("1", 0), num("2", 6), end(7))
	fails(t, "#\n!", 2, api.ErrSyntax)
	fails(t, "#\rA\n\r", 4, api.ErrSyntax)
}

func TestBlanks(t *testing.T) {
	for _, blank := range []string{" ", "\t", "\n"} {
		holds(t, "a"+blank+"b", word("a", 0), word("b", 2), end(3))
		holds(t, blank+"1"+blank+"2"+blank, num("1", 1), num("2", 3), end(5))
		holds(t, "<"+blank+"=", mark("<", 0), mark("=", 2), end(3))
	}
	for _, other := range []string{"\r", "\v", "\f", "\x00", "\b", "\x1f", "!", "\u00a0", "\u0085"} {
		fails(t, "a"+other+"b", 1, api.ErrSyntax)
	}
}

func TestEachMark(t *testing.T) {
	for _, text := range every {
		n := len(text)
		holds(t, text, mark(text, 0), end(n))
		holds(t, "a"+text+"1", word("a", 0), mark(text, 1), num("1", n+1), end(n+2))
		holds(t, text+" "+text, mark(text, 0), mark(text, n+1), end(2*n+1))
		for _, other := range every {
			if text+other != "<=" {
				holds(t, text+other, mark(text, 0), mark(other, n), end(n+len(other)))
			}
		}
	}
}

func TestLongerMark(t *testing.T) {
	holds(t, "<=", mark("<=", 0), end(2))
	holds(t, "< =", mark("<", 0), mark("=", 2), end(3))
	holds(t, "<<=", mark("<", 0), mark("<=", 1), end(3))
	holds(t, "<==", mark("<=", 0), mark("=", 2), end(3))
	holds(t, "=<", mark("=", 0), mark("<", 1), end(2))
	holds(t, "=<=", mark("=", 0), mark("<=", 1), end(3))
	holds(t, "<=<=", mark("<=", 0), mark("<=", 2), end(4))
	holds(t, "<>=", mark("<", 0), mark(">", 1), mark("=", 2), end(3))
	holds(t, "a<b<=1=<", word("a", 0), mark("<", 1), word("b", 2), mark("<=", 3), num("1", 5), mark("=", 6), mark("<", 7), end(8))
	holds(t, "<", mark("<", 0), end(1))
	holds(t, "=", mark("=", 0), end(1))
}

func TestLettersAndDigits(t *testing.T) {
	holds(t, "a1b22cc", word("a", 0), num("1", 1), word("b", 2), num("22", 3), word("cc", 5), end(7))
	holds(t, "1a", num("1", 0), word("a", 1), end(2))
	holds(t, "-5", mark("-", 0), num("5", 1), end(2))
	holds(t, "0012", num("0012", 0), end(4))
	for _, s := range []string{"a", "z", "abcdefghijklmnopqrstuvwxyz", strings.Repeat("name", 100)} {
		holds(t, s, word(s, 0), end(len(s)))
	}
	for _, s := range []string{"0", "9", "00", "0123456789", strings.Repeat("9", 1000)} {
		holds(t, s, num(s, 0), end(len(s)))
	}
}

func TestWrongBytes(t *testing.T) {
	for c := range 256 {
		s := string([]byte{byte(c)})
		if c < 128 && strings.Contains("\t\n #abcdefghijklmnopqrstuvwxyz0123456789()[];:,<>@-=", s) {
			if _, at, e := lex.Lex(s); at != 0 || e != api.OK {
				t.Errorf("%q %d %v", s, at, e)
			}
			continue
		}
		for _, ahead := range []string{"", " ", "\n", "abc", "12", "a1", "<", "<=", "-", "one <= two ", "# A\n", "#\n\t[ 1 ] @ a ; # \xff\n"} {
			for _, after := range []string{"", " ", "abc", "12", "=", "# c", s, " !"} {
				fails(t, ahead+s+after, len(ahead), api.ErrSyntax)
			}
		}
	}
}

func TestFirstWrongByteCounts(t *testing.T) {
	fails(t, "a!b?", 1, api.ErrSyntax)
	fails(t, "? !", 0, api.ErrSyntax)
	fails(t, "# ? !\na # ?\n! ?", 12, api.ErrSyntax)
	fails(t, "aBc", 1, api.ErrSyntax)
	fails(t, "a1Z", 2, api.ErrSyntax)
	fails(t, "5E1", 1, api.ErrSyntax)
	fails(t, "é", 0, api.ErrSyntax)
	fails(t, "aé", 1, api.ErrSyntax)
	fails(t, "1\u0661", 1, api.ErrSyntax)
	fails(t, "a\r\n", 1, api.ErrSyntax)
	fails(t, "a_b", 1, api.ErrSyntax)
	fails(t, "1.5", 1, api.ErrSyntax)
}

func TestBytes(t *testing.T) {
	letters, digits := strings.Repeat("a", 2000), strings.Repeat("1", 2000)
	holds(t, letters, word(letters, 0), end(2000))
	holds(t, digits, num(digits, 0), end(2000))
	holds(t, strings.Repeat(" ", 2000), end(2000))
	holds(t, strings.Repeat("\n", 1999)+"(", mark("(", 1999), end(2000))
	holds(t, "#"+strings.Repeat("A", 1999), end(2000))
	holds(t, "a#"+strings.Repeat("!", 1996)+"\n2", word("a", 0), num("2", 1999), end(2000))
	fails(t, letters[:1999]+"A", 1999, api.ErrSyntax)
	fails(t, "A"+letters[:1999], 0, api.ErrSyntax)
	for _, s := range []string{
		letters + "a", digits + "1", strings.Repeat(" ", 2001), strings.Repeat("\n", 2001), "#" + letters, "#\n" + letters,
		letters + "A", "A" + letters, strings.Repeat("!", 2001), strings.Repeat("(", 2001), strings.Repeat("a ", 100000),
	} {
		fails(t, s, 0, api.ErrMany)
	}
}

// some are n tokens ahead of the end, of one byte each.
func some(n int, between string) string {
	var l []string
	for i := range n {
		l = append(l, []string{"(", "a", "1"}[i%3])
	}
	return strings.Join(l, between)
}

func TestCountOfTokens(t *testing.T) {
	for _, between := range []string{"", " ", "\n", "#!\n"} {
		for n, ok := range map[int]bool{1: true, 198: true, 199: true, 200: false, 201: false, 400: false} {
			s := some(n, between)
			if !ok {
				fails(t, s, 0, api.ErrMany)
				fails(t, s+" # c\n", 0, api.ErrMany)
				continue
			}
			got, at, e := lex.Lex(s + " # c\n")
			if e != api.OK || at != 0 || len(got) != n+1 || got[n] != end(len(s)+5) {
				t.Errorf("%q %d: %v %d %v", between, n, got, at, e)
			}
		}
	}
	holds(t, strings.Repeat("a", 200), word(strings.Repeat("a", 200), 0), end(200))
	fails(t, strings.Repeat("<=", 200), 0, api.ErrMany)
	if got, _, e := lex.Lex(strings.Repeat("<=", 199)); e != api.OK || len(got) != 200 {
		t.Error(got, e)
	}
}

func TestErrorThatIsFirst(t *testing.T) {
	for _, n := range []int{200, 201, 400, 1990} {
		s := some(n, "")
		fails(t, s+"!", n, api.ErrSyntax)
		fails(t, s+" \n!!", n+2, api.ErrSyntax)
		fails(t, "!"+s, 0, api.ErrSyntax)
		fails(t, s[:100]+"A"+s[100:], 100, api.ErrSyntax)
	}
	fails(t, some(199, "")+"!", 199, api.ErrSyntax)
	fails(t, some(1999, "")+"!", 1999, api.ErrSyntax)
	fails(t, some(2000, "")+"!", 0, api.ErrMany)
	fails(t, "!"+some(2000, ""), 0, api.ErrMany)
	fails(t, some(2000, ""), 0, api.ErrMany)
}

func TestJoin(t *testing.T) {
	for _, x := range []struct {
		l    []api.Tok
		text string
	}{
		{nil, ""},
		{[]api.Tok{}, ""},
		{[]api.Tok{{}}, ""},
		{[]api.Tok{{}, {}, end(3)}, ""},
		{[]api.Tok{word("a", 0)}, "a"},
		{[]api.Tok{word("a", 0), word("b", 1)}, "a b"},
		{[]api.Tok{word("one", 0), mark("<=", 3), word("two", 5), end(12)}, "one <= two"},
		{[]api.Tok{word("a", 0), end(1), word("b", 1)}, "a b"},
		{[]api.Tok{word("a", 0), word("", 1), num("", 1), mark("", 1), num("1", 1)}, "a 1"},
		{[]api.Tok{end(0), word("a", 0), end(1)}, "a"},
		{[]api.Tok{word("b", 9), word("a", -5), word("b", 9)}, "b a b"},
		{[]api.Tok{{Kind: api.TEnd, Text: "x"}, {Kind: 99, Text: "y"}, {Kind: -1, Text: "A\xff"}}, "x y A\xff"},
		{[]api.Tok{{Text: " "}, {Text: "# c"}, {Text: "\n"}}, "  # c \n"},
	} {
		if got := lex.Join(x.l); got != x.text {
			t.Errorf("%v: %q, want %q", x.l, got, x.text)
		}
	}
	many := slices.Repeat([]api.Tok{word("a", 0), end(1)}, 1000)
	if got := lex.Join(many); got != strings.TrimSpace(strings.Repeat("a ", 1000)) {
		t.Error(len(got))
	}
}

// known are texts whose tokens are looked at, beside all small ones.
func known() []string {
	return []string{
		"one<=two # c",
		"store : one join pc <= three ; one join two join pc ; pc ;",
		"pc 0 @ a ; code push - 3 @ a ; halt ; mem ; stack ret 1 @ a ; out ;",
		"labels low , high ;\nflows low < high ;\n# none\nfuel 40 ;",
		"[a](b)<c<=d>e=f@g:h,i;j-k",
		some(199, ""), some(199, "\n# c\n"),
		strings.Repeat("a", 2000), "#" + strings.Repeat("!", 1999),
	}
}

// lexed goes through the tokens of all small and known texts that are not wrong.
func lexed(yield func(string, []api.Tok) bool) {
	for _, s := range known() {
		l, _, e := lex.Lex(s)
		if e != api.OK {
			panic("a known text is wrong: " + s)
		}
		if !yield(s, l) {
			return
		}
	}
	for s := range small {
		if l, _, e := lex.Lex(s); e == api.OK && !yield(s, l) {
			return
		}
	}
}

func TestTokensStandWhereTold(t *testing.T) {
	out := regexp.MustCompile(`\A(?:[\t\n ]|#[^\n]*(?:\n|\z))*\z`)
	for s, l := range lexed {
		behind := 0
		for i, x := range l {
			last := i == len(l)-1
			if (x.Kind == api.TEnd) != last || (x.Text == "") != last || x.At < behind {
				t.Fatalf("%q: %v", s, l)
			}
			if !strings.HasPrefix(s[x.At:], x.Text) || i > 0 && x.At <= l[i-1].At {
				t.Fatalf("%q: %v", s, l)
			}
			if !out.MatchString(s[behind:x.At]) {
				t.Fatalf("%q: %v: %q is left out", s, l, s[behind:x.At])
			}
			behind = x.At + len(x.Text)
		}
		if behind != len(s) {
			t.Fatalf("%q: %v", s, l)
		}
	}
}

// bare are tokens, but where they stand.
func bare(l []api.Tok) []api.Tok {
	l = slices.Clone(l)
	for i := range l {
		l[i].At = 0
	}
	return l
}

func TestJoinedAndReadAgain(t *testing.T) {
	for s, l := range lexed {
		joined := lex.Join(l)
		again, at, e := lex.Lex(joined)
		if e != api.OK || at != 0 || !slices.Equal(bare(again), bare(l)) {
			t.Fatalf("%q: %v, again %v %d %v", s, l, again, at, e)
		}
		if lex.Join(again) != joined {
			t.Fatalf("%q: %q, again %q", s, joined, lex.Join(again))
		}
	}
}

// TestJoinedTooLong holds what P3.1 says of a long text against what blanks make longer.
func TestJoinedTooLong(t *testing.T) {
	for _, n := range []int{1901, 1902, 1903} {
		s := some(99, "") + strings.Repeat("1", n-99-1) + "("
		l, _, e := lex.Lex(s)
		if e != api.OK {
			t.Fatal(n, e)
		}
		joined := lex.Join(l)
		if want := n + len(l) - 2; len(joined) != want {
			t.Fatal(n, len(joined), want)
		}
		again, _, e := lex.Lex(joined)
		if ok := len(joined) <= 2000; ok != (e == api.OK) || ok && !slices.Equal(bare(again), bare(l)) || !ok && e != api.ErrMany {
			t.Error(n, len(joined), e)
		}
	}
}

func TestCallsKeepNothing(t *testing.T) {
	for s, l := range lexed {
		before := fmt.Sprint(l)
		if lex.Join(l) != lex.Join(l) || fmt.Sprint(l) != before {
			t.Fatalf("%q: %s, then %v", s, before, l)
		}
		again, _, _ := lex.Lex(s)
		for i := range l {
			l[i] = api.Tok{Kind: 99, Text: "changed", At: -1}
		}
		if third, _, _ := lex.Lex(s); fmt.Sprint(again) != before || fmt.Sprint(third) != before {
			t.Fatalf("%q: %s, then %v, %v", s, before, again, third)
		}
	}
}
