package rule_test

import (
	"math"
	"slices"
	"strings"
	"testing"

	"reticent/api"
	"reticent/lex"
	"reticent/rule"
)

// numbers are what the document's words and marks put.
var numbers = map[string]int{
	"true": 1, "false": 2, "and": 3, "or": 4, "<=": 5, "bot": 6, "top": 7, "pc": 8, "one": 9, "two": 10, "three": 11, "join": 12, "meet": 13,
}

var atoms = []string{"bot", "top", "pc", "one", "two", "three"}

// told is a token as lex tells it, but that it stands where no place of a token is.
func told(text string) api.Tok {
	switch c := text[0]; {
	case c >= 'a' && c <= 'z':
		return api.Tok{Kind: api.TWord, Text: text, At: 1000}
	case c >= '0' && c <= '9':
		return api.Tok{Kind: api.TNum, Text: text, At: 1000}
	}
	return api.Tok{Kind: api.TMark, Text: text, At: 1000}
}

var theEnd = api.Tok{Kind: api.TEnd, At: 1000}

// toks are the tokens of texts with blanks between them, and an end.
func toks(s string) []api.Tok {
	var l []api.Tok
	for _, text := range strings.Fields(s) {
		l = append(l, told(text))
	}
	return append(l, theEnd)
}

// row is a rule, told by the words that put its numbers, in their order.
func row(s string) []int {
	var l []int
	for _, text := range strings.Fields(s) {
		l = append(l, numbers[text])
	}
	return l
}

func times(n int, s string) string { return strings.Repeat(s+" ", n) }

// tells tells tokens that are read as another rule, or to another place.
func tells(t *testing.T, l []api.Tok, i int, label bool, want []int, place int) {
	t.Helper()
	got, at, e := rule.From(l, i, label)
	if e != api.OK || at != place || !slices.Equal(got, want) {
		t.Errorf("%q from %d, label %v: %v %d %v, want %v %d", lex.Join(l), i, label, got, at, e, want, place)
	}
}

// reads tells a text that is no rule, or another one, or does not end at its last token.
func reads(t *testing.T, s string, label bool, want string) {
	t.Helper()
	l := toks(s)
	tells(t, l, 0, label, row(want), len(l)-1)
}

// stops tells a text whose rule is another one, or ends at another place.
func stops(t *testing.T, s string, label bool, want string, place int) {
	t.Helper()
	tells(t, toks(s), 0, label, row(want), place)
}

// refused tells tokens that have not their error, or a rule or another place beside it.
func refused(t *testing.T, l []api.Tok, i int, label bool, place int, e api.Errno) {
	t.Helper()
	if got, at, f := rule.From(l, i, label); f != e || at != place || len(got) != 0 {
		t.Errorf("%q from %d, label %v: %v %d %v, want %d %v", lex.Join(l), i, label, got, at, f, place, e)
	}
}

func fails(t *testing.T, s string, label bool, place int, e api.Errno) {
	t.Helper()
	refused(t, toks(s), 0, label, place, e)
}

// bothFail is for what can be there neither in a condition nor in a label.
func bothFail(t *testing.T, s string, place int, e api.Errno) {
	t.Helper()
	fails(t, s, false, place, e)
	fails(t, s, true, place, e)
}

func TestExample(t *testing.T) {
	l, _, _ := lex.Lex("one join two <= pc")
	tells(t, l, 0, false, []int{9, 10, 12, 8, 5}, 5)
	tells(t, l, 0, true, []int{9, 10, 12}, 3)
	tells(t, l, 2, false, []int{10, 8, 5}, 5)
	tells(t, l, 4, true, []int{8}, 5)
}

func TestNoPlace(t *testing.T) {
	whole := toks("one <= two")
	for _, label := range []bool{false, true} {
		for _, i := range []int{0, 1, -1} {
			refused(t, nil, i, label, 0, api.ErrArg)
			refused(t, []api.Tok{}, i, label, 0, api.ErrArg)
		}
		for _, i := range []int{-1, -2, -4, math.MinInt, 4, 5, 100, math.MaxInt} {
			refused(t, whole, i, label, 0, api.ErrArg)
		}
		refused(t, []api.Tok{theEnd}, 1, label, 0, api.ErrArg)
		refused(t, []api.Tok{theEnd}, 0, label, 0, api.ErrSyntax)
		refused(t, whole, 3, label, 3, api.ErrSyntax)
	}
}

func TestLastIsNoEnd(t *testing.T) {
	for _, label := range []bool{false, true} {
		for _, s := range []string{"one", "true", "one <= two", "one <= two ;", "; ;", "(", "[", "1"} {
			l := toks(s)
			for i := -1; i <= len(l); i++ {
				refused(t, l[:len(l)-1], i, label, 0, api.ErrArg)
			}
		}
		for _, kind := range []int{api.TWord, api.TNum, api.TMark, -1, 4, 99} {
			refused(t, append(toks("one <= two"), api.Tok{Kind: kind}), 0, label, 0, api.ErrArg)
		}
	}
	tells(t, append(toks("one <= two")[:3], api.Tok{Kind: api.TEnd, Text: "or", At: -5}), 0, false, row("one two <="), 3)
	tells(t, append(toks("one <= two"), told("true"), theEnd), 0, false, row("one two <="), 3)
}

func TestEachWord(t *testing.T) {
	reads(t, "true", false, "true")
	reads(t, "false", false, "false")
	for _, x := range atoms {
		reads(t, x, true, x)
		reads(t, "[ "+x+" ]", true, x)
		reads(t, "[ [ "+x+" ] ]", true, x)
		reads(t, x+" <= "+x, false, x+" "+x+" <=")
		reads(t, "[ "+x+" ] <= "+x, false, x+" "+x+" <=")
		reads(t, "( "+x+" <= [ "+x+" ] )", false, x+" "+x+" <=")
		for _, y := range atoms {
			reads(t, x+" join "+y, true, x+" "+y+" join")
			reads(t, x+" meet "+y, true, x+" "+y+" meet")
			reads(t, x+" <= "+y, false, x+" "+y+" <=")
			reads(t, x+" join "+y+" <= "+y+" meet "+x, false, x+" "+y+" join "+y+" "+x+" meet <=")
			stops(t, x+" <= "+y, true, x, 1)
			stops(t, x+" "+y, true, x, 1)
			fails(t, x+" "+y, false, 1, api.ErrSyntax)
		}
		fails(t, x, false, 1, api.ErrSyntax)
		fails(t, "[ "+x+" ]", false, 3, api.ErrSyntax)
	}
	for _, x := range []string{"true", "false"} {
		reads(t, "( "+x+" )", false, x)
		reads(t, "( ( "+x+" ) )", false, x)
		for _, y := range []string{"true", "false"} {
			reads(t, x+" or "+y, false, x+" "+y+" or")
			reads(t, x+" and "+y, false, x+" "+y+" and")
			stops(t, x+" "+y, false, x, 1)
		}
		fails(t, x, true, 0, api.ErrSyntax)
		fails(t, "[ "+x+" ]", true, 1, api.ErrSyntax)
		bothFail(t, "[ "+x+" ]", 1, api.ErrSyntax)
	}
	for _, x := range []string{"and", "or", "join", "meet", "<=", ")", "]", ";", ":", ",", "<", ">", "@", "-", "=", "1", "noop", "truefalse", "ones", "botto"} {
		bothFail(t, x, 0, api.ErrSyntax)
		bothFail(t, x+" one", 0, api.ErrSyntax)
	}
	fails(t, "( true )", true, 0, api.ErrSyntax)
	fails(t, "( one )", true, 0, api.ErrSyntax)
	fails(t, "( one )", false, 2, api.ErrSyntax)
	fails(t, "( one ) <= two", false, 2, api.ErrSyntax)
	fails(t, "[ one <= two ]", false, 2, api.ErrSyntax)
	fails(t, "[ one <= two ]", true, 2, api.ErrSyntax)
}

func TestFromTheLeft(t *testing.T) {
	reads(t, "true or false or true", false, "true false or true or")
	reads(t, "true and false and true", false, "true false and true and")
	reads(t, "one join two join three", true, "one two join three join")
	reads(t, "one meet two meet three", true, "one two meet three meet")
	reads(t, "one join two join three join pc", true, "one two join three join pc join")
	reads(t, "true or ( false or true )", false, "true false true or or")
	reads(t, "true and ( false and true )", false, "true false true and and")
	reads(t, "one join [ two join three ]", true, "one two three join join")
	reads(t, "one meet [ two meet three ]", true, "one two three meet meet")
	reads(t, "one join two join three <= one meet two meet three", false, "one two join three join one two meet three meet <=")
	reads(t, "bot <= one or bot <= two or bot <= three", false, "bot one <= bot two <= or bot three <= or")
	stops(t, "one <= two <= three", false, "one two <=", 3)
	fails(t, "( one <= two <= three )", false, 4, api.ErrSyntax)
}

func TestWhatBindsMore(t *testing.T) {
	reads(t, "true or false and true", false, "true false true and or")
	reads(t, "true and false or true", false, "true false and true or")
	reads(t, "true and ( false or true )", false, "true false true or and")
	reads(t, "( true or false ) and true", false, "true false or true and")
	reads(t, "true and false or true and false", false, "true false and true false and or")
	reads(t, "true or false and true or false", false, "true false true and or false or")
	reads(t, "one join two meet three", true, "one two three meet join")
	reads(t, "one meet two join three", true, "one two meet three join")
	reads(t, "one meet [ two join three ]", true, "one two three join meet")
	reads(t, "[ one join two ] meet three", true, "one two join three meet")
	reads(t, "one meet two join three meet pc", true, "one two meet three pc meet join")
	reads(t, "one join two meet three join pc", true, "one two three meet join pc join")
	reads(t, "[ one join two ] meet three <= pc", false, "one two join three meet pc <=")
	reads(t, "one <= two or one <= three and pc <= one", false, "one two <= one three <= pc one <= and or")
	reads(t, "one <= two join three and true or false", false, "one two three join <= true and false or")
	reads(t, "one join pc <= three", false, "one pc join three <=")
}

func TestWordWhereMarkMustBe(t *testing.T) {
	fails(t, "one two", false, 1, api.ErrSyntax)
	fails(t, "one join two three", false, 3, api.ErrSyntax)
	fails(t, "one or two", false, 1, api.ErrSyntax)
	fails(t, "( true true", false, 2, api.ErrSyntax)
	fails(t, "( true true )", false, 2, api.ErrSyntax)
	bothFail(t, "[ one two ]", 2, api.ErrSyntax)
	bothFail(t, "[ one one", 2, api.ErrSyntax)
	bothFail(t, "[ one or two ]", 2, api.ErrSyntax)
	fails(t, "( one <= two true )", false, 4, api.ErrSyntax)
}

func TestNumbersAreNowhere(t *testing.T) {
	for _, s := range []string{"12", "12 <= one"} {
		bothFail(t, s, 0, api.ErrSyntax)
	}
	for _, s := range []string{"one join 12", "one meet 1", "one <= 12"} {
		fails(t, s, false, 2, api.ErrSyntax)
	}
	fails(t, "one 12", false, 1, api.ErrSyntax)
	fails(t, "one join 12", true, 2, api.ErrSyntax)
	stops(t, "one 12", true, "one", 1)
	stops(t, "one <= two 12", false, "one two <=", 3)
	stops(t, "true 12", false, "true", 1)
	fails(t, "true or 12", false, 2, api.ErrSyntax)
	fails(t, "true and 12", false, 2, api.ErrSyntax)
	fails(t, "( 12", false, 1, api.ErrSyntax)
	bothFail(t, "[ 12 ]", 1, api.ErrSyntax)
}

// asKind is the tokens of a text, but that one is of another kind.
func asKind(s string, place, kind int) []api.Tok {
	l := toks(s)
	l[place].Kind = kind
	return l
}

// TestKindThatFits holds an Atom's words to be a TWord's, and all else that is quoted to be a TWord's or a TMark's.
func TestKindThatFits(t *testing.T) {
	for _, x := range atoms {
		for _, kind := range []int{api.TMark, api.TNum, api.TEnd, -1, 4, 99} {
			refused(t, asKind(x, 0, kind), 0, true, 0, api.ErrSyntax)
			refused(t, asKind("bot join "+x, 2, kind), 0, true, 2, api.ErrSyntax)
			refused(t, asKind("[ "+x+" ]", 1, kind), 0, true, 1, api.ErrSyntax)
			refused(t, asKind(x+" <= bot", 0, kind), 0, false, 0, api.ErrSyntax)
			refused(t, asKind("bot <= "+x, 2, kind), 0, false, 2, api.ErrSyntax)
		}
	}
	for s, want := range map[string]string{
		"true": "true", "false or true": "false true or", "( true and one join two <= [ one meet two ] ) and false": "true one two join one two meet <= and false and",
	} {
		l := toks(s)
		for place, x := range l[:len(l)-1] {
			if slices.Contains(atoms, x.Text) {
				continue
			}
			for _, kind := range []int{api.TWord, api.TMark} {
				tells(t, asKind(s, place, kind), 0, false, row(want), len(l)-1)
			}
		}
	}
	for _, kind := range []int{api.TWord, api.TMark} {
		tells(t, asKind("[ one ]", 0, kind), 0, true, row("one"), 3)
		tells(t, asKind("[ one ]", 2, kind), 0, true, row("one"), 3)
		refused(t, asKind(times(13, "["), 12, kind), 0, true, 12, api.ErrDeep)
		refused(t, asKind(times(13, "("), 12, kind), 0, false, 12, api.ErrDeep)
		refused(t, asKind("] one", 0, kind), 0, true, 0, api.ErrSyntax)
	}
	for _, kind := range []int{api.TNum, api.TEnd, -1, 4, 99} {
		refused(t, asKind("true", 0, kind), 0, false, 0, api.ErrSyntax)
		refused(t, asKind("false", 0, kind), 0, false, 0, api.ErrSyntax)
		refused(t, asKind("( true )", 0, kind), 0, false, 0, api.ErrSyntax)
		refused(t, asKind("( true )", 2, kind), 0, false, 2, api.ErrSyntax)
		refused(t, asKind("[ one ]", 0, kind), 0, true, 0, api.ErrSyntax)
		refused(t, asKind("[ one ]", 2, kind), 0, true, 2, api.ErrSyntax)
		refused(t, asKind("one <= two", 1, kind), 0, false, 1, api.ErrSyntax)
		tells(t, asKind("true or false", 1, kind), 0, false, row("true"), 1)
		tells(t, asKind("true and false", 1, kind), 0, false, row("true"), 1)
		tells(t, asKind("one join two", 1, kind), 0, true, row("one"), 1)
		tells(t, asKind("one meet two", 1, kind), 0, true, row("one"), 1)
		refused(t, asKind("( true or false )", 2, kind), 0, false, 2, api.ErrSyntax)
		refused(t, asKind("( true and false )", 2, kind), 0, false, 2, api.ErrSyntax)
		refused(t, asKind("[ one join two ]", 2, kind), 0, true, 2, api.ErrSyntax)
		refused(t, asKind("[ one meet two ]", 2, kind), 0, true, 2, api.ErrSyntax)
	}
	for _, text := range []string{"", " ", "One", "one ", "tru", "truee", "<", "=", "<==", "((", "[]"} {
		for _, kind := range []int{api.TWord, api.TMark, api.TNum} {
			refused(t, []api.Tok{{Kind: kind, Text: text}, theEnd}, 0, false, 0, api.ErrSyntax)
			refused(t, []api.Tok{{Kind: kind, Text: text}, theEnd}, 0, true, 0, api.ErrSyntax)
		}
	}
}

// TestFirstThatCannotBeThere cuts a rule at each place, and puts what can't be there.
func TestFirstThatCannotBeThere(t *testing.T) {
	for _, x := range []struct {
		text, want string
		label      bool
	}{
		{"( ( true or false ) and [ one join two ] meet pc <= [ [ bot ] ] or top <= three and ( false ) )", "true false or one two join pc meet bot <= and top three <= false and or", false},
		{"[ one join two meet [ [ three ] join pc ] join top meet bot ]", "one two three pc join meet join top bot meet join", true},
	} {
		reads(t, x.text, x.label, x.want)
		words := strings.Fields(x.text)
		for i := range words {
			ahead, behind := strings.Join(words[:i], " "), strings.Join(words[i:], " ")
			fails(t, ahead, x.label, i, api.ErrSyntax)
			for _, wrong := range []string{";", "12", "noop", "<", ":"} {
				fails(t, ahead+" "+wrong, x.label, i, api.ErrSyntax)
				fails(t, ahead+" "+wrong+" "+behind, x.label, i, api.ErrSyntax)
			}
			l := toks(x.text)
			refused(t, slices.Insert(l, i, theEnd), 0, x.label, i, api.ErrSyntax)
		}
	}
}

func TestEachPlaceOfWhatCannotBeThere(t *testing.T) {
	for _, x := range []struct {
		s     string
		place int
	}{
		{"", 0}, {";", 0}, {")", 0}, {"or true", 0}, {"and true", 0}, {"<= one", 0}, {"join one", 0}, {"meet one", 0}, {"]", 0},
		{"true or", 2}, {"true or or", 2}, {"true or )", 2}, {"true or ; true", 2}, {"true and", 2}, {"true and or", 2}, {"true or true and", 4},
		{"one", 1}, {"one ;", 1}, {"one )", 1}, {"one ]", 1}, {"one <", 1}, {"one = one", 1}, {"one true", 1}, {"one and one", 1}, {"one [ one ]", 1}, {"one ( true )", 1},
		{"one <=", 2}, {"one <= ;", 2}, {"one <= true", 2}, {"one <= ( one )", 2}, {"one <= <= one", 2}, {"one <= join", 2}, {"one <= ]", 2}, {"one <= )", 2},
		{"one join", 2}, {"one join <= one", 2}, {"one join true", 2}, {"one meet", 2}, {"one meet join one", 2}, {"one <= one join", 4}, {"one <= one meet", 4}, {"one <= one and", 4}, {"one <= one or", 4},
		{"(", 1}, {"( )", 1}, {"( true", 2}, {"( true ]", 2}, {"( true ;", 2}, {"( true <= true )", 2}, {"( true join true )", 2}, {"( one <= one", 4}, {"( one <= one ]", 4}, {"( one <= one ( true ) )", 4}, {"( true ( true ) )", 2},
		{"[", 1}, {"[ ]", 1}, {"[ one", 2}, {"[ one )", 2}, {"[ one ;", 2}, {"[ one and", 2}, {"[ one [ one ] ]", 2}, {"[ ( one ) ]", 1}, {"[ one ] true", 3}, {"[ one ] ]", 3},
		{"( true or", 3}, {"( ( true )", 4}, {"( [ one ] )", 4}, {"[ [ one ]", 4},
	} {
		fails(t, x.s, false, x.place, api.ErrSyntax)
	}
	for _, x := range []struct {
		s     string
		place int
	}{
		{"", 0}, {";", 0}, {"true", 0}, {"(", 0}, {"( one )", 0}, {")", 0}, {"]", 0}, {"join", 0}, {"<= one", 0},
		{"one join", 2}, {"one join ;", 2}, {"one join true", 2}, {"one join ( one )", 2}, {"one join meet", 2}, {"one join ]", 2}, {"one meet", 2}, {"one meet )", 2}, {"one meet meet one", 2}, {"one join one meet", 4},
		{"[", 1}, {"[ ]", 1}, {"[ (", 1}, {"[ one", 2}, {"[ one )", 2}, {"[ one <= one ]", 2}, {"[ one [", 2}, {"[ one or one ]", 2}, {"[ one join", 3}, {"[ [ one ]", 4},
	} {
		fails(t, x.s, true, x.place, api.ErrSyntax)
	}
}

func TestDeep(t *testing.T) {
	for open := range 12 {
		reads(t, times(open+1, "[")+"one "+times(open+1, "]"), true, "one")
		reads(t, times(open+1, "(")+"true "+times(open+1, ")"), false, "true")
		reads(t, times(open+1, "(")+times(11-open, "[")+"one "+times(11-open, "]")+"<= two"+times(open+1, " )"), false, "one two <=")
		fails(t, times(open+1, "(")+times(12-open, "[")+"one", false, 12, api.ErrDeep)
	}
	for _, behind := range []string{"", "one", ")", "]", "[", "(", ";", times(100, "[")} {
		fails(t, times(13, "[")+behind, true, 12, api.ErrDeep)
		fails(t, times(13, "[")+behind, false, 12, api.ErrDeep)
		fails(t, times(13, "(")+behind, false, 12, api.ErrDeep)
		fails(t, times(12, "(")+"[ "+behind, false, 12, api.ErrDeep)
		fails(t, times(12, "(")+"true or ( "+behind, false, 14, api.ErrDeep)
		fails(t, times(12, "(")+"true and ( "+behind, false, 14, api.ErrDeep)
		fails(t, times(12, "(")+"one <= [ "+behind, false, 14, api.ErrDeep)
		fails(t, times(12, "[")+"one join [ "+behind, true, 14, api.ErrDeep)
		fails(t, times(12, "[")+"one meet [ "+behind, true, 14, api.ErrDeep)
		fails(t, "true or "+times(13, "(")+behind, false, 14, api.ErrDeep)
		fails(t, "one join "+times(13, "[")+behind, true, 14, api.ErrDeep)
	}
}

func TestThoseThatAreEnded(t *testing.T) {
	reads(t, times(12, "[")+"one "+times(12, "]")+"join "+times(12, "[")+"two "+times(12, "]"), true, "one two join")
	reads(t, times(12, "(")+"true "+times(12, ")")+"or "+times(12, "(")+"false "+times(12, ")"), false, "true false or")
	reads(t, times(12, "[")+"one "+times(12, "]")+"<= "+times(12, "[")+"two "+times(12, "]"), false, "one two <=")
	fails(t, times(12, "[")+"one "+times(12, "]")+"join "+times(13, "["), true, 38, api.ErrDeep)
	fails(t, times(12, "(")+"true "+times(12, ")")+"or "+times(13, "("), false, 38, api.ErrDeep)
	fails(t, times(12, "(")+"true "+times(12, ")")+"and "+times(13, "["), false, 38, api.ErrDeep)
	fails(t, times(12, "[")+"one ] join [ two ] meet [ [", true, 20, api.ErrDeep)
	fails(t, times(12, "(")+"true ) or ( ( true", false, 16, api.ErrDeep)
	reads(t, "( "+times(11, "[")+"one ] join [ two"+times(11, " ]")+" <= [ pc ] )", false, "one two join pc <=")
	reads(t, strings.Join(slices.Repeat([]string{"[ one ]"}, 20), " join "), true, "one"+strings.Repeat(" one join", 19))
	reads(t, strings.Join(slices.Repeat([]string{"( true )"}, 20), " and "), false, "true"+strings.Repeat(" true and", 19))
}

// TestDeepThatCannotBeThere holds ErrSyntax to come ahead of ErrDeep at one token.
func TestDeepThatCannotBeThere(t *testing.T) {
	bothFail(t, times(12, "[")+"(", 12, api.ErrSyntax)
	bothFail(t, times(12, "[")+"one [", 13, api.ErrSyntax)
	bothFail(t, times(12, "[")+"one (", 13, api.ErrSyntax)
	bothFail(t, times(12, "[")+"one join (", 14, api.ErrSyntax)
	fails(t, times(12, "(")+"true (", false, 13, api.ErrSyntax)
	fails(t, times(12, "(")+"one [", false, 13, api.ErrSyntax)
	fails(t, times(12, "(")+"one <= (", false, 14, api.ErrSyntax)
	fails(t, times(12, "(")+"one <= one [", false, 15, api.ErrSyntax)
	fails(t, times(12, "("), true, 0, api.ErrSyntax)
	fails(t, times(13, "("), true, 0, api.ErrSyntax)
	fails(t, "; "+times(13, "["), true, 0, api.ErrSyntax)
	fails(t, times(12, "[")+"; [", true, 12, api.ErrSyntax)
	stops(t, times(12, "[")+"one "+times(12, "]")+times(13, "["), true, "one", 25)
	stops(t, times(12, "(")+"true "+times(12, ")")+times(13, "("), false, "true", 25)
}

// TestManyOfWord has the word's number be the 41st; beside it stands what is 39 numbers still, and right.
func TestManyOfWord(t *testing.T) {
	for _, x := range []struct {
		word, part string
		label      bool
	}{{"or", "true", false}, {"or", "false", false}, {"and", "false", false}, {"and", "true", false}, {"join", "one", true}, {"meet", "bot", true}} {
		s := x.part + strings.Repeat(" "+x.word+" "+x.part, 19)
		want := x.part + strings.Repeat(" "+x.part+" "+x.word, 19)
		reads(t, s, x.label, want)
		many := s + " " + x.word + " " + x.part
		for _, behind := range []string{"", ";", "12", ")", "]", "(", "[", "one", "true", "<=", x.word, x.word + " " + x.part, "noop"} {
			fails(t, many+" "+behind, x.label, 41, api.ErrMany)
		}
		fails(t, s+" "+x.word, x.label, 40, api.ErrSyntax)
		fails(t, s+" "+x.word+" ;", x.label, 40, api.ErrSyntax)
		refused(t, append(toks(many)[:41], theEnd, theEnd), 0, x.label, 41, api.ErrMany)
	}
	left := "one" + strings.Repeat(" join one", 17) + " <= two"
	reads(t, left, false, "one"+strings.Repeat(" one join", 17)+" two <=")
	reads(t, left+" meet three", false, "one"+strings.Repeat(" one join", 17)+" two three meet <=")
	for _, behind := range []string{"", ";", "12", ")", "]", "(", "[", "one", "true", "<=", "and", "or", "noop"} {
		fails(t, left+" join two meet three "+behind, false, 41, api.ErrMany)
		fails(t, "one join "+left+" join three "+behind, false, 41, api.ErrMany)
		fails(t, "one join one join "+left+" "+behind, false, 41, api.ErrMany)
	}
	fails(t, "( "+left+" and true and true ]", false, 42, api.ErrMany)
}

// TestManyOfAtom has a word wait for what is right of it, so that there are 40 numbers ahead of the last one.
func TestManyOfAtom(t *testing.T) {
	waits := "one join two" + strings.Repeat(" meet two", 19)
	for _, behind := range []string{"", ";", "12", ")", "]", "one", "or", "join", "<="} {
		fails(t, waits+" "+behind, true, 41, api.ErrMany)
		fails(t, waits+" "+behind, false, 41, api.ErrMany)
	}
	fails(t, waits+" meet", true, 42, api.ErrSyntax)
	fails(t, waits+" meet ;", true, 42, api.ErrSyntax)
	fails(t, waits+" meet [", true, 43, api.ErrSyntax)
	for _, x := range atoms {
		for _, behind := range []string{"", ";", "12", ")", "]", "[", "one", "join", "meet", "meet one", "<=", "noop"} {
			bothFail(t, waits+" meet "+x+" "+behind, 43, api.ErrMany)
			bothFail(t, waits+" meet [ "+x+" "+behind, 44, api.ErrMany)
		}
	}
	waits = "true or true" + strings.Repeat(" and true", 19)
	for _, behind := range []string{"", ";", "or", ")", "one"} {
		fails(t, waits+" "+behind, false, 41, api.ErrMany)
	}
	fails(t, waits+" and", false, 42, api.ErrSyntax)
	fails(t, waits+" and one", false, 43, api.ErrMany)
	for _, x := range []string{"true", "false"} {
		for _, behind := range []string{"", ";", "and", "or", ")", "one", "12"} {
			fails(t, waits+" and "+x+" "+behind, false, 43, api.ErrMany)
			fails(t, waits+" and ( "+x+" "+behind, false, 44, api.ErrMany)
		}
	}
}

// TestManyAheadOfAll holds what waits to make too many ahead of what is wrong with the token behind it.
func TestManyAheadOfAll(t *testing.T) {
	open := times(12, "[") + "one" + strings.Repeat(" join one", 19)
	fails(t, open, true, 51, api.ErrSyntax)
	fails(t, open+" ] [", true, 52, api.ErrSyntax)
	fails(t, open+" join one [", true, 53, api.ErrMany)
	fails(t, open+" join one", true, 53, api.ErrMany)
	fails(t, open+" join one )", true, 53, api.ErrMany)
	fails(t, open+" join [", true, 52, api.ErrDeep)
	fails(t, open+" join one meet [", true, 54, api.ErrDeep)
	fails(t, open+" join one meet (", true, 54, api.ErrSyntax)
	fails(t, open+" join one meet one (", true, 55, api.ErrMany)
	fails(t, "one"+strings.Repeat(" join one", 100), true, 41, api.ErrMany)
	fails(t, "true"+strings.Repeat(" or true", 100), false, 41, api.ErrMany)
}

func TestWhatStandsBehind(t *testing.T) {
	for _, behind := range []string{"", ";", "; true", ":", ",", "<", "=", ")", ") )", "]", "(", "( ( (", "[", "one", "true", "false and true", "12", "noop", "bot join", times(20, "["), times(60, "one")} {
		stops(t, "true "+behind, false, "true", 1)
		stops(t, "( false ) "+behind, false, "false", 3)
		stops(t, "true or false "+behind, false, "true false or", 3)
		stops(t, "one <= two "+behind, false, "one two <=", 3)
		stops(t, "one <= [ two ] "+behind, false, "one two <=", 5)
		stops(t, "true and one <= two "+behind, false, "true one two <= and", 5)
		stops(t, "one "+behind, true, "one", 1)
		stops(t, "[ one ] "+behind, true, "one", 3)
		stops(t, "one meet two "+behind, true, "one two meet", 3)
	}
	for _, behind := range []string{"or true", "and", "<= two", "<=", "or"} {
		stops(t, "one "+behind, true, "one", 1)
		stops(t, "one join two "+behind, true, "one two join", 3)
	}
	for _, behind := range []string{"join one", "meet", "<= one", "<="} {
		stops(t, "true "+behind, false, "true", 1)
		stops(t, "( one <= two ) "+behind, false, "one two <=", 5)
	}
	stops(t, "one <= two <=", false, "one two <=", 3)
}

func TestWhatGoesOn(t *testing.T) {
	reads(t, "true or one <= two", false, "true one two <= or")
	reads(t, "one <= two join three", false, "one two three join <=")
	reads(t, "one <= two meet three", false, "one two three meet <=")
	reads(t, "one <= two and true", false, "one two <= true and")
	for _, wrong := range []string{"", ";", "12", "noop", ")", "]", "or", "and", "join", "meet", "<="} {
		for _, word := range []string{"or", "and"} {
			fails(t, "true "+word+" "+wrong, false, 2, api.ErrSyntax)
			fails(t, "one <= two "+word+" "+wrong, false, 4, api.ErrSyntax)
		}
		for _, word := range []string{"join", "meet"} {
			fails(t, "one "+word+" "+wrong, true, 2, api.ErrSyntax)
			fails(t, "one <= two "+word+" "+wrong, false, 4, api.ErrSyntax)
		}
	}
}

func TestPlaceInTheMiddle(t *testing.T) {
	l := slices.Concat(toks("[ [ [ ( ( ; 12 or"), toks("true and one <= two ; pc join bot ;"))
	tells(t, l, 9, false, row("true one two <= and"), 14)
	tells(t, l, 11, false, row("one two <="), 14)
	tells(t, l, 11, true, row("one"), 12)
	tells(t, l, 15, true, row("pc bot join"), 18)
	tells(t, l, 17, true, row("bot"), 18)
	refused(t, l, 15, false, 18, api.ErrSyntax)
	refused(t, l, 0, false, 3, api.ErrSyntax)
	refused(t, l, 3, false, 5, api.ErrSyntax)
	refused(t, l, 8, false, 8, api.ErrSyntax)
	refused(t, l, 8, true, 8, api.ErrSyntax)
	refused(t, l, 10, false, 10, api.ErrSyntax)
	refused(t, l, 19, true, 19, api.ErrSyntax)
	l = toks(times(12, "[") + times(12, "[") + "one " + times(12, "]"))
	tells(t, l, 12, true, row("one"), 37)
	tells(t, l, 20, true, row("one"), 29)
	refused(t, l, 11, true, 23, api.ErrDeep)
	l = toks("one" + strings.Repeat(" join one", 30))
	tells(t, l, 22, true, row("one"+strings.Repeat(" one join", 19)), 61)
	refused(t, l, 20, true, 61, api.ErrMany)
	refused(t, l, 10, true, 51, api.ErrMany)
}
