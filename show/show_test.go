package show_test

import (
	"math"
	"slices"
	"strings"
	"testing"

	"reticent/api"
	"reticent/lex"
	"reticent/rule"
	"reticent/show"
)

// numbers are what the document's words and marks put.
var numbers = map[string]int{
	"true": 1, "false": 2, "and": 3, "or": 4, "<=": 5, "bot": 6, "top": 7, "pc": 8, "one": 9, "two": 10, "three": 11, "join": 12, "meet": 13,
}

// row is a rule, told by the words that put its numbers, in their order.
func row(s string) []int {
	var l []int
	for _, word := range strings.Fields(s) {
		l = append(l, numbers[word])
	}
	return l
}

func times(n int, s string) string { return strings.Repeat(s, n) }

// reads tells a text that is no whole rule, or another one.
func reads(t *testing.T, text string, label bool, want []int) {
	t.Helper()
	l, _, e := lex.Lex(text)
	if e != api.OK {
		t.Fatalf("%q: %v", text, e)
	}
	if got, at, e := rule.From(l, 0, label); e != api.OK || at != len(l)-1 || !slices.Equal(got, want) {
		t.Errorf("%q, label %v: %v to %d of %d %v, want %v", text, label, got, at, len(l), e, want)
	}
}

// writes tells a rule whose text is another one, or is not read as it.
func writes(t *testing.T, l []int, want string) {
	t.Helper()
	if got, e := show.Text(l); got != want || e != api.OK {
		t.Errorf("%v: %q %v, want %q", l, got, e, want)
	}
	reads(t, want, rule.Right(l, true), l)
}

// refused tells a rule that has not its error, or a text beside it.
func refused(t *testing.T, l []int, want api.Errno) {
	t.Helper()
	if got, e := show.Text(l); got != "" || e != want {
		t.Errorf("%v: %q %v, want %v", l, got, e, want)
	}
}

func TestExample(t *testing.T) {
	writes(t, []int{9, 10, 12, 11, 13, 8, 5}, "[one join two] meet three <= pc")
}

func TestEachNumberAlone(t *testing.T) {
	for n, want := range map[int]string{1: "true", 2: "false", 6: "bot", 7: "top", 8: "pc", 9: "one", 10: "two", 11: "three"} {
		writes(t, []int{n}, want)
	}
	for _, n := range []int{3, 4, 5, 12, 13} {
		refused(t, []int{n}, api.ErrArg)
	}
}

// TestEachOfTwo has each thing on each word's left and right: how it stands there is told for each place.
func TestEachOfTwo(t *testing.T) {
	type thing struct{ rule, left, right string }
	for word, things := range map[string][]thing{
		"or": {
			{"true", "true", "true"}, {"false", "false", "false"},
			{"bot top <=", "bot <= top", "bot <= top"},
			{"one two join pc three meet <=", "one join two <= pc meet three", "one join two <= pc meet three"},
			{"true false or", "true or false", "(true or false)"},
			{"true false and", "true and false", "true and false"},
		},
		"and": {
			{"true", "true", "true"}, {"false", "false", "false"},
			{"bot top <=", "bot <= top", "bot <= top"},
			{"one two join pc three meet <=", "one join two <= pc meet three", "one join two <= pc meet three"},
			{"true false or", "(true or false)", "(true or false)"},
			{"true false and", "true and false", "(true and false)"},
		},
		"<=": {
			{"bot", "bot", "bot"}, {"top", "top", "top"}, {"pc", "pc", "pc"}, {"one", "one", "one"}, {"two", "two", "two"}, {"three", "three", "three"},
			{"one two join", "one join two", "one join two"},
			{"one two meet", "one meet two", "one meet two"},
			{"one two join pc meet", "[one join two] meet pc", "[one join two] meet pc"},
		},
		"join": {
			{"bot", "bot", "bot"}, {"top", "top", "top"}, {"pc", "pc", "pc"}, {"one", "one", "one"}, {"two", "two", "two"}, {"three", "three", "three"},
			{"one two join", "one join two", "[one join two]"},
			{"one two meet", "one meet two", "one meet two"},
		},
		"meet": {
			{"bot", "bot", "bot"}, {"top", "top", "top"}, {"pc", "pc", "pc"}, {"one", "one", "one"}, {"two", "two", "two"}, {"three", "three", "three"},
			{"one two join", "[one join two]", "[one join two]"},
			{"one two meet", "one meet two", "[one meet two]"},
		},
	} {
		for _, x := range things {
			for _, y := range things {
				writes(t, row(x.rule+" "+y.rule+" "+word), x.left+" "+word+" "+y.right)
			}
		}
	}
}

func TestOfMore(t *testing.T) {
	for s, want := range map[string]string{
		"true false or true or":                           "true or false or true",
		"true false true or or":                           "true or (false or true)",
		"true false and true and":                         "true and false and true",
		"true false true and and":                         "true and (false and true)",
		"true false true and or":                          "true or false and true",
		"true false or true and":                          "(true or false) and true",
		"one two join three join":                         "one join two join three",
		"one two three join join":                         "one join [two join three]",
		"one two meet three meet":                         "one meet two meet three",
		"one two three meet meet":                         "one meet [two meet three]",
		"one two three meet join":                         "one join two meet three",
		"one two join three meet":                         "[one join two] meet three",
		"one two <= true and false or":                    "one <= two and true or false",
		"one two <= true false or and":                    "one <= two and (true or false)",
		"one two <= pc top <= or bot three <= and":        "(one <= two or pc <= top) and bot <= three",
		"true one two <= pc top <= or and":                "true and (one <= two or pc <= top)",
		"true one two <= and":                             "true and one <= two",
		"one two three join join pc top meet <=":          "one join [two join three] <= pc meet top",
		"one two three join meet pc top bot join meet <=": "one meet [two join three] <= pc meet [top join bot]",
	} {
		writes(t, row(s), want)
	}
}

func TestTheUsualRules(t *testing.T) {
	writes(t, row("one pc join three <="), "one join pc <= three")
	writes(t, row("one two join pc join"), "one join two join pc")
}

// right is a thing whose brackets stand on the right: so many, one in the other.
func right(deep int, thing, word string) (string, string) {
	open, end := "[", "]"
	if word == "or" || word == "and" {
		open, end = "(", ")"
	}
	if deep == 0 {
		return thing + " " + thing + " " + word, thing + " " + word + " " + thing
	}
	l, text := right(deep-1, thing, word)
	return thing + " " + l + " " + word, thing + " " + word + " " + open + text + end
}

// left is a thing whose brackets stand on the left: so many, one in the other.
func left(deep int, thing, less, more, open, end string) (string, string) {
	l, text := thing+" "+thing+" "+less, thing+" "+less+" "+thing
	for range deep {
		l += " " + thing + " " + more + " " + thing + " " + less
		text = open + text + end + " " + more + " " + thing + " " + less + " " + thing
	}
	return l, text
}

func TestDeepOnTheRight(t *testing.T) {
	for _, x := range []struct{ thing, word string }{
		{"true", "or"}, {"false", "and"}, {"one", "join"}, {"pc", "meet"}, {"one pc <=", "or"}, {"one pc <=", "and"},
	} {
		for deep := range 21 {
			l, text := right(deep, x.thing, x.word)
			text = strings.ReplaceAll(text, "one pc <=", "one <= pc")
			switch n := len(row(l)); {
			case n > 40:
				refused(t, row(l), api.ErrArg)
			case deep > 12:
				refused(t, row(l), api.ErrDeep)
			default:
				writes(t, row(l), text)
			}
		}
	}
}

// TestDeepOnTheLeft goes as deep as 40 numbers go there.
func TestDeepOnTheLeft(t *testing.T) {
	for deep := range 10 {
		l, text := left(deep, "true", "or", "and", "(", ")")
		writes(t, row(l), text)
		l, text = left(deep, "two", "join", "meet", "[", "]")
		writes(t, row(l), text)
		if deep < 9 {
			writes(t, row(l+" top <="), text+" <= top")
			writes(t, row("top "+l+" <="), "top <= "+text)
		}
	}
	l, _ := left(10, "two", "join", "meet", "[", "]")
	refused(t, row(l), api.ErrArg)
}

// TestDeepOnOneSide has the other side be less deep, or as deep, with brackets and without.
func TestDeepOnOneSide(t *testing.T) {
	for _, x := range []struct{ thing, less, more, open, end string }{
		{"true", "or", "and", "(", ")"}, {"pc", "join", "meet", "[", "]"},
	} {
		small, smallText := x.thing+" "+x.thing+" "+x.less, x.thing+" "+x.less+" "+x.thing
		for deep := range 15 {
			l, text := right(deep, x.thing, x.less)
			in := x.open + text + x.end
			smallIn := x.open + smallText + x.end
			bare := api.OK
			if deep > 12 {
				bare = api.ErrDeep
			}
			inside := api.OK
			if deep+1 > 12 {
				inside = api.ErrDeep
			}
			for _, y := range []struct {
				rule, text string
				e          api.Errno
			}{
				{l + " " + x.thing + " " + x.less, text + " " + x.less + " " + x.thing, bare},
				{x.thing + " " + l + " " + x.less, x.thing + " " + x.less + " " + in, inside},
				{l + " " + x.thing + " " + x.more, in + " " + x.more + " " + x.thing, inside},
				{x.thing + " " + l + " " + x.more, x.thing + " " + x.more + " " + in, inside},
				{l + " " + small + " " + x.less, text + " " + x.less + " " + smallIn, bare},
				{small + " " + l + " " + x.less, smallText + " " + x.less + " " + in, inside},
				{l + " " + small + " " + x.more, in + " " + x.more + " " + smallIn, inside},
				{small + " " + l + " " + x.more, smallIn + " " + x.more + " " + in, inside},
			} {
				if y.e == api.OK {
					writes(t, row(y.rule), y.text)
				} else {
					refused(t, row(y.rule), y.e)
				}
			}
		}
	}
	// Each side is 3 deep: one in brackets makes 4 of it, two do not make 7, and none leaves 3.
	l, text := right(3, "one", "join")
	writes(t, row(l+" "+l+" join"), text+" join ["+text+"]")
	writes(t, row(l+" "+l+" meet"), "["+text+"] meet ["+text+"]")
	writes(t, row(l+" "+l+" <="), text+" <= "+text)
	l, text = right(7, "one", "join")
	writes(t, row(l+" "+l+" meet"), "["+text+"] meet ["+text+"]")
}

// TestDeepOfBoth has labels' brackets be in conditions': "<=" has none of its own.
func TestDeepOfBoth(t *testing.T) {
	for labels := range 17 {
		l, text := right(labels, "one", "join")
		for _, flow := range []struct{ rule, text string }{{l + " pc <=", text + " <= pc"}, {"pc " + l + " <=", "pc <= " + text}} {
			for conditions := range 17 - labels {
				s, want := flow.rule, flow.text
				for n := range conditions {
					s = "true " + s + " or"
					if n > 0 {
						want = "(" + want + ")"
					}
					want = "true or " + want
				}
				switch deep := labels + max(conditions-1, 0); {
				case len(row(s)) > 40:
					refused(t, row(s), api.ErrArg)
				case deep > 12:
					refused(t, row(s), api.ErrDeep)
				default:
					writes(t, row(s), want)
				}
			}
		}
	}
	twelve, text := right(12, "one", "join")
	writes(t, row(twelve+" pc <= true and"), text+" <= pc and true")
	writes(t, row("true "+twelve+" pc <= or"), "true or "+text+" <= pc")
	refused(t, row("true "+twelve+" pc <= true or and"), api.ErrDeep)
	refused(t, row("one "+twelve+" meet pc <="), api.ErrDeep)
	refused(t, row("pc one "+twelve+" join <="), api.ErrDeep)
}

func TestNotMadeRight(t *testing.T) {
	refused(t, nil, api.ErrArg)
	refused(t, []int{}, api.ErrArg)
	for _, s := range []string{
		"true and", "true or", "one join", "one meet", "one <=", "and true false", "true and false", "one join two", "one <= two",
		"true one and", "one true and", "one two and", "true one or", "one true or", "one two or", "true false <=", "true one <=", "one true <=",
		"true false join", "true one join", "one true join", "true false meet", "true one meet", "one true meet",
		"one two <= three <=", "one two <= three join", "true one two join and", "one two join three and",
		"true false", "one two", "true one", "one true", "one two <= true", "one two join three", "one two <= three", "true false and true", "true false and and", "one two join join",
	} {
		refused(t, row(s), api.ErrArg)
	}
	for _, n := range []int{0, -1, -9, 14, 15, 100, 256 + 9, 1<<32 + 1, 1<<32 + 9, math.MaxInt, math.MinInt, math.MinInt + 9} {
		refused(t, []int{n}, api.ErrArg)
		refused(t, []int{9, 10, n}, api.ErrArg)
		refused(t, []int{9, n, 12}, api.ErrArg)
		refused(t, []int{n, 9, 12}, api.ErrArg)
		refused(t, []int{9, n}, api.ErrArg)
		refused(t, []int{1, 2, n}, api.ErrArg)
		refused(t, []int{1, 2, 3, n}, api.ErrArg)
	}
}

func TestLongest(t *testing.T) {
	for _, x := range []struct{ thing, word string }{{"true", "or"}, {"false", "and"}, {"three", "join"}, {"three", "meet"}} {
		writes(t, row(x.thing+times(19, " "+x.thing+" "+x.word)), x.thing+times(19, " "+x.word+" "+x.thing))
		refused(t, row(x.thing+times(19, " "+x.thing+" "+x.word)+" "+x.thing), api.ErrArg)
		refused(t, row(x.thing+times(20, " "+x.thing+" "+x.word)), api.ErrArg)
		// What is deep and too long is wrong ahead of being deep.
		refused(t, row(times(20, x.thing+" ")+times(19, x.word+" ")), api.ErrDeep)
		refused(t, row(times(21, x.thing+" ")+times(20, x.word+" ")), api.ErrArg)
		refused(t, row(times(20, x.thing+" ")+times(18, x.word+" ")), api.ErrArg)
	}
	writes(t, row("one"+times(18, " one join")+" two <="), "one"+times(18, " join one")+" <= two")
	writes(t, row("one two <=" + times(9, " one two <= or") + " one two <= or")[:39], "one <= two"+times(9, " or one <= two"))
	refused(t, slices.Repeat([]int{1}, 40), api.ErrArg)
	refused(t, slices.Repeat([]int{9}, 41), api.ErrArg)
	refused(t, slices.Repeat([]int{0}, 100000), api.ErrArg)
	refused(t, row("one"+times(10000, " one join")), api.ErrArg)
}

func TestMoreBracketsThanNeeded(t *testing.T) {
	for _, x := range []struct {
		text  string
		label bool
		want  string
	}{
		{"(true)", false, "true"}, {"((false))", false, "false"}, {"[one]", true, "one"}, {"[[pc]]", true, "pc"},
		{times(12, "(") + "true" + times(12, ")"), false, "true"}, {times(12, "[") + "top" + times(12, "]"), true, "top"},
		{"(true or false) or true", false, "true or false or true"}, {"true or (false and true)", false, "true or false and true"},
		{"(true and false) or (true and false)", false, "true and false or true and false"}, {"((true and false) and true)", false, "true and false and true"},
		{"((true or false)) and ((true and false))", false, "(true or false) and (true and false)"},
		{"(one <= two) and (two <= three)", false, "one <= two and two <= three"}, {"[one join two] <= [three meet pc]", false, "one join two <= three meet pc"},
		{"([[one join [two]] meet three] <= [pc])", false, "[one join two] meet three <= pc"},
		{"[one join two] join [three meet pc]", true, "one join two join three meet pc"}, {"[one meet two] meet [[one]]", true, "one meet two meet one"},
		{"one  join\ttwo # [three]\n<=[pc]", false, "one join two <= pc"},
	} {
		l, _, _ := lex.Lex(x.text)
		made, at, e := rule.From(l, 0, x.label)
		if e != api.OK || at != len(l)-1 {
			t.Fatal(x.text, made, at, e)
		}
		writes(t, made, x.want)
	}
}

func TestRulesAreKept(t *testing.T) {
	deep, _ := right(13, "one", "join")
	for _, s := range []string{"one two join three meet pc <=", "true false true or and", "one two join", "one two and", "true", deep} {
		l := append(row(s), 99)[:len(row(s))]
		text, e := show.Text(l)
		again, f := show.Text(l)
		if !slices.Equal(l, row(s)) || l[:len(l)+1][len(l)] != 99 || again != text || f != e {
			t.Error(s, l, text, e, again, f)
		}
	}
}
