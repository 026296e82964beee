package rule_test

import (
	"math/rand"
	"slices"
	"testing"

	"reticent/api"
	"reticent/rule"
)

var binds = map[string]int{"or": 1, "and": 2, "<=": 3, "join": 4, "meet": 5}

// slow goes from token to token, with a pile of the words and brackets that wait; it stands beside the package, and is made otherwise.
type slow struct {
	label bool
	rule  []int
	wait  []string
	open  int
	of    bool // whether what is left of the next token is a label
}

func slowFrom(l []api.Tok, i int, label bool) ([]int, int, api.Errno) {
	if i < 0 || i >= len(l) || l[len(l)-1].Kind != api.TEnd {
		return nil, 0, api.ErrArg
	}
	s := &slow{label: label}
	behind := false
	for at := i; ; at++ {
		var e api.Errno
		if !behind {
			behind, e = s.first(l[at])
		} else {
			var ended bool
			behind, ended, e = s.next(l[at])
			if ended {
				return s.rule, at, api.OK
			}
		}
		if e != api.OK {
			return nil, at, e
		}
	}
}

// quoted is what a token is, beside an Atom's word.
func quoted(x api.Tok) string {
	if x.Kind == api.TWord || x.Kind == api.TMark {
		return x.Text
	}
	return ""
}

// above is what waits behind the words left out.
func (s *slow) above(but ...string) string {
	for i := len(s.wait) - 1; i >= 0; i-- {
		if !slices.Contains(but, s.wait[i]) {
			return s.wait[i]
		}
	}
	return ""
}

// first takes a token that stands where something begins, and tells whether it is whole already.
func (s *slow) first(x api.Tok) (bool, api.Errno) {
	above := s.above()
	onlyLabel := slices.Contains([]string{"join", "meet", "<=", "["}, above) || above == "" && s.label
	text := quoted(x)
	switch {
	case x.Kind == api.TWord && slices.Contains(atoms, x.Text):
		s.rule, s.of = append(s.rule, numbers[x.Text]), true
		return true, api.OK
	case !onlyLabel && (text == "true" || text == "false"):
		s.rule, s.of = append(s.rule, numbers[text]), false
		return true, api.OK
	case text == "[" || text == "(" && !onlyLabel:
		if s.open == 12 {
			return false, api.ErrDeep
		}
		s.open++
		s.wait = append(s.wait, text)
		return false, api.OK
	}
	return false, api.ErrSyntax
}

// next takes a token that stands behind something, and tells whether something else stands whole behind it, and whether the rule ended ahead of it.
func (s *slow) next(x api.Tok) (whole, ended bool, e api.Errno) {
	text := quoted(x)
	above := s.above("join", "meet")
	left := s.of && (slices.Contains([]string{"(", "or", "and"}, above) || above == "" && !s.label)
	inLabel := above == "[" || above == "" && s.label
	isWord := s.of && (text == "join" || text == "meet") || left && text == "<=" || !left && !inLabel && (text == "or" || text == "and")
	down := 1
	if isWord {
		down = binds[text]
	} else if left {
		down = binds["join"]
	}
	for len(s.wait) > 0 && binds[s.above()] >= down {
		s.rule = append(s.rule, numbers[s.above()])
		s.wait = s.wait[:len(s.wait)-1]
	}
	above = s.above()
	switch {
	case len(s.rule) > 40:
		return false, false, api.ErrMany
	case isWord:
		s.wait = append(s.wait, text)
		return false, false, api.OK
	case left:
		return false, false, api.ErrSyntax
	case above == "(" && text == ")" || above == "[" && text == "]":
		s.wait, s.open, s.of = s.wait[:len(s.wait)-1], s.open-1, above == "["
		return true, false, api.OK
	case above == "":
		return false, true, api.OK
	}
	return false, false, api.ErrSyntax
}

// agrees holds the package against slow, and what is told to be made right.
func agrees(t *testing.T, l []api.Tok, i int, label bool) ([]int, int, api.Errno) {
	t.Helper()
	want, place, e := slowFrom(l, i, label)
	got, at, f := rule.From(l, i, label)
	if f != e || at != place || !slices.Equal(got, want) {
		t.Fatalf("%v from %d, label %v: %v %d %v, want %v %d %v", l, i, label, got, at, f, want, place, e)
	}
	if e == api.OK && (!rule.Right(got, label) || rule.Right(got, !label)) {
		t.Fatalf("%v from %d, label %v: %v is not made right", l, i, label, got)
	}
	return got, at, f
}

// every are tokens of each sort that matters.
var every = append(toks("true one or and <= join meet ( ) [ ] ; 12"), api.Tok{Kind: api.TMark, Text: "one"}, api.Tok{Kind: api.TWord, Text: "<="}, api.Tok{Kind: api.TNum, Text: "or"})

// suffixes are all rows of at most n tokens of every.
func suffixes(n int) func(yield func([]api.Tok) bool) {
	return func(yield func([]api.Tok) bool) {
		var more func(l []api.Tok) bool
		more = func(l []api.Tok) bool {
			if !yield(l) {
				return false
			}
			if len(l) == n {
				return true
			}
			for _, x := range every {
				if !more(append(l, x)) {
					return false
				}
			}
			return true
		}
		more(make([]api.Tok, 0, n))
	}
}

func TestAllSmallOnes(t *testing.T) {
	count := map[api.Errno]int{}
	for s := range suffixes(5) {
		l := append(slices.Clone(s), theEnd)
		for _, label := range []bool{false, true} {
			_, _, e := agrees(t, l, 0, label)
			count[e]++
		}
	}
	if count[api.OK] == 0 || count[api.ErrSyntax] == 0 {
		t.Error(count)
	}
}

// nearLimits are texts behind which few tokens are too many, or too deep.
func nearLimits() []string {
	l := []string{
		times(11, "["), times(11, "("), times(12, "["), times(12, "("), times(6, "(") + times(5, "["), times(6, "(") + times(6, "["),
		times(12, "(") + "one", times(12, "(") + "one <=", times(12, "[") + "one", "( " + times(12, "( true ) or"), times(12, "[") + "one ] join",
	}
	for n := 18; n <= 20; n++ {
		for _, word := range []string{"join", "meet"} {
			l = append(l, times(n, "one "+word), times(n-1, "one "+word)+"one <=", "[ "+times(n, "one "+word), times(12, "[")+times(n, "one "+word))
		}
		for _, word := range []string{"or", "and"} {
			l = append(l, times(n, "true "+word), "( "+times(n, "true "+word))
		}
		l = append(l, "one join "+times(n, "one meet"), "true or "+times(n, "true and"), "one <= one join "+times(n-1, "one meet"), "( true or true and "+times(n-1, "one meet"), "one join [ "+times(n, "one join"))
	}
	return l
}

func TestAllNearLimits(t *testing.T) {
	count := map[api.Errno]int{}
	for _, ahead := range nearLimits() {
		words := toks(ahead)
		words = words[:len(words)-1]
		for s := range suffixes(3) {
			l := slices.Concat(words, s, []api.Tok{theEnd})
			for _, label := range []bool{false, true} {
				_, _, e := agrees(t, l, 0, label)
				count[e]++
			}
		}
	}
	for _, e := range []api.Errno{api.OK, api.ErrSyntax, api.ErrDeep, api.ErrMany} {
		if count[e] == 0 {
			t.Error(count)
		}
	}
}

// maker makes rules by chance, that is the same each time, and tells their tokens and numbers.
type maker struct {
	*rand.Rand
	toks []api.Tok
	rule []int
}

func (m *maker) say(text string) { m.toks = append(m.toks, told(text)) }

func (m *maker) put(text string) { m.rule = append(m.rule, numbers[text]) }

func (m *maker) rows(deep int, part func(deep int), word string) {
	part(deep)
	for m.Intn(4) == 0 {
		m.say(word)
		part(deep)
		m.put(word)
	}
}

func (m *maker) cond(deep int) {
	m.rows(deep, func(deep int) { m.rows(deep, m.prim, "and") }, "or")
}

func (m *maker) label(deep int) {
	m.rows(deep, func(deep int) { m.rows(deep, m.atom, "meet") }, "join")
}

func (m *maker) prim(deep int) {
	switch n := m.Intn(6); {
	case n < 2:
		text := []string{"true", "false"}[n]
		m.say(text)
		m.put(text)
	case n < 4 && deep < 12:
		m.say("(")
		m.cond(deep + 1)
		m.say(")")
	default:
		m.label(deep)
		m.say("<=")
		m.label(deep)
		m.put("<=")
	}
}

func (m *maker) atom(deep int) {
	if m.Intn(3) == 0 && deep < 12 {
		m.say("[")
		m.label(deep + 1)
		m.say("]")
		return
	}
	text := atoms[m.Intn(len(atoms))]
	m.say(text)
	m.put(text)
}

// made are a rule's tokens, without an end, and the rule.
func made(r *rand.Rand, label bool) ([]api.Tok, []int) {
	m := &maker{Rand: r}
	if label {
		m.label(0)
	} else {
		m.cond(0)
	}
	return m.toks, m.rule
}

// goesOn tells whether a token goes on with a whole rule.
func goesOn(x api.Tok, l []api.Tok, label bool) bool {
	endsAsLabel := label || !slices.Contains([]string{"true", "false", ")"}, l[len(l)-1].Text)
	switch quoted(x) {
	case "join", "meet":
		return endsAsLabel
	case "or", "and":
		return !label
	}
	return false
}

func TestMadeByChance(t *testing.T) {
	r := rand.New(rand.NewSource(1))
	long := 0
	for n := range 20000 {
		label := n%2 == 0
		l, want := made(r, label)
		if len(want) > 40 {
			long++
			if _, _, e := agrees(t, append(l, theEnd), 0, label); e != api.ErrMany {
				t.Fatal(l, e)
			}
			continue
		}
		ahead := make([]api.Tok, r.Intn(4))
		for i := range ahead {
			ahead[i] = every[r.Intn(len(every))]
		}
		for _, behind := range every {
			all := slices.Concat(ahead, l, []api.Tok{behind, theEnd})
			place := len(ahead) + len(l)
			if goesOn(behind, l, label) {
				// It may be that too many are told at the word: so the error is slow's to tell.
				if _, at, e := agrees(t, all, len(ahead), label); e == api.OK || at < place {
					t.Fatal(all, at, e)
				}
				continue
			}
			tells(t, all, len(ahead), label, want, place)
		}
		if t.Failed() {
			t.FailNow()
		}
	}
	if long == 0 || long > 10000 {
		t.Error(long)
	}
}

// TestChangedByChance puts other tokens into whole rules, and begins anywhere.
func TestChangedByChance(t *testing.T) {
	r := rand.New(rand.NewSource(2))
	count := map[api.Errno]int{}
	for n := range 20000 {
		l, _ := made(r, n%3 == 0)
		l = append(l, theEnd)
		for range r.Intn(4) {
			i := r.Intn(len(l))
			switch r.Intn(3) {
			case 0:
				l[i] = every[r.Intn(len(every))]
			case 1:
				l = slices.Insert(l, i, every[r.Intn(len(every))])
			default:
				l = slices.Delete(l, i, i+1)
			}
			if len(l) == 0 {
				break
			}
		}
		for i := -1; i <= len(l); i++ {
			for _, label := range []bool{false, true} {
				_, _, e := agrees(t, l, i, label)
				count[e]++
			}
		}
	}
	for _, e := range []api.Errno{api.OK, api.ErrArg, api.ErrSyntax, api.ErrMany} {
		if count[e] == 0 {
			t.Error(count)
		}
	}
}

// TestAnyTokens holds kinds and texts to be anything.
func TestAnyTokens(t *testing.T) {
	r := rand.New(rand.NewSource(3))
	texts := []string{"", " ", "\xff", "true", "false", "and", "or", "<=", "bot", "top", "pc", "one", "two", "three", "join", "meet", "(", ")", "[", "]", ";", "9", "13"}
	for range 200000 {
		l := make([]api.Tok, r.Intn(8))
		for i := range l {
			l[i] = api.Tok{Kind: r.Intn(7) - 1, Text: texts[r.Intn(len(texts))], At: r.Intn(9) - 4}
		}
		if len(l) > 0 && r.Intn(4) > 0 {
			l[len(l)-1].Kind = api.TEnd
		}
		agrees(t, l, r.Intn(12)-2, r.Intn(2) == 0)
	}
}

func TestFromKeepsNothing(t *testing.T) {
	for s := range suffixes(3) {
		l := append(slices.Clone(s), theEnd)
		before := slices.Clone(l)
		for _, label := range []bool{false, true} {
			a, at, e := rule.From(l, 0, label)
			want := slices.Clone(a)
			b, _, _ := rule.From(l, 0, label)
			for i := range b {
				b[i] = -1
			}
			c, again, f := rule.From(l, 0, label)
			if !slices.Equal(l, before) || !slices.Equal(a, want) || !slices.Equal(c, want) || again != at || f != e {
				t.Fatal(before, l, a, c)
			}
		}
	}
}
