package table_test

import (
	"math/rand"
	"slices"
	"strings"
	"testing"

	"reticent/api"
	"reticent/lex"
	"reticent/rule"
	"reticent/show"
	"reticent/table"
)

// slowParse is what the document's words say, told the other way round: which piece of a row is due, token by token.
func slowParse(s string) (api.Table, int, api.Errno) {
	toks, at, e := lex.Lex(s)
	if e != api.OK {
		return api.Table{}, at, e
	}
	rows := map[string]api.Row{}
	var word, wordAt = "", 0
	var now []([]int)
	i := 0
	for due := 0; due > 0 || toks[i].Kind != api.TEnd; due = (due + 1) % 8 {
		here := toks[i]
		switch due {
		case 0:
			if here.Kind != api.TWord {
				return api.Table{}, here.At, api.ErrSyntax
			}
			_, twice := rows[here.Text]
			if twice || slowLabels(here.Text) < 0 {
				return api.Table{}, here.At, api.ErrName
			}
			word, wordAt, now = here.Text, here.At, nil
			i++
		case 1, 3, 5, 7:
			want := ";"
			if due == 1 {
				want = ":"
			}
			if here.Text != want {
				return api.Table{}, here.At, api.ErrSyntax
			}
			i++
			if due == 7 {
				rows[word] = api.Row{May: now[0], Res: now[1], Pc: now[2]}
				if slices.Max(slices.Concat(now...)) > 8 && !slowHas(slices.Concat(now...), slowLabels(word)) {
					return api.Table{}, wordAt, api.ErrArity
				}
			}
		default:
			r, k, e := rule.From(toks, i, due > 2)
			if e != api.OK {
				return api.Table{}, toks[k].At, e
			}
			now = append(now, r)
			i = k
		}
	}
	var t api.Table
	for _, x := range told {
		r, ok := rows[x.word]
		if !ok {
			return api.Table{}, len(s), api.ErrNone
		}
		t.Rows = append(t.Rows, r)
	}
	return t, 0, api.OK
}

// slowLabels is how many labels a word's instruction has: less than 0, if there is none.
func slowLabels(word string) int {
	for _, x := range told {
		if x.word == word {
			return x.labels
		}
	}
	return -1
}

func slowHas(r []int, labels int) bool {
	return !slices.ContainsFunc(r, func(n int) bool { return n >= 9+labels && n <= 11 })
}

func slowCheck(t api.Table) (int, api.Errno) {
	if len(t.Rows) != 13 {
		return 0, api.ErrArg
	}
	for op, x := range t.Rows {
		if !rule.Right(x.May, false) || !rule.Right(x.Res, true) || !rule.Right(x.Pc, true) {
			return op, api.ErrArg
		}
		if !slowHas(slices.Concat(x.May, x.Res, x.Pc), told[op].labels) {
			return op, api.ErrArity
		}
	}
	return 0, api.OK
}

func slowText(t api.Table) (string, api.Errno) {
	if _, e := slowCheck(t); e != api.OK {
		return "", e
	}
	text := ""
	for op, x := range t.Rows {
		may, e := show.Text(x.May)
		res, f := show.Text(x.Res)
		pc, g := show.Text(x.Pc)
		if e != api.OK || f != api.OK || g != api.OK {
			return "", api.ErrDeep
		}
		text += told[op].word + " : " + may + " ; " + res + " ; " + pc + " ;\n"
	}
	return text, api.OK
}

// holds tells a text that is not read as the document's words say.
func holds(t *testing.T, s string) api.Errno {
	t.Helper()
	got, at, e := table.Parse(s)
	want, i, f := slowParse(s)
	if e != f || at != i || !like(got, want) || (e == api.OK) != (got.Rows != nil) {
		t.Fatalf("%q: %v %d %v, want %v %d %v", s, got, at, e, want, i, f)
	}
	if k, g := table.Check(got); e == api.OK && (g != api.OK || k != 0) {
		t.Fatalf("%q: %v may not be: %d %v", s, got, k, g)
	}
	return e
}

// TestFewTokens has all texts of few tokens, alone and behind a row.
func TestFewTokens(t *testing.T) {
	some := []string{"noop", "pop", "none", ":", ";", "true", "one", "(", "7"}
	var all func(s string, more int)
	all = func(s string, more int) {
		holds(t, s)
		if more == 0 {
			return
		}
		for _, x := range some {
			all(s+x+" ", more-1)
		}
	}
	all("", 5)
	for _, s := range []string{"noop : ", "pop : true ; ", "pop : true ; one ; ", "noop : true ; one ; pc ", "noop : true ; pc ; pc ; ", "pop : true ; one ; two"} {
		all(s, 4)
	}
}

// TestEachTokenChanged has the usual table's text without each token, with each token twice, and with another one there.
func TestEachTokenChanged(t *testing.T) {
	words := strings.Fields(whole())
	count := map[api.Errno]int{}
	for i := range words {
		count[holds(t, strings.Join(slices.Delete(slices.Clone(words), i, i+1), " "))]++
		count[holds(t, strings.Join(slices.Insert(slices.Clone(words), i, words[i]), " "))]++
		count[holds(t, strings.Join(words[:i], " "))]++
		for _, x := range []string{
			":", ";", "true", "bot", "pc", "one", "two", "three", "<=", "join", "or", "(", "]", "7", "none", "noop", "store", "halt", "one join two", "true ;", "; pc", "one <= two",
		} {
			other := slices.Clone(words)
			other[i] = x
			count[holds(t, strings.Join(other, " "))]++
		}
	}
	for _, e := range []api.Errno{api.OK, api.ErrSyntax, api.ErrName, api.ErrArity, api.ErrNone} {
		if count[e] == 0 {
			t.Error(e, count)
		}
	}
}

// maker makes things by chance.
type maker struct{ *rand.Rand }

func chance(seed int64) maker { return maker{rand.New(rand.NewSource(seed))} }

func (m maker) one(l []string) string { return l[m.Intn(len(l))] }

// label is a label of so many things that have two parts, which names no more than it is handed.
func (m maker) label(parts, labels int) []int {
	if parts == 0 {
		return []int{6 + m.Intn(3+labels)}
	}
	left := m.Intn(parts)
	return append(slices.Concat(m.label(left, labels), m.label(parts-1-left, labels)), 12+m.Intn(2))
}

func (m maker) cond(parts, labels int) []int {
	switch {
	case parts == 0:
		return []int{1 + m.Intn(2)}
	case m.Intn(2) == 0:
		left := m.Intn(parts)
		return append(slices.Concat(m.label(left, labels), m.label(parts-1-left, labels)), 5)
	}
	left := m.Intn(parts)
	return append(slices.Concat(m.cond(left, labels), m.cond(parts-1-left, labels)), 3+m.Intn(2))
}

// table is one that may be, whose rules have no more parts than told.
func (m maker) table(parts int) api.Table {
	var t api.Table
	for _, x := range told {
		t.Rows = append(t.Rows, api.Row{
			May: m.cond(m.Intn(parts+1), x.labels), Res: m.label(m.Intn(parts+1), x.labels), Pc: m.label(m.Intn(parts+1), x.labels),
		})
	}
	return t
}

// TestWrittenIsRead has tables by chance: what is written is read as the same, if it is not too long, and its rows in any order, too.
func TestWrittenIsRead(t *testing.T) {
	m := chance(1)
	count := map[api.Errno]int{}
	for range 3000 {
		x := m.table(m.Intn(20))
		if m.Intn(10) == 0 {
			x.Rows[m.Intn(13)].Res = row(deep(m.Intn(16)))
		}
		checks(t, x, 0, api.OK)
		text, e := table.Text(x)
		want, f := slowText(x)
		if text != want || e != f {
			t.Fatalf("%v: %q %v, want %q %v", x, text, e, want, f)
		}
		if e != api.OK {
			count[e]++
			continue
		}
		toks, _, e := lex.Lex(text)
		count[e]++
		if e == api.ErrMany {
			failsAt(t, text, 0, api.ErrMany)
			continue
		}
		reads(t, text, x)
		l := strings.SplitAfter(text, "\n")[:13]
		m.Shuffle(13, func(i, k int) { l[i], l[k] = l[k], l[i] })
		reads(t, strings.Join(l, ""), x)
		reads(t, lex.Join(toks), x)
		if t.Failed() {
			t.FailNow()
		}
	}
	if count[api.OK] < 100 || count[api.ErrMany] < 100 || count[api.ErrDeep] == 0 {
		t.Error(count)
	}
}

// TestReadIsWritten has texts be changed by chance: what is still read is written, and read as the same again.
func TestReadIsWritten(t *testing.T) {
	m := chance(2)
	some := []string{":", ";", "true", "false", "and", "or", "<=", "bot", "top", "pc", "one", "two", "three", "join", "meet", "(", ")", "[", "]", "noop", "store", "none", "7", "&", "# ;\n", ","}
	count := map[api.Errno]int{}
	for range 8000 {
		x := m.table(m.Intn(3))
		text, e := table.Text(x)
		if e != api.OK {
			t.Fatal(x, e)
		}
		l := strings.SplitAfter(text, "\n")[:13]
		m.Shuffle(13, func(i, k int) { l[i], l[k] = l[k], l[i] })
		if m.Intn(20) == 0 {
			l = l[1:]
		}
		words := strings.Split(strings.ReplaceAll(strings.Join(l, ""), "\n", " \n "), " ")
		for range m.Intn(3) {
			i := m.Intn(len(words))
			switch m.Intn(3) {
			case 0:
				words = slices.Delete(words, i, i+1)
			case 1:
				words = slices.Insert(words, i, m.one(some))
			default:
				words[i] = m.one(some)
			}
		}
		s := strings.Join(words, " ")
		e = holds(t, s)
		count[e]++
		if e != api.OK {
			continue
		}
		read, _, _ := table.Parse(s)
		again, e := table.Text(read)
		if e != api.OK {
			t.Fatal(s, e)
		}
		reads(t, again, read)
	}
	for _, e := range []api.Errno{api.OK, api.ErrSyntax, api.ErrName, api.ErrArity, api.ErrNone} {
		if count[e] < 20 {
			t.Error(e, count)
		}
	}
}

// TestCheckByChance has some numbers of tables be changed, and holds Check and Text against the document's words.
func TestCheckByChance(t *testing.T) {
	m := chance(3)
	count := map[api.Errno]int{}
	for range 20000 {
		x := m.table(2)
		for range m.Intn(4) {
			r := *rules(&x.Rows[m.Intn(13)])[m.Intn(3)]
			r[m.Intn(len(r))] = m.Intn(16) - 1
		}
		if m.Intn(20) == 0 {
			i := m.Intn(13)
			x.Rows = slices.Delete(x.Rows, i, i+1)
		}
		at, e := table.Check(x)
		want, f := slowCheck(x)
		count[e]++
		if at != want || e != f {
			t.Fatalf("%v: %d %v, want %d %v", x, at, e, want, f)
		}
		text, e := table.Text(x)
		slow, f := slowText(x)
		if text != slow || e != f {
			t.Fatalf("%v: %q %v, want %q %v", x, text, e, slow, f)
		}
	}
	if count[api.OK] < 1000 || count[api.ErrArg] < 1000 || count[api.ErrArity] < 100 {
		t.Error(count)
	}
}

// TestLikeByChance has one number, one rule or one row of a table be another.
func TestLikeByChance(t *testing.T) {
	m := chance(4)
	for range 3000 {
		x := m.table(3)
		text, e := table.Text(x)
		if e != api.OK {
			t.Fatal(x, e)
		}
		y := api.Table{}
		for _, r := range x.Rows {
			y.Rows = append(y.Rows, api.Row{May: slices.Clone(r.May), Res: slices.Clone(r.Res), Pc: slices.Clone(r.Pc)})
		}
		if !table.Like(x, y) {
			t.Fatal(x, y)
		}
		r := *rules(&y.Rows[m.Intn(13)])[m.Intn(3)]
		r[m.Intn(len(r))] += 1 + m.Intn(5)
		if table.Like(x, y) || table.Like(y, x) {
			t.Fatal(x, y)
		}
		if again, e := table.Text(x); again != text || e != api.OK {
			t.Fatal(x, again, e)
		}
	}
}

// TestAnyText has texts of any bytes by chance: each is refused as the document's words say.
func TestAnyText(t *testing.T) {
	m := chance(5)
	bytes := "nopush:; truebc(<=)[one]\t\n#&\x00\xff7"
	for range 100000 {
		s := make([]byte, m.Intn(40))
		for i := range s {
			s[i] = bytes[m.Intn(len(bytes))]
		}
		if holds(t, string(s)) == api.OK {
			t.Fatalf("%q", s)
		}
	}
}
