package show_test

import (
	"math/rand"
	"slices"
	"strings"
	"testing"

	"reticent/api"
	"reticent/lex"
	"reticent/rule"
	"reticent/show"
)

// tree is a rule by its parts; it stands beside the package, and is made otherwise.
type tree struct {
	word string
	x, y *tree
}

var (
	conditions = []string{"true", "false"}
	labels     = []string{"bot", "top", "pc", "one", "two", "three"}
)

func (x *tree) rule() []int {
	if x.x == nil {
		return []int{numbers[x.word]}
	}
	return append(slices.Concat(x.x.rule(), x.y.rule()), numbers[x.word])
}

func (x *tree) isLabel() bool {
	return slices.Contains(labels, x.word) || x.word == "join" || x.word == "meet"
}

func (x *tree) text() string {
	if x.x == nil {
		return x.word
	}
	before, behind := x.x.text(), x.y.text()
	if x.inLeft() {
		before = x.x.brackets(before)
	}
	if x.inRight() {
		behind = x.y.brackets(behind)
	}
	return before + " " + x.word + " " + behind
}

func (x *tree) brackets(text string) string {
	if x.isLabel() {
		return "[" + text + "]"
	}
	return "(" + text + ")"
}

// inLeft is whether what is left of a word stands in brackets: word by word, as the document's words come out.
func (x *tree) inLeft() bool {
	return x.word == "and" && x.x.word == "or" || x.word == "meet" && x.x.word == "join"
}

func (x *tree) inRight() bool {
	switch x.word + " " + x.y.word {
	case "or or", "and or", "and and", "join join", "meet join", "meet meet":
		return true
	}
	return false
}

func (x *tree) deep() int {
	if x.x == nil {
		return 0
	}
	before, behind := x.x.deep(), x.y.deep()
	if x.inLeft() {
		before++
	}
	if x.inRight() {
		behind++
	}
	return max(before, behind)
}

// opened is how many brackets of a text are open at once, at most.
func opened(text string) int {
	open, most := 0, 0
	for _, c := range text {
		switch c {
		case '(', '[':
			open++
		case ')', ']':
			open--
		}
		most = max(most, open)
	}
	return most
}

// holds tells a rule whose text is not its tree's.
func holds(t *testing.T, x *tree) {
	t.Helper()
	l := x.rule()
	switch {
	case len(l) > 40:
		refused(t, l, api.ErrArg)
	case x.deep() > 12:
		refused(t, l, api.ErrDeep)
	default:
		text := x.text()
		writes(t, l, text)
		if opened(text) != x.deep() {
			t.Errorf("%q: %d deep", text, x.deep())
		}
	}
	if t.Failed() {
		t.FailNow()
	}
}

// all are the trees of so many words, of these things alone.
func all(words int, conditions, labels []string) (ofConditions, ofLabels []*tree) {
	if words == 0 {
		for _, s := range conditions {
			ofConditions = append(ofConditions, &tree{word: s})
		}
		for _, s := range labels {
			ofLabels = append(ofLabels, &tree{word: s})
		}
		return ofConditions, ofLabels
	}
	for n := range words {
		c, l := all(n, conditions, labels)
		d, m := all(words-1-n, conditions, labels)
		ofConditions = append(ofConditions, pairs(c, d, "or", "and")...)
		ofConditions = append(ofConditions, pairs(l, m, "<=")...)
		ofLabels = append(ofLabels, pairs(l, m, "join", "meet")...)
	}
	return ofConditions, ofLabels
}

func pairs(xs, ys []*tree, words ...string) []*tree {
	var l []*tree
	for _, x := range xs {
		for _, y := range ys {
			for _, word := range words {
				l = append(l, &tree{word, x, y})
			}
		}
	}
	return l
}

func TestAllSmallOnes(t *testing.T) {
	for words := range 3 {
		c, l := all(words, conditions, labels)
		for _, x := range slices.Concat(c, l) {
			holds(t, x)
		}
	}
}

// TestAllShapes has one thing alone of each sort, so that rules may be longer.
func TestAllShapes(t *testing.T) {
	for words := range 7 {
		c, l := all(words, []string{"true"}, []string{"one"})
		for _, x := range slices.Concat(c, l) {
			holds(t, x)
		}
	}
}

// without is a text without each of its pairs of brackets, one at a time.
func without(text string) []string {
	var l []string
	for i := range text {
		if text[i] != '(' && text[i] != '[' {
			continue
		}
		open := 0
		for j := i; j < len(text); j++ {
			switch text[j] {
			case '(', '[':
				open++
			case ')', ']':
				open--
			}
			if open == 0 {
				l = append(l, text[:i]+text[i+1:j]+text[j+1:])
				break
			}
		}
	}
	return l
}

// isRead tells whether a text is read as a rule.
func isRead(text string, label bool, want []int) bool {
	l, _, _ := lex.Lex(text)
	got, at, e := rule.From(l, 0, label)
	return e == api.OK && at == len(l)-1 && slices.Equal(got, want)
}

// TestEachBracketIsNeeded has no pair of brackets be left out: the text is then read as another rule, or as none.
func TestEachBracketIsNeeded(t *testing.T) {
	for words := range 6 {
		c, l := all(words, []string{"true"}, []string{"one"})
		for _, x := range slices.Concat(c, l) {
			text, _ := show.Text(x.rule())
			for _, less := range without(text) {
				if isRead(less, x.isLabel(), x.rule()) {
					t.Fatalf("%q is read as %q", less, text)
				}
			}
		}
	}
}

// maker makes trees by chance, that is the same each time. Steep ones have nearly all on one side: on the right most brackets stand.
type maker struct {
	*rand.Rand
	steep bool
}

func chance(seed int64) *maker { return &maker{Rand: rand.New(rand.NewSource(seed))} }

func (m *maker) one(of []string) string { return of[m.Intn(len(of))] }

// split is how many of the words are on the left.
func (m *maker) split(words int) int {
	n := words - 1
	switch {
	case !m.steep:
		return m.Intn(n + 1)
	case m.Intn(8) == 0:
		return n - m.Intn(min(n, 2)+1)
	}
	return m.Intn(min(n, 1)+1) * m.Intn(2)
}

func (m *maker) label(words int) *tree {
	if words == 0 {
		return &tree{word: m.one(labels)}
	}
	n := m.split(words)
	return &tree{m.one([]string{"join", "meet"}), m.label(n), m.label(words - 1 - n)}
}

func (m *maker) condition(words int) *tree {
	if words == 0 {
		return &tree{word: m.one(conditions)}
	}
	n := m.split(words)
	if m.Intn(2+words/4) == 0 {
		return &tree{"<=", m.label(n), m.label(words - 1 - n)}
	}
	return &tree{m.one([]string{"or", "and"}), m.condition(n), m.condition(words - 1 - n)}
}

func (m *maker) tree(words int) *tree {
	m.steep = m.Intn(3) == 0
	if m.Intn(2) == 0 {
		return m.label(words)
	}
	return m.condition(words)
}

func TestMadeByChance(t *testing.T) {
	m := chance(1)
	deep := map[int]int{}
	for range 40000 {
		x := m.tree(m.Intn(22))
		if len(x.rule()) <= 40 {
			deep[x.deep()]++
		}
		holds(t, x)
	}
	for n := range 15 {
		if deep[n] == 0 {
			t.Error("none is so deep:", n, deep)
		}
	}
}

// spare writes a tree, that so many brackets stand around, with some inside that are not needed: never deeper than may be read.
func (m *maker) spare(x *tree, around int) string {
	if x.x == nil {
		return x.word
	}
	return m.side(x.x, x.inLeft(), around) + " " + x.word + " " + m.side(x.y, x.inRight(), around)
}

func (m *maker) side(x *tree, needed bool, around int) string {
	n := m.Intn(3) * m.Intn(2)
	if needed {
		n = 1 + m.Intn(2)
	}
	n = min(n, 12-around-x.deep())
	text := m.spare(x, around+n)
	for range n {
		text = x.brackets(text)
	}
	return text
}

func TestReadWithMoreBrackets(t *testing.T) {
	m := chance(2)
	spare, most := 0, 0
	for range 20000 {
		x := m.tree(m.Intn(20))
		if x.deep() > 12 {
			continue
		}
		text := m.side(x, false, 0)
		if text != x.text() {
			spare++
		}
		most = max(most, opened(text))
		reads(t, text, x.isLabel(), x.rule())
		writes(t, x.rule(), x.text())
		if t.Failed() {
			t.FailNow()
		}
	}
	if spare < 10000 || most != 12 {
		t.Error(spare, most)
	}
}

// TestReadByChance writes all that is read of tokens that come by chance: it is never too deep.
func TestReadByChance(t *testing.T) {
	m := chance(3)
	some := []string{"true", "one", "two", "or", "and", "<=", "join", "meet", "(", ")", "[", "]"}
	read := 0
	for range 300000 {
		words := make([]string, 1+m.Intn(9))
		for i := range words {
			words[i] = m.one(some)
		}
		l, _, _ := lex.Lex(strings.Join(words, " "))
		for _, label := range []bool{false, true} {
			made, _, e := rule.From(l, 0, label)
			if e != api.OK {
				continue
			}
			read++
			text, e := show.Text(made)
			if e != api.OK || !isRead(text, label, made) {
				t.Fatal(words, made, text, e)
			}
		}
	}
	if read < 10000 {
		t.Error(read)
	}
}

// TestAnyNumbers holds what is refused to be what is not made right.
func TestAnyNumbers(t *testing.T) {
	m := chance(4)
	count := map[api.Errno]int{}
	for range 300000 {
		l := make([]int, m.Intn(8))
		for i := range l {
			l[i] = m.Intn(16) - 1
		}
		text, e := show.Text(l)
		count[e]++
		isCondition, isLabel := rule.Right(l, false), rule.Right(l, true)
		if (e == api.OK) != (isCondition || isLabel) || e != api.OK && (e != api.ErrArg || text != "") {
			t.Fatal(l, text, e)
		}
		if e == api.OK && !isRead(text, isLabel, l) {
			t.Fatal(l, text)
		}
	}
	if count[api.OK] == 0 || count[api.ErrArg] == 0 {
		t.Error(count)
	}
}

// TestDeepestIsRead has what is 12 deep be read, and what is 13 deep be read by no one, if it were written.
func TestDeepestIsRead(t *testing.T) {
	m := chance(5)
	count := map[int]int{}
	for range 40000 {
		x := m.tree(15 + m.Intn(5))
		deep := x.deep()
		if deep < 12 {
			continue
		}
		count[deep]++
		l, _, _ := lex.Lex(x.text())
		_, _, read := rule.From(l, 0, x.isLabel())
		_, written := show.Text(x.rule())
		want := map[bool]api.Errno{true: api.OK, false: api.ErrDeep}[deep == 12]
		if read != want || written != want {
			t.Fatal(x.text(), deep, read, written)
		}
	}
	if count[12] == 0 || count[13] == 0 || count[14] == 0 {
		t.Error(count)
	}
}
