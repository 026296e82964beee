package table_test

import (
	"strings"
	"testing"

	"reticent/api"
	"reticent/lex"
	"reticent/table"
)

// reads tells a text whose table is another one.
func reads(t *testing.T, s string, want api.Table) {
	t.Helper()
	if got, at, e := table.Parse(s); e != api.OK || at != 0 || !like(got, want) {
		t.Errorf("%q: %v %d %v, want %v", s, got, at, e, want)
	}
}

// failsAt tells a text that has not its error, or a table or another place beside it.
func failsAt(t *testing.T, s string, at int, e api.Errno) {
	t.Helper()
	if got, i, f := table.Parse(s); f != e || i != at || got.Rows != nil {
		t.Errorf("%q (%d bytes): %v %d %v, want %d %v", s, len(s), got, i, f, at, e)
	}
}

// fails has the place stand in the text, behind a "!" that is left out.
func fails(t *testing.T, s string, e api.Errno) {
	t.Helper()
	ahead, behind, ok := strings.Cut(s, "!")
	if !ok {
		t.Fatalf("%q: no place", s)
	}
	failsAt(t, ahead+behind, len(ahead), e)
}

func whole() string { return strings.Join(lines(), "") }

// but is the usual table's text, but for one row.
func but(op int, line string) string {
	l := lines()
	l[op] = line + "\n"
	return strings.Join(l, "")
}

func TestReadUsual(t *testing.T) {
	reads(t, whole(), usual())
}

func TestOrderOfRows(t *testing.T) {
	l := lines()
	for range l {
		l = append(l[1:], l[0])
		reads(t, strings.Join(l, ""), usual())
		back := ""
		for _, line := range l {
			back = line + back
		}
		reads(t, back, usual())
	}
}

func TestBlanksAndRemarks(t *testing.T) {
	text := whole()
	reads(t, strings.ReplaceAll(text, "\n", ""), usual())
	reads(t, strings.ReplaceAll(text, " ", "\t \n"), usual())
	reads(t, strings.ReplaceAll(text, "\n", " # ; : noop & \xff\n"), usual())
	reads(t, strings.ReplaceAll(strings.ReplaceAll(text, " ;", ";"), " : ", ":"), usual())
	reads(t, "# a table\n\n"+text+"\n\t # the end", usual())
	reads(t, strings.TrimSpace(text), usual())
}

func TestMoreBracketsThanNeeded(t *testing.T) {
	reads(t, strings.NewReplacer("true", "(true)", "bot", "[bot]", "three", "[[three]]").Replace(whole()), usual())
	reads(t, strings.NewReplacer("one join pc", "[one] join [pc]", "two ;", "[[two]] ;").Replace(whole()), usual())
	reads(t, but(api.IStore, "store : (one join pc <= three) ; [one join two] join pc ; pc ;"), usual())
	reads(t, but(api.IHalt, "halt : "+times(12, "(")+"true"+times(12, ")")+" ; "+times(12, "[")+"bot"+times(12, "]")+" ; pc ;"), usual())
}

func TestOtherRules(t *testing.T) {
	for op, x := range told {
		want := usual()
		want.Rows[op] = api.Row{May: row("false true and bot top <= or"), Res: row("pc top meet"), Pc: row("bot pc join")}
		reads(t, but(op, x.word+" : false and true or bot <= top ; pc meet top ; bot join pc ;"), want)
		for _, name := range named[:x.labels] {
			want.Rows[op] = api.Row{May: row(name + " pc <="), Res: row("pc " + name + " meet"), Pc: row(name)}
			reads(t, but(op, x.word+" : "+name+" <= pc ; pc meet "+name+" ; ["+name+"] ;"), want)
		}
	}
}

func TestLexErrors(t *testing.T) {
	text := whole()
	reads(t, text+times(2000-len(text), " "), usual())
	failsAt(t, text+times(2001-len(text), " "), 0, api.ErrMany)
	failsAt(t, times(2001, "&"), 0, api.ErrMany)
	for _, c := range []string{"&", "A", "\r", "\x00", "\xff", "é", "."} {
		for i := range len(text) + 1 {
			failsAt(t, text[:i]+c+text[i:]+"&", i, api.ErrSyntax)
		}
	}
	// A wrong byte, and too many tokens, come ahead of all else, wherever they stand.
	fails(t, "none : ; !&", api.ErrSyntax)
	fails(t, "noop noop !& none", api.ErrSyntax)
	fails(t, text+"noop : !&", api.ErrSyntax)
	fails(t, "noop : true ; one ; pc ; !&", api.ErrSyntax)
	failsAt(t, times(200, ";"), 0, api.ErrMany)
	failsAt(t, " "+times(199, ";"), 1, api.ErrSyntax)
	failsAt(t, times(200, "none "), 0, api.ErrMany)
	failsAt(t, " "+times(199, "none "), 1, api.ErrName)
}

// TestMostTokens has tables of 199 tokens and of 201: none has 200, for what a rule grows by are two tokens each time.
func TestMostTokens(t *testing.T) {
	made := func(n int) (string, api.Table) {
		x := usual()
		x.Rows[api.INoop].Pc = row("pc" + times(19, " pc join"))
		x.Rows[api.IPush].May = row("true" + times(n, " true and"))
		l := lines()
		l[api.INoop] = "noop : true ; bot ; pc" + times(19, " join pc") + " ;\n"
		l[api.IPush] = "push : true" + times(n, " and true") + " ; one ; pc ;\n"
		return strings.Join(l, ""), x
	}
	text, x := made(16)
	if l, _, e := lex.Lex(text); len(l) != 199 || e != api.OK {
		t.Fatal(len(l), e)
	}
	reads(t, text, x)
	text, x = made(17)
	failsAt(t, text, 0, api.ErrMany)
	// It may be, though, and has a text.
	checks(t, x, 0, api.OK)
	if got, e := table.Text(x); got != text || e != api.OK {
		t.Error(got, e)
	}
}

// TestMostBytes has a table whose text has 2000 bytes, and one of which it has more.
func TestMostBytes(t *testing.T) {
	for _, spare := range []string{" ", "#", "\n", "# "} {
		left := 2000 - len(whole())
		filled := whole() + times(left, spare)[:left]
		reads(t, filled, usual())
		failsAt(t, filled+" ", 0, api.ErrMany)
	}
}

func TestWhatShouldBeThere(t *testing.T) {
	for _, s := range []string{
		"!1", "!1 noop", "!;", "!:", "!<=", "!(", "!)", "![", "!]", "!,", "!<", "!>", "!@", "!-", "!=", "  # none\n!; none",
		"noop!", "noop !;", "noop !1", "noop !noop : true ; bot ; pc ;", "noop !none", "noop !true ; bot ; pc ;", "noop !, true", "noop # : true\n!",
		"noop :!", "noop : !;", "noop : !: true ; bot ; pc ;", "noop : !noop", "noop : !none", "noop : !7", "noop : !] true", "noop : !and true",
		"noop : pc !;", "noop : [bot] !; bot", "noop : one !one", "noop : one <= !;", "noop : one <= !true", "noop : (true !;", "noop : true and !;", "noop : (one !)",
		"noop : true!", "noop : true !:", "noop : true !true", "noop : true !bot ; pc ;", "noop : true !) ; bot", "noop : true !, bot", "noop : one <= two !<= three",
		"noop : true ;!", "noop : true ; !; pc ;", "noop : true ; !: bot", "noop : true ; !true ;", "noop : true ; !push", "noop : true ; !(bot) ; pc ;", "noop : true ; !1", "noop : true ; [bot !; pc", "noop : true ; bot join !;",
		"noop : true ; bot!", "noop : true ; bot !:", "noop : true ; bot !pc ;", "noop : true ; bot !<= pc ; pc ;", "noop : true ; bot !] ; pc ;", "noop : true ; bot !and", "noop : true ; bot !, pc", "noop : true ; bot !push",
		"noop : true ; bot ;!", "noop : true ; bot ; !;", "noop : true ; bot ; !: pc", "noop : true ; bot ; !false ;", "noop : true ; bot ; !push : true", "noop : true ; bot ; [pc !;", "noop : true ; bot ; pc meet !;", "noop : true ; bot ; !2",
		"noop : true ; bot ; pc!", "noop : true ; bot ; pc !:", "noop : true ; bot ; pc !push : true ; one ; pc ;", "noop : true ; bot ; pc !<= pc ;", "noop : true ; bot ; pc !@ a ;", "noop : true ; bot ; pc # ;\n !",
		"noop : true ; bot ; pc ; !;", "noop : true ; bot ; pc ; !:", "noop : true ; bot ; pc ; !0", "noop : true ; bot ; pc ; !- push",
	} {
		fails(t, s, api.ErrSyntax)
		fails(t, lines()[api.IStore]+s, api.ErrSyntax)
	}
	fails(t, whole()+"!;", api.ErrSyntax)
	fails(t, whole()+"# more\n!12 noop : true ; bot ; pc ;", api.ErrSyntax)
}

func TestNames(t *testing.T) {
	for _, word := range []string{"none", "a", "true", "false", "pc", "one", "bot", "join", "table", "noops", "noo", "op", "nooppush", "pushpop", "inoop", "ret", "all"} {
		fails(t, "!"+word, api.ErrName)
		fails(t, "!"+word+" : true ; bot ; pc ;", api.ErrName)
		fails(t, "!"+word+" ;", api.ErrName)
		fails(t, lines()[api.IStore]+" !"+word+" : true ; bot ; pc ;", api.ErrName)
		fails(t, whole()+"!"+word, api.ErrName)
	}
}

func TestRowTwice(t *testing.T) {
	for op, x := range told {
		fails(t, lines()[op]+"!"+lines()[op], api.ErrName)
		fails(t, lines()[op]+"!"+x.word, api.ErrName)
		fails(t, lines()[op]+"!"+x.word+" ; : 7", api.ErrName)
		fails(t, whole()+"!"+lines()[op]+"7", api.ErrName)
		other := lines()[(op+1)%13]
		fails(t, lines()[op]+other+"!"+x.word+" : false ; pc ; bot ;", api.ErrName)
		fails(t, x.word+" !"+x.word, api.ErrSyntax)
	}
}

// TestRuleErrors has what rule.From tells, of each of a row's rules, and of each row.
func TestRuleErrors(t *testing.T) {
	type part struct{ head, open, thing, more string }
	for _, x := range told {
		for _, p := range []part{
			{" : ", "(", "true", " and true"},
			{" : ", "[", "pc", " join pc"},
			{" : true ; ", "[", "pc", " join pc"},
			{" : true ; pc ; ", "[", "pc", " join pc"},
		} {
			head := x.word + p.head
			fails(t, head+times(12, p.open)+"!"+p.open, api.ErrDeep)
			fails(t, head+times(12, p.open)+"!"+p.open+" none", api.ErrDeep)
			fails(t, head+times(12, p.open)+"!;", api.ErrSyntax)
			fails(t, head+p.thing+times(20, p.more)+"!", api.ErrMany)
			fails(t, head+p.thing+times(20, p.more)+" !;", api.ErrMany)
			fails(t, head+p.thing+times(20, p.more)+" !none", api.ErrMany)
			fails(t, head+p.thing+times(19, p.more)+" !none", api.ErrSyntax)
		}
	}
	fails(t, "!none : "+times(13, "("), api.ErrName)
	fails(t, lines()[3]+"!add : "+times(13, "("), api.ErrName)
	fails(t, "noop !"+times(13, "("), api.ErrSyntax)
	fails(t, "noop : true !"+times(13, "("), api.ErrSyntax)
}

// TestLabelsOfEach has each instruction name what it has not, in each of its rules: the place is its word's.
func TestLabelsOfEach(t *testing.T) {
	for op, x := range told {
		for n, name := range named {
			for _, line := range []string{
				x.word + " : " + name + " <= pc ; bot ; pc ;",
				x.word + " : true or (pc meet " + name + " <= bot) ; bot ; pc ;",
				x.word + " : true ; " + name + " ; pc ;",
				x.word + " : true ; bot join [pc meet " + name + "] ; pc ;",
				x.word + " : true ; bot ; " + name + " ;",
				x.word + " : true ; bot ; [top join " + name + "] ;",
			} {
				if n < x.labels {
					if _, at, e := table.Parse(but(op, line)); at != 0 || e != api.OK {
						t.Error(line, at, e)
					}
					continue
				}
				fails(t, "!"+line, api.ErrArity)
				fails(t, "# "+line+"\n !"+line+" none", api.ErrArity)
				fails(t, strings.Join(lines()[:op], "")+"!"+line+"\n"+strings.Join(lines()[op+1:], ""), api.ErrArity)
				fails(t, line[:len(line)-1]+"!", api.ErrSyntax)
			}
		}
	}
	fails(t, lines()[0]+"!pop : true ; two ; pc ;", api.ErrArity)
}

// TestLabelsOnceTheRowIsWhole has a row name what it has not, and be wrong elsewhere: ahead of its last `;` that comes first, behind it not.
func TestLabelsOnceTheRowIsWhole(t *testing.T) {
	fails(t, "pop : two <= pc ; bot ; pc !", api.ErrSyntax)
	fails(t, "pop : two <= pc ; !true ; pc ;", api.ErrSyntax)
	fails(t, "pop : two <= pc ; bot ; pc !: push", api.ErrSyntax)
	fails(t, "pop : two <= pc ; bot ; "+times(12, "[")+"![", api.ErrDeep)
	fails(t, "pop : two <= pc ; bot ; pc"+times(20, " join pc")+" !;", api.ErrMany)
	fails(t, "!pop : two <= pc ; bot ; pc ; none", api.ErrArity)
	fails(t, "!pop : two <= pc ; bot ; pc ; pop", api.ErrArity)
	fails(t, "!pop : true ; two ; pc ; ;", api.ErrArity)
	fails(t, "!pop : true ; bot ; two ;", api.ErrArity)
	fails(t, "!noop : true ; one ; pc ; pop : true ; two ; pc ;", api.ErrArity)
	fails(t, "halt : true ; bot ; pc ; !pop : true ; three ; pc ; noop : one <= pc ; bot ; pc ;", api.ErrArity)
}

// TestRowsThatLack holds the place to be the text's end, whatever stands ahead of it.
func TestRowsThatLack(t *testing.T) {
	for _, end := range []string{"", " ", "\n", "# none", "\t\n # : ; none"} {
		failsAt(t, end, len(end), api.ErrNone)
		for op := range told {
			text := but(op, "") + end
			failsAt(t, text, len(text), api.ErrNone)
			text = lines()[op] + end
			failsAt(t, text, len(text), api.ErrNone)
			text = but(op, "# "+told[op].word+" : true ; bot ; pc ;") + end
			failsAt(t, text, len(text), api.ErrNone)
		}
	}
	fails(t, but(4, "")+"!none", api.ErrName)
	fails(t, but(4, "")+"!;", api.ErrSyntax)
	fails(t, but(4, "")+"sub!", api.ErrSyntax)
	fails(t, but(4, "")+"!sub : true ; three ; pc ;", api.ErrArity)
}
