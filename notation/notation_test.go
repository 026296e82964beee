package notation_test

import (
	"testing"

	"reticent/api"
	"reticent/lex"
	"reticent/notation"
)

var chain = api.Lattice{Names: []string{"low", "high"}, Up: []uint32{3, 2}}

func lexed(t *testing.T, s string) []api.Tok {
	t.Helper()
	toks, _, e := lex.Lex(s)
	if e != api.OK {
		t.Fatal(s, e)
	}
	return toks
}

// at is a reader of a text's tokens, from the first one on.
func at(t *testing.T, s string) *notation.Reader {
	t.Helper()
	r, e := notation.From(chain, lexed(t, s), 0)
	if e != api.OK {
		t.Fatal(s, e)
	}
	return r
}

func TestWritten(t *testing.T) {
	for n, want := range map[int]string{0: "0", 1: "1", -1: "- 1", 20: "20", -20: "- 20", 1234: "1234"} {
		if got := notation.Number(n); got != want {
			t.Error(n, got)
		}
	}
	for a, want := range []string{"@ low", "@ high"} {
		if got := notation.Label(chain, a); got != want {
			t.Error(a, got)
		}
	}
}

func TestFrom(t *testing.T) {
	toks := lexed(t, "a b")
	for i := -1; i < 5; i++ {
		r, e := notation.From(chain, toks, i)
		if is := i >= 0 && i < 3; is != (e == api.OK) || is != (r != nil) || !is && e != api.ErrArg {
			t.Error(i, r, e)
		}
		if e == api.OK && (r.At != i || r.Next() != toks[i]) {
			t.Error(i, r)
		}
	}
	for _, x := range []struct {
		l    api.Lattice
		toks []api.Tok
		e    api.Errno
	}{
		{chain, nil, api.ErrArg}, {chain, toks[:2], api.ErrArg}, {api.Lattice{}, toks, api.ErrArg},
		{api.Lattice{Names: chain.Names, Up: []uint32{1, 2}}, nil, api.ErrJoin}, {api.Lattice{Names: chain.Names, Up: []uint32{3, 3}}, toks, api.ErrOrder},
	} {
		if r, e := notation.From(x.l, x.toks, 0); r != nil || e != x.e {
			t.Error(x, r, e)
		}
	}
}

// TestTaken has what is read stop behind it, or at what is wrong.
func TestTaken(t *testing.T) {
	for s, want := range map[string]struct {
		n, at int
		e     api.Errno
	}{
		"0": {0, 1, api.OK}, "9999 1": {9999, 1, api.OK}, "- 3": {-3, 2, api.OK}, "- 0": {0, 2, api.OK}, "-0012;": {-12, 2, api.OK},
		"": {0, 0, api.ErrSyntax}, "-": {0, 1, api.ErrSyntax}, "a": {0, 0, api.ErrSyntax}, "- -1": {0, 1, api.ErrSyntax}, "12345": {0, 0, api.ErrSyntax}, "-00000": {0, 1, api.ErrSyntax}, "@": {0, 0, api.ErrSyntax},
	} {
		r := at(t, s)
		if n, e := r.Number(); n != want.n || r.At != want.at || e != want.e {
			t.Error(s, n, r.At, e)
		}
	}
	for s, want := range map[string]struct {
		a, at int
		e     api.Errno
	}{
		"@ low": {0, 2, api.OK}, "@high ;": {1, 2, api.OK},
		"": {0, 0, api.ErrSyntax}, "low": {0, 0, api.ErrSyntax}, "@": {0, 1, api.ErrSyntax}, "@ 1": {0, 1, api.ErrSyntax}, "@ @ low": {0, 1, api.ErrSyntax}, "@ lo": {0, 1, api.ErrName}, "@ lowest ;": {0, 1, api.ErrName},
	} {
		r := at(t, s)
		if a, e := r.Label(); a != want.a || r.At != want.at || e != want.e {
			t.Error(s, a, r.At, e)
		}
	}
}

func TestWordsAndMarks(t *testing.T) {
	for s, want := range map[string][2]bool{"a": {true, false}, ";": {false, true}, "b": {}, ",": {}, "aa": {}, "1": {}, "": {}} {
		for i, take := range []struct {
			may  func(r *notation.Reader) bool
			must func(r *notation.Reader) api.Errno
		}{
			{func(r *notation.Reader) bool { return r.TakesWord("a") }, func(r *notation.Reader) api.Errno { return r.Word("a") }},
			{func(r *notation.Reader) bool { return r.TakesMark(";") }, func(r *notation.Reader) api.Errno { return r.Mark(";") }},
		} {
			may, must := at(t, s), at(t, s)
			if got := take.may(may); got != want[i] || (may.At == 1) != got {
				t.Error(s, i, got, may.At)
			}
			if e := take.must(must); (e == api.OK) != want[i] || (must.At == 1) != want[i] || e != api.OK && e != api.ErrSyntax {
				t.Error(s, i, e, must.At)
			}
		}
	}
	// Of the same Text, but of another kind.
	r, _ := notation.From(chain, []api.Tok{{Kind: api.TMark, Text: "a"}, {}}, 0)
	if r.TakesWord("a") || r.Word("a") != api.ErrSyntax || !r.TakesMark("a") {
		t.Error(r)
	}
}

// numbers are as many as there are.
func numbers(l api.Lattice, toks []api.Tok, i int) ([]int, int, api.Errno) {
	r, e := notation.From(l, toks, i)
	if e != api.OK {
		return nil, 0, e
	}
	var all []int
	for r.Next().Kind == api.TNum {
		n, e := r.Number()
		if e != api.OK {
			return nil, r.At, e
		}
		all = append(all, n)
	}
	return all, r.At, api.OK
}

func TestWhole(t *testing.T) {
	for s, want := range map[string]struct {
		n, at int
		e     api.Errno
	}{
		"": {0, 0, api.OK}, " 1 2 3 # 4": {3, 0, api.OK}, "1 2 a": {0, 4, api.ErrSyntax}, "1  12345": {0, 3, api.ErrSyntax}, "1 12345 &": {0, 8, api.ErrSyntax}, "a": {0, 0, api.ErrSyntax},
	} {
		if all, at, e := notation.Whole(chain, s, numbers); len(all) != want.n || at != want.at || e != want.e {
			t.Error(s, all, at, e)
		}
	}
	if all, at, e := notation.Whole(api.Lattice{}, "1 &", numbers); len(all) != 0 || at != 0 || e != api.ErrArg {
		t.Error(all, at, e)
	}
}
