// Package notation is how numbers and labels are written and read, as shared/doc/08-code.md says: the layers whose things are made of them share it. It is no layer of its own.
package notation

import (
	"strconv"

	"reticent/api"
	"reticent/lattice"
	"reticent/lex"
	"reticent/order"
)

// maxDigits is how many bytes a number's token has at most.
const maxDigits = 4

// Number is a number, as it is written: with a blank behind the sign, for that is a token of its own.
func Number(n int) string {
	if n < 0 {
		return "- " + strconv.Itoa(-n)
	}
	return strconv.Itoa(n)
}

// Label is a label of a lattice, as it is written.
func Label(l api.Lattice, a int) string { return "@ " + l.Names[a] }

// Whole reads a whole text by what reads tokens from a place on: or tells the error, and the place of the byte where what is wrong begins.
func Whole[T any](l api.Lattice, s string, from func(l api.Lattice, toks []api.Tok, i int) (T, int, api.Errno)) (T, int, api.Errno) {
	var none T
	if e := lattice.Check(l); e != api.OK {
		return none, 0, e
	}
	toks, at, e := lex.Lex(s)
	if e != api.OK {
		return none, at, e
	}
	x, i, e := from(l, toks, 0)
	if e == api.OK && toks[i].Kind != api.TEnd {
		e = api.ErrSyntax
	}
	if e != api.OK {
		return none, toks[i].At, e
	}
	return x, 0, api.OK
}

// Reader is how far tokens are read. The last token is a TEnd and is never taken, so there always is a next one; where it stops with an error is the token that is wrong.
type Reader struct {
	Lattice api.Lattice
	Toks    []api.Tok
	At      int
}

// From is a reader from a place on: or why there can be none.
func From(l api.Lattice, toks []api.Tok, i int) (*Reader, api.Errno) {
	if e := lattice.Check(l); e != api.OK {
		return nil, e
	}
	if i < 0 || i >= len(toks) || toks[len(toks)-1].Kind != api.TEnd {
		return nil, api.ErrArg
	}
	return &Reader{Lattice: l, Toks: toks, At: i}, api.OK
}

// Next is the token that is not taken yet.
func (r *Reader) Next() api.Tok { return r.Toks[r.At] }

// Word takes a word that must be there.
func (r *Reader) Word(text string) api.Errno { return r.must(api.TWord, text) }

// Mark takes a mark that must be there.
func (r *Reader) Mark(text string) api.Errno { return r.must(api.TMark, text) }

// TakesWord takes a word, if it is there.
func (r *Reader) TakesWord(text string) bool { return r.takes(api.TWord, text) }

// TakesMark takes a mark, if it is there.
func (r *Reader) TakesMark(text string) bool { return r.takes(api.TMark, text) }

// Number takes a number.
func (r *Reader) Number() (int, api.Errno) {
	sign := 1
	if r.TakesMark("-") {
		sign = -1
	}
	t := r.Next()
	if t.Kind != api.TNum || len(t.Text) > maxDigits {
		return 0, api.ErrSyntax
	}
	r.At++
	return sign * digits(t.Text), api.OK
}

// Label takes a label's name, and the mark ahead of it.
func (r *Reader) Label() (int, api.Errno) {
	if e := r.Mark("@"); e != api.OK {
		return 0, e
	}
	t := r.Next()
	if t.Kind != api.TWord {
		return 0, api.ErrSyntax
	}
	a, e := order.Find(r.Lattice, t.Text)
	if e != api.OK {
		return 0, api.ErrName
	}
	r.At++
	return a, api.OK
}

func (r *Reader) must(kind int, text string) api.Errno {
	if !r.takes(kind, text) {
		return api.ErrSyntax
	}
	return api.OK
}

// takes asks for the kind, too: tokens need not be those that lex tells.
func (r *Reader) takes(kind int, text string) bool {
	t := r.Next()
	if t.Kind != kind || t.Text != text {
		return false
	}
	r.At++
	return true
}

// digits takes any byte for a digit: what is left of it, divided by 16, is that of `0` to `9`, and of all others some number.
func digits(text string) int {
	n := 0
	for i := range len(text) {
		n = n*10 + int(text[i]%16)
	}
	return n
}
