package parse

import "whittle/api"

// fault is what ends the reading: an error, and the place of the token that is wrong.
type fault struct {
	at int
	e  api.Errno
}

// front is what tells of a token what it may begin: its kind, and which sign, or which word of the grammar, it is.
type front struct {
	kind int
	text string
}

// kind is the front of a token of a kind; of TokName, of a NAME.
func kind(k int) front { return front{kind: k} }

// sign is a sign's front.
func sign(s string) front { return front{kind: api.TokSign, text: s} }

// word is the front of a word of the grammar.
func word(s string) front { return front{kind: api.TokName, text: s} }

// frontOf is a token's front.
func frontOf(t api.Tok) front {
	if t.Kind == api.TokSign || t.Kind == api.TokName && isWord(t.Text) {
		return front{kind: t.Kind, text: t.Text}
	}
	return kind(t.Kind)
}

// isWord: is it a word of the grammar, and so no NAME?
func isWord(s string) bool {
	switch s {
	case "def", "map", "token", "rule", "_":
		return true
	}
	return false
}

// reader has the tokens that are still to be taken, with the end as the last one, and within how many ( and ! the next one stands.
type reader struct {
	toks   []api.Tok
	depth  int
	plains map[front]func(*reader) api.Re
}

// front is the next token's front.
func (r *reader) front() front { return frontOf(r.toks[0]) }

// at: does a token of this front come next?
func (r *reader) at(f front) bool { return r.front() == f }

// take takes the next token.
func (r *reader) take() api.Tok {
	tok := r.toks[0]
	r.toks = r.toks[1:]
	return tok
}

// takes takes the next token, if it is of this front, and tells whether it is.
func (r *reader) takes(f front) bool {
	is := r.at(f)
	if is {
		r.take()
	}
	return is
}

// must takes the next token, which is wrong if it is of another front.
func (r *reader) must(f front) api.Tok {
	if !r.at(f) {
		r.wrong(api.ErrForm)
	}
	return r.take()
}

// number takes a number that is not below least, nor above the limit.
func (r *reader) number(least int) int {
	tok := r.toks[0]
	if tok.Kind != api.TokNumber || tok.Number < least || tok.Number > api.MaxRep {
		r.wrong(api.ErrForm)
	}
	return r.take().Number
}

// wrong ends the reading: the next token is wrong.
func (r *reader) wrong(e api.Errno) {
	panic(fault{at: r.toks[0].At, e: e})
}

// deeper takes a ( or a ! , and reads what stands within it.
func deeper[T any](r *reader, read func(*reader) T) T {
	if r.depth == api.MaxDepth {
		r.wrong(api.ErrDeep)
	}
	r.take()
	r.depth++
	said := read(r)
	r.depth--
	return said
}

// inBrackets reads what stands between ( and ) .
func inBrackets[T any](r *reader, read func(*reader) T) T {
	said := deeper(r, read)
	r.must(sign(")"))
	return said
}

// parts reads one part, and others while there are more.
func parts[T any](r *reader, read func(*reader) T, more func() bool) []T {
	l := []T{read(r)}
	for more() {
		l = append(l, read(r))
	}
	return l
}
