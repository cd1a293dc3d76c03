package show

import "whittle/api"

// nest counts within how many brackets and ! that stands which is being written, and within how many anything stood at most.
type nest struct {
	now, most int
}

// enter: what is written from here on stands within so many more.
func (n *nest) enter(more int) {
	n.now += more
	n.most = max(n.most, n.now)
}

// leave: what is written from here on stands within so many fewer.
func (n *nest) leave(fewer int) { n.now -= fewer }

// page is what is written, and how deep it is.
type page struct {
	nest
	text    []byte
	tooLong bool
}

// put writes some bytes. Of a page that is too long nothing more is kept: its depth alone is still to be told.
func (p *page) put(s string) {
	if p.tooLong || len(s) > api.MaxRule-len(p.text) {
		p.tooLong = true
		return
	}
	p.text = append(p.text, s...)
}

// told is what was written, or what is wrong with it.
func (p *page) told() (string, api.Errno) {
	switch {
	case p.most > api.MaxDepth:
		return "", api.ErrDeep
	case p.tooLong:
		return "", api.ErrLong
	}
	return string(p.text), api.OK
}

// form is how an expression or a map is written: its level, its parts, with the level that is asked for of them, what stands ahead of them, between and behind, and how much deeper they stand than it.
type form[T any] struct {
	level, asked           int
	parts                  []T
	ahead, between, behind string
	deeper                 int
}

// inBrackets is how anything is written in brackets: within them all levels may stand.
func inBrackets[T any](x T) form[T] {
	return form[T]{parts: []T{x}, ahead: "(", behind: ")", deeper: 1}
}

// write writes an expression or a map, in brackets where its forms ask for them.
func write[T any](p *page, whole T, formOf func(T) form[T]) {
	var part func(x T, asked int)
	part = func(x T, asked int) {
		f := formOf(x)
		if f.level < asked {
			f = inBrackets(x)
		}
		p.put(f.ahead)
		p.enter(f.deeper)
		for i, y := range f.parts {
			if i > 0 {
				p.put(f.between)
			}
			part(y, f.asked)
		}
		p.leave(f.deeper)
		p.put(f.behind)
	}
	part(whole, 0)
}
