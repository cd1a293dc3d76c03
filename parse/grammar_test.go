package parse

import (
	"fmt"
	"slices"
	"strings"
	"testing"

	"whittle/api"
	"whittle/lex"
)

// The document's grammar, with each repetition written out as a rule of its own. What is no rule is a token:
// T a TEXT, S a SET, N a NAME, n a number that may be, the others as they are written.
const grammar = `
file =
file = file item ;
item = def N = re
item = map N = map_
item = token N = re
item = rule re -> to
item = rule re -> to / re _ re
to = T
to = N
re = and
re = re | and
and = cat
and = and & cat
cat = not
cat = cat not
not = ! not
not = rep
rep = atom
rep = atom *
rep = atom +
rep = atom ?
rep = atom { n }
rep = atom { n , n }
atom = plain
atom = ( re )
plain = T
plain = S
plain = .
plain = N
map_ = mcat
map_ = map_ | mcat
mcat = mrep
mcat = mcat mrep
mrep = matom
mrep = matom *
mrep = matom +
mrep = matom ?
matom = ( map_ )
matom = plain
matom = plain : T
`

// spelt is how a token of the grammar may be written.
var spelt = map[string]string{"T": `"t"`, "S": "[s]", "N": "n1", "n": "7", "low": "3", "high": "65"}

// tokens is all that may stand in a row of tokens: those of the grammar, and others.
var tokens = strings.Fields("T S N . n low high ( ) | & ! * + ? { } , : = ; -> / def map token rule _ ~ >")

// rules has the grammar's right sides by its left ones.
func rules() map[string][][]string {
	out := map[string][][]string{}
	for _, line := range strings.Split(strings.TrimSpace(grammar), "\n") {
		left, right, _ := strings.Cut(line, " =")
		out[left] = append(out[left], strings.Fields(right))
	}
	return out
}

// state is a rule of which some parts were read, from a place on.
type state struct {
	left        string
	right, read int
	from        int
}

// reading is what may have been read of a row of tokens, after each of them.
type reading struct {
	of   map[string][][]string
	sets [][]state
}

// begin is the reading of no token.
func begin(goal string) *reading {
	r := &reading{of: rules(), sets: [][]state{nil}}
	for i := range r.of[goal] {
		r.put(0, state{goal, i, 0, 0})
	}
	r.close()
	return r
}

// put puts a state into a set, once.
func (r *reading) put(n int, s state) {
	if !slices.Contains(r.sets[n], s) {
		r.sets[n] = append(r.sets[n], s)
	}
}

// close puts all that follows into the last set.
func (r *reading) close() {
	n := len(r.sets) - 1
	for i, before := 0, -1; before != len(r.sets[n]); i = 0 {
		before = len(r.sets[n])
		for ; i < len(r.sets[n]); i++ {
			s := r.sets[n][i]
			parts := r.of[s.left][s.right]
			if s.read < len(parts) {
				for k := range r.of[parts[s.read]] {
					r.put(n, state{parts[s.read], k, 0, n})
				}
				continue
			}
			for _, up := range r.sets[s.from] {
				if parts := r.of[up.left][up.right]; up.read < len(parts) && parts[up.read] == s.left {
					up.read++
					r.put(n, up)
				}
			}
		}
	}
}

// behind has all that a token may have been read as.
func (r *reading) behind(token string) []state {
	var next []state
	for _, s := range r.sets[len(r.sets)-1] {
		if parts := r.of[s.left][s.right]; s.read < len(parts) && parts[s.read] == token {
			s.read++
			next = append(next, s)
		}
	}
	return next
}

// step reads a token, and tells whether it can stand there; if not, nothing is read.
func (r *reading) step(token string) bool {
	next := r.behind(token)
	if next == nil {
		return false
	}
	r.sets = append(r.sets, next)
	r.close()
	return true
}

// back takes the last token back.
func (r *reading) back() { r.sets = r.sets[:len(r.sets)-1] }

// whole: may the tokens that were read be all?
func (r *reading) whole(goal string) bool {
	for _, s := range r.sets[len(r.sets)-1] {
		if s.left == goal && s.from == 0 && s.read == len(r.of[goal][s.right]) {
			return true
		}
	}
	return false
}

// as is which token of the grammar one is, behind others: the numbers 7, 3 and 65 are told apart.
func as(row []string, token string) string {
	switch {
	case token == "high":
		return "high"
	case token == "low" && len(row) >= 2 && row[len(row)-1] == "," && row[len(row)-2] == "n":
		return "high"
	case token == "low" || token == "n":
		return "n"
	}
	return token
}

// isDeep: does a ( or ! behind a row of tokens stand within 32 of them already? Those ! count that stand right ahead of it, or right ahead of a ( that is open.
func isDeep(row []string) bool {
	depth, bangs := 0, 0
	var open []int
	for _, x := range row {
		switch x {
		case "!":
			bangs++
			continue
		case "(":
			open = append(open, bangs+1)
			depth += bangs + 1
		case ")":
			depth -= open[len(open)-1]
			open = open[:len(open)-1]
		}
		bangs = 0
	}
	return depth+bangs >= 32
}

// write writes a row of tokens, with a blank between or more, and tells where each one begins, and where the text ends.
func write(row []string) (string, []int) {
	whites := []string{" ", "  ", "\n", " #\"(\n", "\t"}
	s := ""
	var at []int
	for i, x := range row {
		if i > 0 {
			s += whites[(len(s)+i)%len(whites)]
		}
		at = append(at, len(s))
		if w := spelt[x]; w != "" {
			x = w
		}
		s += x
	}
	return s, append(at, len(s))
}

// ask is what Re, Map or File answers, told.
func ask(goal, s string) (string, int, api.Errno) {
	switch goal {
	case "re":
		r, n, e := Re(s)
		return told(r), n, e
	case "map_":
		m, n, e := Map(s)
		return toldMap(m), n, e
	}
	l, n, e := File(s)
	return toldFile(l), n, e
}

// bySplitting is what a row of tokens that may be all says, told.
func bySplitting(goal string, row []string) string {
	switch goal {
	case "re":
		return told(reOf(row))
	case "map_":
		return toldMap(mapOf(row))
	}
	var l []api.Item
	for len(row) > 0 {
		n := slices.Index(row, ";")
		l = append(l, itemOf(row[:n]))
		row = row[n+1:]
	}
	return toldFile(l)
}

// split parts a row at each sign that stands in no brackets.
func split(row []string, sign string) [][]string {
	var out [][]string
	depth, from := 0, 0
	for i, x := range row {
		switch {
		case x == "(":
			depth++
		case x == ")":
			depth--
		case x == sign && depth == 0:
			out = append(out, row[from:i])
			from = i + 1
		}
	}
	return append(out, row[from:])
}

// units parts a row into what stands one behind the other: an atom, with the ! ahead of it, and how often it stands.
func units(row []string) [][]string {
	var out [][]string
	for len(row) > 0 {
		n := 0
		for row[n] == "!" {
			n++
		}
		if row[n] == "(" {
			for depth := 1; depth > 0; {
				n++
				depth += strings.Count(row[n], "(") - strings.Count(row[n], ")")
			}
		}
		n++
		if n < len(row) && row[n] == ":" {
			n += 2
		}
		if n < len(row) && strings.Contains("*+?", row[n]) {
			n++
		} else if n < len(row) && row[n] == "{" {
			n += slices.Index(row[n:], "}") + 1
		}
		out = append(out, row[:n])
		row = row[n:]
	}
	return out
}

// reOf is what a row of tokens says, by parting it.
func reOf(row []string) api.Re {
	if l := split(row, "|"); len(l) > 1 {
		return api.Re{Kind: 5, Parts: resOf(l)}
	}
	if l := split(row, "&"); len(l) > 1 {
		return api.Re{Kind: 6, Parts: resOf(l)}
	}
	if l := units(row); len(l) > 1 {
		return api.Re{Kind: 4, Parts: resOf(l)}
	}
	if row[0] == "!" {
		return not(reOf(row[1:]))
	}
	switch last := row[len(row)-1]; {
	case len(row) > 1 && last == "*":
		return rep(reOf(row[:len(row)-1]), 0, -1)
	case len(row) > 1 && last == "+":
		return rep(reOf(row[:len(row)-1]), 1, -1)
	case len(row) > 1 && last == "?":
		return rep(reOf(row[:len(row)-1]), 0, 1)
	case last == "}":
		n := len(row) - 1
		for row[n] != "{" {
			n--
		}
		return rep(reOf(row[:n]), numberOf(row[n+1]), numberOf(row[len(row)-2]))
	case last == ")":
		return reOf(row[1 : len(row)-1])
	}
	return plainOf(row[0])
}

// resOf is what rows say.
func resOf(l [][]string) []api.Re {
	var out []api.Re
	for _, row := range l {
		out = append(out, reOf(row))
	}
	return out
}

// numberOf is a number that is written out.
func numberOf(token string) int {
	return map[string]int{"n": 7, "low": 3}[token]
}

// plainOf is what an atom says that has no parts.
func plainOf(token string) api.Re {
	return map[string]api.Re{"T": text("t"), "S": some('s'), ".": dot(), "N": name("n1")}[token]
}

// mapOf is what a row of tokens says of a map, by parting it.
func mapOf(row []string) api.Map {
	if l := split(row, "|"); len(l) > 1 {
		return api.Map{Kind: 4, Parts: mapsOf(l)}
	}
	if l := units(row); len(l) > 1 {
		return api.Map{Kind: 3, Parts: mapsOf(l)}
	}
	switch last := row[len(row)-1]; {
	case last == "*":
		return mrep(mapOf(row[:len(row)-1]), 0, -1)
	case last == "+":
		return mrep(mapOf(row[:len(row)-1]), 1, -1)
	case last == "?":
		return mrep(mapOf(row[:len(row)-1]), 0, 1)
	case last == ")":
		return mapOf(row[1 : len(row)-1])
	}
	if len(row) == 3 {
		return out(plainOf(row[0]), "t")
	}
	return same(plainOf(row[0]))
}

// mapsOf is what rows say.
func mapsOf(l [][]string) []api.Map {
	var out []api.Map
	for _, row := range l {
		out = append(out, mapOf(row))
	}
	return out
}

// itemOf is what an item says, without what ends it.
func itemOf(row []string) api.Item {
	switch row[0] {
	case "def":
		return api.Item{Kind: 1, Name: "n1", Re: reOf(row[3:])}
	case "token":
		return api.Item{Kind: 4, Name: "n1", Re: reOf(row[3:])}
	case "map":
		return api.Item{Kind: 2, Name: "n1", Map: mapOf(row[3:])}
	}
	n := slices.Index(row, "->")
	it := api.Item{Kind: 3, Re: reOf(row[1:n])}
	if row[n+1] == "T" {
		it.Out = "t"
	} else {
		it.By = "n1"
	}
	if len(row) > n+2 {
		middle := slices.Index(row, "_")
		it.Around, it.Left, it.Right = true, reOf(row[n+3:middle]), reOf(row[middle+1:])
	}
	return it
}

// holds asks what a row of tokens says, of which the grammar tells whether it may be all.
func holds(t *testing.T, goal string, row []string, whole bool) {
	t.Helper()
	s, at := write(row)
	got, n, e := ask(goal, s)
	want, wantError := map[string]string{"re": told(api.Re{}), "map_": toldMap(api.Map{}), "file": toldFile(nil)}[goal], api.ErrForm
	if whole {
		want, wantError = bySplitting(goal, row), api.OK
	}
	if got != want || n != at[len(row)] || e != wantError {
		t.Fatalf("P7.1: %s %q: %.1000s, %d, %d, want %.1000s, %d, %d", goal, s, got, n, e, want, at[len(row)], wantError)
	}
}

// failsAt asks what a row of tokens says of which the last one is wrong, behind which others stand.
func failsAt(t *testing.T, goal string, row, behind []string, want api.Errno) {
	t.Helper()
	s, at := write(append(slices.Clone(row), behind...))
	_, n, e := ask(goal, s)
	if n != at[len(row)-1] || e != want {
		t.Fatalf("P7.1: %s %q: %d, %d, want %d, %d", goal, s, n, e, at[len(row)-1], want)
	}
}

// walkAll goes through all rows of so many tokens, by the grammar, and tells how many may be all.
func walkAll(t *testing.T, goal string, r *reading, row []string, tokens []string, most int) int {
	whole := r.whole(goal)
	holds(t, goal, row, whole)
	n := 0
	if whole {
		n++
	}
	if most == 0 {
		return n
	}
	for _, x := range tokens {
		next := append(slices.Clone(row), x)
		if r.step(as(row, x)) {
			n += walkAll(t, goal, r, next, tokens, most-1)
			r.back()
			continue
		}
		failsAt(t, goal, next, nil, api.ErrForm)
		failsAt(t, goal, next, []string{"|", ")"}, api.ErrForm)
	}
	return n
}

// TestAllRows: all rows of few tokens, by the grammar.
func TestAllRows(t *testing.T) {
	few := strings.Fields("T N ( ) | & ! * { n low } , : def")
	for _, x := range []struct {
		goal   string
		tokens []string
		most   int
	}{
		{"re", tokens, 3},
		{"re", few, 4},
		{"re", strings.Fields("N ( ) | & ! *"), 6},
		{"re", strings.Fields("N { low n high } , *"), 7},
		{"map_", tokens, 4},
		{"map_", strings.Fields("N T ( ) | : *"), 6},
		{"file", tokens, 5},
		{"file", strings.Fields("N T def map token rule = ; -> / _"), 7},
		{"file", strings.Fields("N rule ; -> / _"), 11},
	} {
		if n := walkAll(t, x.goal, begin(x.goal), nil, x.tokens, x.most); n < 10 && x.goal != "file" || n == 0 {
			t.Errorf("%s: %d rows of at most %d tokens may be all", x.goal, n, x.most)
		}
	}
}

// mixed answers a number below n, the next one of a row without an order.
func mixed(x *uint64, n int) int {
	*x = *x*6364136223846793005 + 1442695040888963407
	return int(*x >> 33 % uint64(n))
}

// TestMixedRows: long rows, each token of which can stand there; at each place all tokens that cannot.
func TestMixedRows(t *testing.T) {
	x := uint64(11)
	wholes := 0
	for i := range 90 {
		goal := []string{"re", "map_", "file"}[i%3]
		r := begin(goal)
		var row []string
		for range 40 {
			if r.whole(goal) {
				wholes++
			}
			holds(t, goal, row, r.whole(goal))
			var may []string
			for _, token := range tokens {
				if r.behind(as(row, token)) != nil {
					may = append(may, token)
					continue
				}
				failsAt(t, goal, append(slices.Clone(row), token), row[:mixed(&x, len(row)+1)], api.ErrForm)
			}
			token := may[mixed(&x, len(may))]
			r.step(as(row, token))
			row = append(row, token)
		}
	}
	if wholes < 200 {
		t.Errorf("%d rows may be all", wholes)
	}
}

// TestMixedDepths: rows that go down as often as up, to the depth that may be.
func TestMixedDepths(t *testing.T) {
	x := uint64(12)
	deep := 0
	for i := range 120 {
		goal := []string{"re", "map_", "file"}[i%3]
		row := [][]string{nil, nil, {"def", "N", "="}}[i%3]
		if i%6 == 5 {
			row = []string{"rule", "N", "->", "T", "/"}
		}
		r := begin(goal)
		for _, token := range row {
			r.step(token)
		}
		down := strings.Fields("( ( ! ( ! ! ( N ) | & *")
		for range 120 {
			token := down[mixed(&x, len(down))]
			may := r.step(as(row, token))
			next := append(slices.Clone(row), token)
			switch {
			case !may:
				failsAt(t, goal, next, nil, api.ErrForm)
			case (token == "(" || token == "!") && isDeep(row):
				deep++
				failsAt(t, goal, next, row, api.ErrDeep)
				r.back()
			default:
				row = next
				holds(t, goal, row, r.whole(goal))
			}
		}
	}
	if deep < 100 {
		t.Errorf("%d tokens were too deep", deep)
	}
}

// mixedRe is an expression that is chosen without an order, of at most so many, one in the other.
func mixedRe(x *uint64, most int) api.Re {
	kind := 1 + mixed(x, 8)
	if most == 1 {
		kind = 1 + mixed(x, 3)
	}
	r := api.Re{Kind: kind}
	switch kind {
	case api.ReText:
		r.Text = []string{"", "a", "\x00\n\"", "é", "def", strings.Repeat("b", 256)}[mixed(x, 6)]
	case api.ReSet:
		r.Set = []api.Set{{}, each, {1, 2, 3, 4}, {^uint64(0)}, {0, 1 << 33}}[mixed(x, 5)]
	case api.ReName:
		r.Text = []string{"a", "_b", "defs", "Rule", strings.Repeat("c", 31)}[mixed(x, 5)]
	case api.ReCat, api.ReAlt, api.ReAnd:
		for range 2 + mixed(x, 3) {
			r.Parts = append(r.Parts, mixedRe(x, most-1))
		}
	case api.ReNot, api.ReRep:
		r.Parts = []api.Re{mixedRe(x, most-1)}
	}
	if kind == api.ReRep {
		b := [][2]int{{0, -1}, {1, -1}, {0, 1}, {0, 0}, {3, 3}, {2, 64}, {64, 64}, {1, 1}}[mixed(x, 8)]
		r.Min, r.Max = b[0], b[1]
	}
	return r
}

// level tells how strongly a kind of expression holds together.
func level(r api.Re) int {
	return []int{0, 5, 5, 5, 2, 0, 1, 3, 4}[r.Kind]
}

// writtenRe writes an expression, in brackets where it must be, and in more of them where more says so, with white between.
func writtenRe(r api.Re, least int, more func() int) string {
	if level(r) < least || more() == 0 {
		return "(" + gap(more) + writtenRe(r, 0, more) + gap(more) + ")"
	}
	parts := func(sign string, least int) string {
		var l []string
		for _, x := range r.Parts {
			l = append(l, writtenRe(x, least, more))
		}
		return strings.Join(l, gap(more)+sign+gap(more))
	}
	switch r.Kind {
	case api.ReText:
		return lex.Text(r.Text)
	case api.ReSet:
		if r.Set == each && more() > 0 {
			return "."
		}
		return lex.Set(r.Set)
	case api.ReName:
		return r.Text
	case api.ReCat:
		return parts(" ", 3)
	case api.ReAlt:
		return parts("|", 1)
	case api.ReAnd:
		return parts("&", 2)
	case api.ReNot:
		return "!" + gap(more) + parts("", 3)
	}
	return parts("", 5) + gap(more) + writtenOften(r.Min, r.Max, more)
}

// writtenOften is how often, in one of the ways in which it may be written.
func writtenOften(min, max int, more func() int) string {
	var l []string
	switch {
	case max == -1:
		return []string{"*", "+"}[min]
	case min == 0 && max == 1:
		l = append(l, "?")
	case min == max:
		l = append(l, fmt.Sprintf("{%s%d%s}", gap(more), min, gap(more)))
	}
	l = append(l, fmt.Sprintf("{%d%s,%s%04d}", min, gap(more), gap(more), max))
	return l[more()%len(l)]
}

// gap is white, or none.
func gap(more func() int) string {
	return []string{"", "", "", " ", "\n", "\t", "# )\n", "\r\n  "}[more()%8]
}

// TestParsedAndWritten: what is written in one way or another, with more brackets and more white, says the same, and is right.
func TestParsedAndWritten(t *testing.T) {
	x := uint64(13)
	for _, chance := range []int{9, 40, 1 << 20} {
		for range 1000 {
			r := mixedRe(&x, 1+mixed(&x, 5))
			s := writtenRe(r, 0, func() int { return mixed(&x, chance) })
			got, n, e := Re(s)
			if told(got) != told(r) || n != len(s) || e != api.OK {
				t.Fatalf("P7.3: Re(%q): %s, %d, %d, want %s", s, told(got), n, e, told(r))
			}
			if e := Check(got); e != api.OK {
				t.Fatalf("P7.3: Re(%q) is not right: %d", s, e)
			}
		}
	}
}

// TestBrackets: a text in brackets says the same.
func TestBrackets(t *testing.T) {
	for _, s := range []string{"a", `"a" [b]* | !x`, "a b", "a|b", "a&b", "!a", "a*", "(a)", `""`, "a{2,3}", "!!(a|b)c"} {
		want, _, _ := Re(s)
		for n := range 30 {
			u := strings.Repeat("(", n) + s + strings.Repeat(")", n)
			if r, k, e := Re(u); told(r) != told(want) || k != len(u) || e != api.OK {
				t.Errorf("P7.3: Re(%q): %s, %d, %d, want %s", u, told(r), k, e, told(want))
			}
			a, _, _ := File("def x = " + s + ";token x=" + s + ";rule " + s + "->x/" + s + " _ " + s + ";")
			b, _, e := File("def x = " + u + ";token x=" + u + ";rule " + u + "->x/" + u + " _ " + u + ";")
			if len(a) != 3 || toldFile(a) != toldFile(b) {
				t.Errorf("P7.3: File of %q: %s, %d, want %s", u, toldFile(b), e, toldFile(a))
			}
		}
		if _, _, e := Re("(" + s); e != api.ErrForm {
			t.Errorf("P7.3: %q in half a bracket: %d", s, e)
		}
	}
	for _, s := range []string{"a", `a:"b"`, `a b:"c"|.`, "a*", `(a:"b")+`, `a|"b"?`} {
		want, _, _ := Map(s)
		for n := range 30 {
			u := strings.Repeat("(", n) + s + strings.Repeat(")", n)
			if m, k, e := Map(u); toldMap(m) != toldMap(want) || k != len(u) || e != api.OK {
				t.Errorf("P7.3: Map(%q): %s, %d, %d, want %s", u, toldMap(m), k, e, toldMap(want))
			}
		}
	}
}

// TestMoreWhite: a text with more white says the same; what is wrong is told at its own place.
func TestMoreWhite(t *testing.T) {
	for _, row := range [][]string{
		strings.Fields("rule T * -> N / ( S | . ) _ ! N { low , n } ;"),
		strings.Fields("def N = ! T & N ? ; map N = ( S : T | . ) * N ;"),
		strings.Fields("token N = T + ; rule T -> T ; rule"),
		strings.Fields("def N = T ; token = T ;"),
	} {
		want, _, wantError := ask("file", strings.Join(spell(row), " "))
		for _, white := range []string{"  ", "\n", "\r\n\t", "#\n", " # ;=\"\n "} {
			s := white + strings.Join(spell(row), white) + white
			got, n, e := ask("file", s)
			if got != want || e != wantError || e == api.OK && n != len(s) {
				t.Errorf("P7.3: File(%q): %s, %d, %d, want %s, %d", s, got, n, e, want, wantError)
			}
		}
		few := strings.ReplaceAll(strings.Join(spell(row), " "), " ; ", ";")
		if got, _, e := ask("file", few); got != want || e != wantError {
			t.Errorf("P7.3: File(%q): %s, %d, want %s, %d", few, got, e, want, wantError)
		}
	}
}

// spell is how the tokens of a row are written.
func spell(row []string) []string {
	var out []string
	for _, x := range row {
		if w := spelt[x]; w != "" {
			x = w
		}
		out = append(out, x)
	}
	return out
}

// TestParsedIsRight: an expression that is parsed is right, be it as deep as it may.
func TestParsedIsRight(t *testing.T) {
	s := "a"
	for i := range 32 {
		if i%2 == 0 {
			s = "a|b&c!(" + s + ")*"
		} else {
			s = "a|b&c(" + s + "){2,64}"
		}
		r, n, e := Re(s)
		if i < 21 && (n != len(s) || e != api.OK || Check(r) != api.OK) {
			t.Errorf("P7.3: Re(%q): %d, %d, Check %d", s, n, e, Check(r))
		}
		if i >= 21 && e != api.ErrDeep {
			t.Errorf("P7.1: Re(%q): %d, %d", s, n, e)
		}
	}
	s = "a"
	for range 32 {
		s = "a|b&c(" + s + ")*"
	}
	if r, _, e := Re(s); e != api.OK || Check(r) != api.OK || heightOf(r) != 129 {
		t.Errorf("P7.3: Re(%q): %d, Check %d, %d high", s, e, Check(r), heightOf(r))
	}
}

// heightOf is how many expressions stand one in the other.
func heightOf(r api.Re) int {
	n := 0
	for _, x := range r.Parts {
		n = max(n, heightOf(x))
	}
	return n + 1
}
