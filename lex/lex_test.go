package lex

import (
	"encoding/hex"
	"fmt"
	"math"
	"regexp"
	"slices"
	"strings"
	"testing"
	"unsafe"

	"whittle/api"
	"whittle/set"
)

// all is the set of all bytes.
var all = api.Set{^uint64(0), ^uint64(0), ^uint64(0), ^uint64(0)}

// Tokens, as the document names their fields, beginning at a place.
func nameAt(s string, at int) api.Tok { return api.Tok{Kind: 1, Text: s, At: at} }
func textAt(s string, at int) api.Tok { return api.Tok{Kind: 2, Text: s, At: at} }
func setAt(s api.Set, at int) api.Tok { return api.Tok{Kind: 3, Set: s, At: at} }
func signAt(s string, at int) api.Tok { return api.Tok{Kind: 4, Text: s, At: at} }
func numberAt(n int, at int) api.Tok  { return api.Tok{Kind: 5, Number: n, At: at} }
func endAt(at int) api.Tok            { return api.Tok{At: at} }

// next asks for the token of s from a place on, and tells if it isn't want, up to behind.
func next(t *testing.T, s string, at int, want api.Tok, behind int) {
	t.Helper()
	if tok, n, e := Next(s, at); tok != want || n != behind || e != api.OK {
		t.Errorf("P6.1: Next(%.300q, %d): %#v, %d, %d, want %#v, %d, 0", s, at, tok, n, e, want, behind)
	}
}

// wrong asks for the token of s from a place on, and tells if that isn't the error, at its place.
func wrong(t *testing.T, s string, at int, place int, want api.Errno) {
	t.Helper()
	if tok, n, e := Next(s, at); tok != (api.Tok{}) || n != place || e != want {
		t.Errorf("P6.1: Next(%.300q, %d): %#v, %d, %d, want none, %d, %d", s, at, tok, n, e, place, want)
	}
}

// The document's table of bytes, written out by numbers.
const (
	ofWhite  = "\x20\x0a\x0d\x09"
	ofSigns  = "=;()|&!*+?:./,{}~>"
	ofSix    = "\x5c\x22\x5b\x5d\x5e\x2d"
	ofLetter = "abcdefghijklmnopqrstuvwxyzABCDEFGHIJKLMNOPQRSTUVWXYZ_"
	ofDigit  = "0123456789"
	ofHex    = "0123456789abcdef"
)

// oneOf: is the byte one of these?
func oneOf(l string, b int) bool { return slices.Contains([]byte(l), byte(b)) }

// standsAlone: may a byte stand as it is within a text or a set?
func standsAlone(b int) bool { return b >= 0x20 && b <= 0x7e && !oneOf(ofSix, b) }

// written is the form of a byte of a text or a set, looked for in another way than by the program.
func written(b int) string {
	switch {
	case standsAlone(b):
		return string(rune(b))
	case oneOf(ofSix, b):
		return "\\" + string(rune(b))
	case b == 0x0a:
		return "\\n"
	case b == 0x09:
		return "\\t"
	case b == 0x0d:
		return "\\r"
	}
	return fmt.Sprintf("\\x%02x", b)
}

// forms has all forms that are read as a byte.
func forms(b int) []string {
	l := []string{fmt.Sprintf("\\x%02x", b)}
	if f := written(b); f != l[0] {
		l = append(l, f)
	}
	return l
}

// allBytes is a text of each byte, once.
func allBytes() string {
	var l []byte
	for b := range 256 {
		l = append(l, byte(b))
	}
	return string(l)
}

// setsOf has edges and sets of all kinds, each with its complement.
func setsOf() []api.Set {
	l := []api.Set{{}, set.Span(0, 127), set.Span(0, 128), set.Span(127, 255), set.Span(128, 255), set.Span(64, 191), set.Span(64, 192)}
	for b := range 256 {
		l = append(l, set.Of(byte(b)), set.Of(byte(b), byte(b*7+3)), set.Span(byte(b), byte(255-b)))
	}
	x := uint64(7)
	for range 200 {
		var s api.Set
		for i := range s {
			x = x*6364136223846793005 + 1442695040888963407
			s[i] = x ^ x>>31
		}
		l = append(l, s, set.Both(s, set.Span(0x20, 0x7e)), api.Set{s[0] & s[1] & s[2], 0, s[3], 0})
	}
	for _, s := range l {
		l = append(l, set.Not(s))
	}
	return l
}

func TestExample(t *testing.T) {
	s := `ab="x\n" [a-c];#`
	want := []api.Tok{nameAt("ab", 0), signAt("=", 2), textAt("x\n", 3), setAt(set.Of('a', 'b', 'c'), 9), signAt(";", 14)}
	if l, n, e := All(s); !slices.Equal(l, want) || n != len(s) || e != api.OK {
		t.Errorf("P6.2: All(%q): %#v, %d, %d, want %#v", s, l, n, e, want)
	}
}

func TestPlacesThatMayNotBe(t *testing.T) {
	for _, s := range []string{"", " ", "a", "ab = \"c\";", "%", "\"", "[", "#", strings.Repeat("a", 40)} {
		for _, at := range []int{math.MinInt, math.MinInt32, -2, -1, len(s) + 1, len(s) + 2, 1 << 33, math.MaxInt} {
			wrong(t, s, at, 0, api.ErrArg)
		}
		next(t, s, len(s), endAt(len(s)), len(s))
	}
}

func TestEnd(t *testing.T) {
	for _, s := range []string{"", " ", "\n", "\r\n", "\t \t", "#", "# a", "#\n", "##", "#\"", "#[", "# \xff\x00%", "\n#a\n#b", " # x = \"y\n ", "#\r"} {
		next(t, s, 0, endAt(len(s)), len(s))
		if l, n, e := All(s); len(l) != 0 || n != len(s) || e != api.OK {
			t.Errorf("P6.2: All(%q): %#v, %d, %d", s, l, n, e)
		}
	}
	next(t, "a  ", 1, endAt(3), 3)
	next(t, "a#b", 1, endAt(3), 3)
}

// TestPlacesWithin: what stands ahead of the place plays no part, be it a note, a text, or the beginning of a name.
func TestPlacesWithin(t *testing.T) {
	s := `ab12 "cd" # "ef`
	for _, x := range []struct {
		at     int
		want   api.Tok
		behind int
	}{
		{0, nameAt("ab12", 0), 4},
		{1, nameAt("b12", 1), 4},
		{2, numberAt(12, 2), 4},
		{3, numberAt(2, 3), 4},
		{4, textAt("cd", 5), 9},
		{5, textAt("cd", 5), 9},
		{6, nameAt("cd", 6), 8},
		{7, nameAt("d", 7), 8},
		{8, textAt(" # ", 8), 13},
		{9, endAt(15), 15},
		{10, endAt(15), 15},
		{13, nameAt("ef", 13), 15},
		{14, nameAt("f", 14), 15},
		{15, endAt(15), 15},
	} {
		next(t, s, x.at, x.want, x.behind)
	}
	wrong(t, s, 11, 12, api.ErrMore)
	wrong(t, s, 12, 12, api.ErrMore)
}

func TestWhite(t *testing.T) {
	for b := range 256 {
		s := string([]byte{byte(b)}) + "a"
		switch {
		case oneOf(ofWhite, b):
			next(t, s, 0, nameAt("a", 1), 2)
			next(t, s+s, 2, nameAt("a", 3), 4)
		case b == '#':
			next(t, s, 0, endAt(2), 2)
		default:
			if tok, _, e := Next(s, 0); e == api.OK && tok.At != 0 {
				t.Errorf("P6.1: Next(%q, 0): %#v: that is not white", s, tok)
			}
		}
		// A note ends at 0a alone.
		s = "#" + string([]byte{byte(b)}) + "a"
		if b == '\n' {
			next(t, s, 0, nameAt("a", 2), 3)
		} else {
			next(t, s, 0, endAt(3), 3)
		}
	}
	next(t, " \t\r\n#%\"\\[\n\n # \n\r\n= ", 0, signAt("=", 17), 18)
	next(t, "#a\n#b\n#c\nd", 0, nameAt("d", 9), 10)
	// # is a byte like others within a text or a set.
	next(t, "\"#a\"", 0, textAt("#a", 0), 4)
	next(t, "[#]", 0, setAt(set.Of('#'), 0), 3)
}

func TestNames(t *testing.T) {
	for b := range 256 {
		c := string([]byte{byte(b)})
		if oneOf(ofLetter, b) {
			next(t, c, 0, nameAt(c, 0), 1)
			next(t, c+"=", 0, nameAt(c, 0), 1)
		} else if tok, _, _ := Next(c, 0); tok.Kind == api.TokName {
			t.Errorf("P6.1: %q begins a name", c)
		}
		if oneOf(ofLetter+ofDigit, b) {
			next(t, "a"+c+"_", 0, nameAt("a"+c+"_", 0), 3)
		} else {
			next(t, "a"+c+"_", 0, nameAt("a", 0), 1)
		}
	}
	for _, s := range []string{"_", "_a", "a_", "__", "_0", "a0", "def", "map", "rule", "token", "Z9z_", "aA"} {
		next(t, s, 0, nameAt(s, 0), len(s))
	}
	for n := 1; n <= 31; n++ {
		for _, s := range []string{strings.Repeat("a", n), strings.Repeat("_", n), "z" + strings.Repeat("9", n-1)} {
			next(t, s, 0, nameAt(s, 0), n)
			next(t, " "+s+"-", 0, nameAt(s, 1), n+1)
		}
	}
	for _, n := range []int{32, 33, 62, 63, 64, 255, 256, 257, 70000} {
		wrong(t, strings.Repeat("a", n), 0, 0, api.ErrLong)
		wrong(t, " _"+strings.Repeat("9", n-1)+" b", 0, 1, api.ErrLong)
		next(t, strings.Repeat("a", n), n-31, nameAt(strings.Repeat("a", 31), n-31), n)
	}
	// Each part of two has at most 31 bytes, the two have more.
	next(t, strings.Repeat("a", 31)+" "+strings.Repeat("a", 31), 0, nameAt(strings.Repeat("a", 31), 0), 31)
}

// TestNamesAreNew: an answer's text is no part of what was handed in.
func TestNamesAreNew(t *testing.T) {
	s := strings.Repeat("abc = def;", 3)
	from := uintptr(unsafe.Pointer(unsafe.StringData(s)))
	l, _, _ := All(s)
	for _, x := range l {
		at := uintptr(unsafe.Pointer(unsafe.StringData(x.Text)))
		if at >= from && at < from+uintptr(len(s)) {
			t.Errorf("R2: %#v is a piece of the text", x)
		}
	}
}

func TestNumbers(t *testing.T) {
	for n := range 10000 {
		for digits := 1; digits <= 4; digits++ {
			s := fmt.Sprintf("%0*d", digits, n)
			if len(s) == digits {
				next(t, s, 0, numberAt(n, 0), digits)
				next(t, "\n"+s+"a5", 0, numberAt(n, 1), digits+1)
			}
		}
	}
	for _, s := range []string{"10000", "00000", "00001", "12345", "99999", "000000", "4294967296", "18446744073709551616", strings.Repeat("0", 70000)} {
		wrong(t, s, 0, 0, api.ErrLong)
		wrong(t, "# 1\n "+s+";", 0, 5, api.ErrLong)
		next(t, "x"+s, 1+len(s)-4, numberAt(numberOf(s[len(s)-4:]), len(s)-3), len(s)+1)
	}
	next(t, "12 34", 0, numberAt(12, 0), 2)
	next(t, "0x10", 0, numberAt(0, 0), 1)
	next(t, "1234_", 0, numberAt(1234, 0), 4)
	next(t, "1234-5", 0, numberAt(1234, 0), 4)
}

// numberOf is the number of some digits.
func numberOf(s string) int {
	n := 0
	fmt.Sscanf(s, "%d", &n)
	return n
}

func TestSigns(t *testing.T) {
	for b := range 256 {
		c := string([]byte{byte(b)})
		switch {
		case oneOf(ofSigns, b):
			for _, behind := range []string{"", " ", "a", "=", ">", "-", c, "->"} {
				next(t, c+behind, 0, signAt(c, 0), 1)
				next(t, "\t"+c+behind, 0, signAt(c, 1), 2)
			}
		case !oneOf(ofLetter+ofDigit+ofWhite+"#\"[", b):
			for _, behind := range []string{"", " ", "a", "=", "\"", c} {
				wrong(t, c+behind, 0, 0, api.ErrForm)
				wrong(t, "\t#-\n"+c+behind, 0, 4, api.ErrForm)
			}
		}
	}
	next(t, "->", 0, signAt("->", 0), 2)
	next(t, "->>", 0, signAt("->", 0), 2)
	next(t, "->->", 0, signAt("->", 0), 2)
	next(t, "a->b", 1, signAt("->", 1), 3)
	next(t, "->", 1, signAt(">", 1), 2)
	next(t, ">-", 0, signAt(">", 0), 1)
	for _, s := range []string{"-", "--", "--> ", "- >", "-a", "-\n>", "-=", "-\""} {
		wrong(t, s, 0, 0, api.ErrForm)
	}
	// What looks like a letter or a sign, but is more than one byte.
	for _, s := range []string{"é", "ß", "→", "；", "\u00a0", "\ufffd", "\xff", "\x80="} {
		wrong(t, s, 0, 0, api.ErrForm)
	}
}

func TestBytesOfTexts(t *testing.T) {
	for b := range 256 {
		c := string([]byte{byte(b)})
		switch {
		case standsAlone(b):
			next(t, "\"a"+c+"b\"", 0, textAt("a"+c+"b", 0), 5)
			next(t, "\""+c+"\";", 0, textAt(c, 0), 3)
		case b == '"':
			next(t, "\"a"+c+"b\"", 0, textAt("a", 0), 3)
		case b != '\\':
			wrong(t, "\"a"+c+"b\"", 0, 0, api.ErrForm)
			wrong(t, " \""+c, 0, 1, api.ErrForm)
		}
		for _, f := range forms(b) {
			next(t, "\""+f+"\"", 0, textAt(c, 0), len(f)+2)
			next(t, "\n\"a"+f+"7"+f+"\" ", 0, textAt("a"+c+"7"+c, 1), 2*len(f)+5)
		}
		// Behind \ .
		switch {
		case oneOf(ofSix, b):
			next(t, "\"\\"+c+"\"", 0, textAt(c, 0), 4)
		case !oneOf("ntrx", b):
			wrong(t, "\"\\"+c+"\"", 0, 0, api.ErrForm)
			wrong(t, " \"a\\"+c, 0, 1, api.ErrForm)
		}
	}
	next(t, "\"\\n\\t\\r\"", 0, textAt("\x0a\x09\x0d", 0), 8)
	next(t, "\"\"", 0, textAt("", 0), 2)
	next(t, "\"\"\"", 0, textAt("", 0), 2)
	next(t, "\"\"\"a\"", 2, textAt("a", 2), 5)
	next(t, "\"\\\\\"\"", 0, textAt("\\", 0), 4)
	next(t, "\"\\\"\"", 0, textAt("\"", 0), 4)
	next(t, "\"\\\\n\"", 0, textAt("\\n", 0), 5)
	next(t, "\"\\x0an\"", 0, textAt("\nn", 0), 7)
	next(t, "\"\\x000\"", 0, textAt("\x000", 0), 7)
}

func TestSixteens(t *testing.T) {
	for high := range 256 {
		wrong(t, "\"\\x"+string([]byte{byte(high)}), 0, 0, errorOfDigit(high))
		for low := range 256 {
			s := "\"\\x" + string([]byte{byte(high), byte(low)})
			if !oneOf(ofHex, high) || !oneOf(ofHex, low) {
				wrong(t, s+"\"", 0, 0, api.ErrForm)
				wrong(t, s, 0, 0, api.ErrForm)
				continue
			}
			b, _ := hex.DecodeString(s[3:])
			next(t, s+"\"", 0, textAt(string(b), 0), 6)
			next(t, "["+s[1:]+"]", 0, setAt(set.Of(b...), 0), 6)
			wrong(t, s, 0, 0, api.ErrMore)
		}
	}
}

// errorOfDigit is what is told of a text that ends behind the first of two digits in sixteens.
func errorOfDigit(b int) api.Errno {
	if oneOf(ofHex, b) {
		return api.ErrMore
	}
	return api.ErrForm
}

func TestLongTexts(t *testing.T) {
	for _, form := range []string{"a", "\\x00", "\\\"", "\\n", " "} {
		b, _, _ := Next("\""+form+"\"", 0)
		for _, n := range []int{1, 2, 31, 32, 64, 127, 128, 255, 256} {
			s := "\"" + strings.Repeat(form, n) + "\""
			next(t, s, 0, textAt(strings.Repeat(b.Text, n), 0), len(s))
		}
		for _, n := range []int{257, 258, 511, 512, 513, 70000} {
			s := strings.Repeat(form, n)
			wrong(t, "\""+s+"\"", 0, 0, api.ErrLong)
			wrong(t, " \""+s+"\" %", 0, 1, api.ErrLong)
			// What is wrong within it is told first.
			wrong(t, "\""+s, 0, 0, api.ErrMore)
			wrong(t, "\""+s+"\\", 0, 0, api.ErrMore)
			wrong(t, "\""+s+"\\xf", 0, 0, api.ErrMore)
			wrong(t, "\""+s+"-\"", 0, 0, api.ErrForm)
			wrong(t, "\""+s+"\\a\"", 0, 0, api.ErrForm)
			wrong(t, "\""+s+"\n", 0, 0, api.ErrForm)
		}
	}
	next(t, "\""+strings.Repeat("a", 128)+strings.Repeat("\\xff", 128)+"\"", 0, textAt(strings.Repeat("a", 128)+strings.Repeat("\xff", 128), 0), 642)
	wrong(t, "\""+strings.Repeat("a", 128)+strings.Repeat("\\xff", 129)+"\"", 0, 0, api.ErrLong)
}

func TestBytesOfSets(t *testing.T) {
	for b := range 256 {
		c := string([]byte{byte(b)})
		one := set.Of(byte(b))
		switch {
		case standsAlone(b):
			next(t, "["+c+"]", 0, setAt(one, 0), 3)
			next(t, "[^"+c+"]", 0, setAt(set.Not(one), 0), 4)
		case b == ']':
			next(t, "[a"+c+"b]", 0, setAt(set.Of('a'), 0), 3)
		case b != '\\':
			wrong(t, "[a"+c+"]", 0, 0, api.ErrForm)
			wrong(t, "  [a"+c+c, 0, 2, api.ErrForm)
			if b != '^' {
				wrong(t, "["+c+"]", 0, 0, api.ErrForm)
			}
			if b != '-' {
				wrong(t, "[a-"+c+"]", 0, 0, api.ErrForm)
			}
		}
		for _, f := range forms(b) {
			next(t, "["+f+"]", 0, setAt(one, 0), len(f)+2)
			next(t, " [^"+f+f+"]", 0, setAt(set.Not(one), 1), 2*len(f)+4)
			next(t, "["+f+"-"+f+"]", 0, setAt(one, 0), 2*len(f)+3)
		}
		switch {
		case oneOf(ofSix, b):
			next(t, "[\\"+c+"]", 0, setAt(one, 0), 4)
		case !oneOf("ntrx", b):
			wrong(t, "[\\"+c+"]", 0, 0, api.ErrForm)
			wrong(t, "[a-\\"+c+"]", 0, 0, api.ErrForm)
		}
	}
	next(t, "[\\n\\t\\r]", 0, setAt(set.Of(10, 9, 13), 0), 8)
}

func TestSets(t *testing.T) {
	for _, x := range []struct {
		s    string
		want api.Set
	}{
		{"[]", api.Set{}},
		{"[^]", all},
		{"[\\x00-\\xff]", all},
		{"[^\\x00-\\xff]", api.Set{}},
		{"[a]", set.Of('a')},
		{"[aaa]", set.Of('a')},
		{"[cab]", set.Of('a', 'b', 'c')},
		{"[a-c]", set.Of('a', 'b', 'c')},
		{"[a-a]", set.Of('a')},
		{"[a-ca-c]", set.Of('a', 'b', 'c')},
		{"[a-db-c]", set.Span('a', 'd')},
		{"[b-ca-d]", set.Span('a', 'd')},
		{"[a-cx-z_0-9]", set.Any(set.Span('a', 'c'), set.Any(set.Span('x', 'z'), set.Any(set.Of('_'), set.Span('0', '9'))))},
		{"[a-c\\-e]", set.Of('a', 'b', 'c', '-', 'e')},
		{"[\\--a]", set.Span('-', 'a')},
		{"[+-\\-]", set.Span('+', '-')},
		{"[\\--\\-]", set.Of('-')},
		{"[\\[-\\]]", set.Span('[', ']')},
		{"[\\^]", set.Of('^')},
		{"[^\\^]", set.Not(set.Of('^'))},
		{"[^a-c]", set.Not(set.Span('a', 'c'))},
		{"[ -~]", set.Span(' ', '~')},
		{"[\\t-\\r]", set.Span(9, 13)},
		{"[\\t-\\n]", set.Span(9, 10)},
		{"[#]", set.Of('#')},
	} {
		next(t, x.s, 0, setAt(x.want, 0), len(x.s))
		next(t, " #\n"+x.s+"]", 0, setAt(x.want, 3), len(x.s)+3)
	}
}

func TestRowsOfSets(t *testing.T) {
	for from := range 256 {
		for to := range 256 {
			f, g := forms(from), forms(to)
			row := f[from%len(f)] + "-" + g[to%len(g)]
			if to < from {
				wrong(t, "["+row+"]", 0, 0, api.ErrForm)
				wrong(t, "\n[^a"+row, 0, 1, api.ErrForm)
				continue
			}
			var in api.Set
			for b := from; b <= to; b++ {
				in[b/64] |= 1 << (b % 64)
			}
			next(t, "["+row+"]", 0, setAt(in, 0), len(row)+2)
			next(t, "[^"+row+"]", 0, setAt(set.Not(in), 0), len(row)+3)
		}
	}
}

// TestWrongFirst: what is wrong first, from the front on, is told, with the place of the token.
func TestWrongFirst(t *testing.T) {
	for _, x := range []struct {
		s    string
		want api.Errno
	}{
		{"\"", api.ErrMore},
		{"\"a", api.ErrMore},
		{"\"a ", api.ErrMore},
		{"\"#\n", api.ErrForm},
		{"\"\\", api.ErrMore},
		{"\"\\\"", api.ErrMore},
		{"\"\\\\", api.ErrMore},
		{"\"\\x", api.ErrMore},
		{"\"\\x0", api.ErrMore},
		{"\"\\x00", api.ErrMore},
		{"\"\\xg", api.ErrForm},
		{"\"\\x\"", api.ErrForm},
		{"\"\\x0\"", api.ErrForm},
		{"\"\\xA0\"", api.ErrForm},
		{"\"\\x0A\"", api.ErrForm},
		{"\"\\X00\"", api.ErrForm},
		{"\"\\a\"", api.ErrForm},
		{"\"\\N\"", api.ErrForm},
		{"\"\\ ", api.ErrForm},
		{"\"\\#", api.ErrForm},
		{"\"\\\n", api.ErrForm},
		{"\"\n", api.ErrForm},
		{"\"\x1f", api.ErrForm},
		{"\"\x7f", api.ErrForm},
		{"\"\x80", api.ErrForm},
		{"\"\xff\"", api.ErrForm},
		{"\"é\"", api.ErrForm},
		{"\"^", api.ErrForm},
		{"\"[a]\"", api.ErrForm},
		{"\"]", api.ErrForm},
		{"\"-", api.ErrForm},
		{"[", api.ErrMore},
		{"[^", api.ErrMore},
		{"[^a", api.ErrMore},
		{"[a", api.ErrMore},
		{"[a-", api.ErrMore},
		{"[a-\\", api.ErrMore},
		{"[a-\\x", api.ErrMore},
		{"[a-\\x6", api.ErrMore},
		{"[a-\\x62", api.ErrMore},
		{"[a-b", api.ErrMore},
		{"[\\", api.ErrMore},
		{"[\\]", api.ErrMore},
		{"[\\x7", api.ErrMore},
		{"[b-\\x6", api.ErrMore},
		{"[b-\\x61", api.ErrForm},
		{"[b-a", api.ErrForm},
		{"[b-\\x6g", api.ErrForm},
		{"[a-]", api.ErrForm},
		{"[a--]", api.ErrForm},
		{"[a-b-c]", api.ErrForm},
		{"[a-b-", api.ErrForm},
		{"[-", api.ErrForm},
		{"[-a]", api.ErrForm},
		{"[^-a]", api.ErrForm},
		{"[^^", api.ErrForm},
		{"[a^]", api.ErrForm},
		{"[[", api.ErrForm},
		{"[\"]", api.ErrForm},
		{"[a\n]", api.ErrForm},
		{"[#\n", api.ErrForm},
		{"[a-\xff]", api.ErrForm},
		{"[\\-\\x", api.ErrMore},
		{"[\x00", api.ErrForm},
		{"[a-b\x00", api.ErrForm},
	} {
		wrong(t, x.s, 0, 0, x.want)
		wrong(t, "a # [\n\t"+x.s, 1, 7, x.want)
	}
}

// TestTokensThatBreakOff: a text or a set asks for more at each place ahead of its end.
func TestTokensThatBreakOff(t *testing.T) {
	for _, s := range []string{`"ab\n\x0a\\ # \"=\xff"`, `"\x00"`, `[^a-c\]\x00-\x7f\-_]`, `[\t-\r\^]`, `[^\[-\]]`} {
		for n := 1; n < len(s); n++ {
			wrong(t, s[:n], 0, 0, api.ErrMore)
			wrong(t, "\r"+s[:n], 0, 1, api.ErrMore)
		}
		if _, n, e := Next(s, 0); n != len(s) || e != api.OK {
			t.Errorf("P6.1: Next(%q, 0): %d, %d", s, n, e)
		}
	}
}

// The document's table of tokens, as patterns.
const (
	aByte = `(?:[ !#-,.-Z_-~]|\\[\\"\[\]^-]|\\[ntr]|\\x[0-9a-f]{2})`
	aPart = `(?:\\(?:x[0-9a-f]?)?)?`
)

var (
	whiteAhead = regexp.MustCompile(`^(?:[ \n\r\t]|#[^\n]*)*`)
	aName      = regexp.MustCompile(`^[A-Za-z_][A-Za-z_0-9]*`)
	aNumber    = regexp.MustCompile(`^[0-9]+`)
	aSign      = regexp.MustCompile(`^(?:->|[=;()|&!*+?:./,{}~>])`)
	aText      = regexp.MustCompile(`^"(` + aByte + `*)"`)
	openText   = regexp.MustCompile(`^"` + aByte + `*` + aPart + `\z`)
	each       = regexp.MustCompile(aByte)
	aRow       = regexp.MustCompile(`^(` + aByte + `)-(` + aByte + `)`)
	aSingle    = regexp.MustCompile(`^` + aByte)
	openRow    = regexp.MustCompile(`^(?:` + aByte + `-)?` + aPart + `\z`)
)

// valueOf is the byte that a form stands for.
func valueOf(f string) byte {
	for b := range 256 {
		if slices.Contains(forms(b), f) {
			return byte(b)
		}
	}
	panic(f)
}

// nextByPatterns is Next, by the patterns.
func nextByPatterns(s string, at int) (api.Tok, int, api.Errno) {
	at += len(whiteAhead.FindString(s[at:]))
	rest := s[at:]
	if rest == "" {
		return endAt(at), at, api.OK
	}
	if x := aName.FindString(rest); x != "" {
		if len(x) > 31 {
			return api.Tok{}, at, api.ErrLong
		}
		return nameAt(x, at), at + len(x), api.OK
	}
	if x := aNumber.FindString(rest); x != "" {
		if len(x) > 4 {
			return api.Tok{}, at, api.ErrLong
		}
		return numberAt(numberOf(x), at), at + len(x), api.OK
	}
	if x := aSign.FindString(rest); x != "" {
		return signAt(x, at), at + len(x), api.OK
	}
	if rest[0] == '[' {
		return setByPatterns(rest, at)
	}
	if x := aText.FindStringSubmatch(rest); x != nil {
		var text []byte
		for _, f := range each.FindAllString(x[1], -1) {
			text = append(text, valueOf(f))
		}
		if len(text) > 256 {
			return api.Tok{}, at, api.ErrLong
		}
		return textAt(string(text), at), at + len(x[0]), api.OK
	}
	if openText.MatchString(rest) {
		return api.Tok{}, at, api.ErrMore
	}
	return api.Tok{}, at, api.ErrForm
}

// setByPatterns is the set with which s begins, at a place of what it is of.
func setByPatterns(s string, at int) (api.Tok, int, api.Errno) {
	rest, others := strings.CutPrefix(s[1:], "^")
	var in [256]bool
	for !strings.HasPrefix(rest, "]") {
		from, to, used := byte(0), byte(0), 0
		if x := aRow.FindStringSubmatch(rest); x != nil {
			from, to, used = valueOf(x[1]), valueOf(x[2]), len(x[0])
		} else if x := aSingle.FindString(rest); x != "" && !strings.HasPrefix(rest[len(x):], "-") {
			from, to, used = valueOf(x), valueOf(x), len(x)
		}
		if used == 0 && openRow.MatchString(rest) {
			return api.Tok{}, at, api.ErrMore
		}
		if used == 0 || to < from {
			return api.Tok{}, at, api.ErrForm
		}
		for b := int(from); b <= int(to); b++ {
			in[b] = true
		}
		rest = rest[used:]
	}
	var of api.Set
	for b := range 256 {
		if in[b] != others {
			of[b/64] |= 1 << (b % 64)
		}
	}
	return setAt(of, at), at + len(s) - len(rest) + 1, api.OK
}

// byPatterns tells if Next and the patterns say not the same.
func byPatterns(t *testing.T, s string, at int) {
	t.Helper()
	tok, n, e := Next(s, at)
	if x, m, d := nextByPatterns(s, at); tok != x || n != m || e != d {
		t.Fatalf("P6.1: Next(%q, %d): %#v, %d, %d, want %#v, %d, %d", s, at, tok, n, e, x, m, d)
	}
}

// TestShortTexts: all texts of up to three bytes out of some, behind how a token may begin.
func TestShortTexts(t *testing.T) {
	const of = "\"[]^-\\x4ant_ #\n>=%\xff"
	rows := []string{""}
	for at := 0; at < len(rows) && len(rows[at]) < 3; at++ {
		for i := range len(of) {
			rows = append(rows, rows[at]+of[i:i+1])
		}
	}
	for _, front := range []string{"", " ", "#", "\"", "\"a", "\"\\", "\"\\x", "[", "[^", "[a", "[a-", "[^b-\\x6", "[\\x4", "-", "a", "0"} {
		for _, s := range rows {
			byPatterns(t, front+s, 0)
		}
	}
}

// mixedFile is a row of pieces of rule files, chosen without an order.
func mixedFile(x *uint64, pieces []string, n int) string {
	var l []string
	for range n {
		*x = *x*6364136223846793005 + 1442695040888963407
		l = append(l, pieces[*x>>33%uint64(len(pieces))])
	}
	return strings.Join(l, "")
}

// TestMixedTexts: pieces of rule files, one behind the other, from each place on.
func TestMixedTexts(t *testing.T) {
	pieces := []string{"a", "b9", "_", " ", "\n", "\t", "#", "# x\n", "\"", "\"a\"", "\\", "\\x", "\\n", "\\\"", "4", "1234", "0", "[", "]", "^", "-", "->", ">", "=", ";", "a-c", "[^", "\\]", "(", "|", "{", "}", "!", "~", "\x00", "é"}
	x := uint64(3)
	for range 2000 {
		s := mixedFile(&x, pieces, 20)
		for at := range len(s) + 1 {
			byPatterns(t, s, at)
		}
	}
}

// allByNext is All, by Next of each place.
func allByNext(s string) ([]api.Tok, int, api.Errno) {
	var l []api.Tok
	at := 0
	for {
		tok, n, e := nextByPatterns(s, at)
		if e != api.OK {
			return nil, n, e
		}
		if tok.Kind == 0 {
			return l, len(s), api.OK
		}
		l = append(l, tok)
		at = n
	}
}

func TestAll(t *testing.T) {
	x := uint64(5)
	pieces := []string{"a", "b9", "_x", " ", "\n", "# x\n", "\"\"", "\"a b\\n\"", "4", " 1234 ", "[a-c]", "[^]", "->", "=", ";", "(", ")", "*", "{", ",", "}"}
	for _, wrongs := range [][]string{nil, {"-"}, {"\"", "%"}, {"[", "\\"}} {
		for i := range 500 {
			s := mixedFile(&x, slices.Concat(pieces, pieces, pieces, wrongs), 1+i%40)
			l, n, e := All(s)
			if m, k, d := allByNext(s); !slices.Equal(l, m) || n != k || e != d {
				t.Fatalf("P6.2: All(%q): %#v, %d, %d, want %#v, %d, %d", s, l, n, e, m, k, d)
			}
		}
	}
}

func TestAllOfWrong(t *testing.T) {
	for _, x := range []struct {
		s     string
		place int
		want  api.Errno
	}{
		{"%", 0, api.ErrForm},
		{" %", 1, api.ErrForm},
		{"a = %", 4, api.ErrForm},
		{"a -", 2, api.ErrForm},
		{"a = \"b", 4, api.ErrMore},
		{"a = [b", 4, api.ErrMore},
		{"a = \"\x01", 4, api.ErrForm},
		{"a # %\n [b-a]", 7, api.ErrForm},
		{"12345", 0, api.ErrLong},
		{"a 1 22222", 4, api.ErrLong},
		{"a\n" + strings.Repeat("b", 32), 2, api.ErrLong},
		{"\"" + strings.Repeat("b", 256) + "\"\"" + strings.Repeat("b", 257) + "\"", 258, api.ErrLong},
		// The first one that is wrong is told.
		{"- \"", 0, api.ErrForm},
		{"11111 -", 0, api.ErrLong},
		{"a \"\\\" -", 2, api.ErrForm},
	} {
		if l, n, e := All(x.s); len(l) != 0 || n != x.place || e != x.want {
			t.Errorf("P6.2: All(%q): %#v, %d, %d, want none, %d, %d", x.s, l, n, e, x.place, x.want)
		}
	}
}

func TestLongFiles(t *testing.T) {
	for _, n := range []int{65535, 65536} {
		for _, s := range []string{strings.Repeat(" ", n), "#" + strings.Repeat("%", n-1), strings.Repeat("\n", n)} {
			if l, k, e := All(s); len(l) != 0 || k != n || e != api.OK {
				t.Errorf("P6.2: All of %d white bytes: %d tokens, %d, %d", n, len(l), k, e)
			}
		}
		l, k, e := All(strings.Repeat(";", n))
		if len(l) != n || k != n || e != api.OK {
			t.Fatalf("P6.2: All of %d signs: %d tokens, %d, %d", n, len(l), k, e)
		}
		for at, tok := range l {
			if tok != signAt(";", at) {
				t.Fatalf("P6.2: token %d of signs: %#v", at, tok)
			}
		}
		if l, k, e := All(strings.Repeat(" ", n-1) + "%"); len(l) != 0 || k != n-1 || e != api.ErrForm {
			t.Errorf("P6.2: All of %d bytes with a wrong one: %d tokens, %d, %d", n, len(l), k, e)
		}
	}
	// Of a file that is too long no token is looked at, and no place is told.
	for _, n := range []int{65537, 65538, 1 << 20} {
		for _, s := range []string{" ", ";", "%", "\"", "1", "#"} {
			if l, k, e := All(strings.Repeat(s, n)); len(l) != 0 || k != 0 || e != api.ErrLong {
				t.Errorf("P6.2: All of %d times %q: %d tokens, %d, %d", n, s, len(l), k, e)
			}
		}
	}
	// Next has no such bound.
	next(t, strings.Repeat(" ", 70000)+"a", 0, nameAt("a", 70000), 70001)
	s := "[" + strings.Repeat("a-z", 70000) + "]"
	next(t, s, 0, setAt(set.Span('a', 'z'), 0), len(s))
}

func TestText(t *testing.T) {
	for _, x := range []struct{ b, want string }{
		{"", `""`},
		{"a", `"a"`},
		{" ~", `" ~"`},
		{"\\", `"\\"`},
		{"\"", `"\""`},
		{"[]^-", `"\[\]\^\-"`},
		{"\n\t\r", `"\n\t\r"`},
		{"ntrx", `"ntrx"`},
		{"\\n", `"\\n"`},
		{"\x00\x1f\x7f\x80\xab\xff", `"\x00\x1f\x7f\x80\xab\xff"`},
		{"\x07\x08\x0b\x0c\x1b", `"\x07\x08\x0b\x0c\x1b"`},
		{"é", `"\xc3\xa9"`},
		{"'#%", `"'#%"`},
	} {
		if got := Text(x.b); got != x.want {
			t.Errorf("P6.3: Text(%q): %s, want %s", x.b, got, x.want)
		}
	}
	var want []string
	for b := range 256 {
		c := string([]byte{byte(b)})
		if got := Text(c); got != "\""+written(b)+"\"" {
			t.Errorf("P6.3: Text(%q): %s, want %s", c, got, written(b))
		}
		want = append(want, written(b))
	}
	if got := Text(allBytes()); got != "\""+strings.Join(want, "")+"\"" {
		t.Errorf("P6.3: Text of all bytes: %s", got)
	}
	// What is too long to be read is written as well.
	for _, n := range []int{256, 257, 70000} {
		if got := Text(strings.Repeat("\x00", n)); got != "\""+strings.Repeat("\\x00", n)+"\"" {
			t.Errorf("P6.3: Text of %d bytes: %d bytes", n, len(got))
		}
	}
}

func TestSet(t *testing.T) {
	for _, x := range []struct {
		s    api.Set
		want string
	}{
		{api.Set{}, "[]"},
		{all, "[^]"},
		{set.Of('a'), "[a]"},
		{set.Not(set.Of('a')), "[^a]"},
		{set.Of('a', 'b'), "[a-b]"},
		{set.Of('a', 'c'), "[ac]"},
		{set.Of('c', 'b', 'a', 'x'), "[a-cx]"},
		{set.Of('^'), "[\\^]"},
		{set.Of('-', '['), "[\\-\\[]"},
		{set.Of(']', '\\', '"', '^'), "[\\\"\\\\-\\^]"},
		{set.Span('\t', '\r'), "[\\t-\\r]"},
		{set.Of('\n'), "[\\n]"},
		{set.Of(0, 255), "[\\x00\\xff]"},
		{set.Span(' ', '~'), "[ -~]"},
		{set.Span(0, 127), "[\\x00-\\x7f]"},
		{set.Span(0, 128), "[^\\x81-\\xff]"},
		{set.Span(128, 255), "[\\x80-\\xff]"},
		{set.Span(127, 255), "[^\\x00-~]"},
		{set.Not(set.Span(0, 127)), "[\\x80-\\xff]"},
		{set.Not(set.Of('-')), "[^\\-]"},
	} {
		if got := Set(x.s); got != x.want {
			t.Errorf("P6.3: Set(%x): %s, want %s", x.s, got, x.want)
		}
	}
	for _, s := range setsOf() {
		front, in := "[", s
		if size(s) > 128 {
			front, in = "[^", set.Not(s)
		}
		if got, want := Set(s), front+rowsByHand(in)+"]"; got != want {
			t.Fatalf("P6.3: Set(%x): %s, want %s", s, got, want)
		}
	}
}

// size counts a set's bytes.
func size(s api.Set) int {
	n := 0
	for b := range 256 {
		if set.Has(s, byte(b)) {
			n++
		}
	}
	return n
}

// rowsByHand writes a set's rows.
func rowsByHand(s api.Set) string {
	out := ""
	for from := 0; from < 256; from++ {
		if !set.Has(s, byte(from)) {
			continue
		}
		to := from
		for to < 255 && set.Has(s, byte(to+1)) {
			to++
		}
		out += written(from)
		if to > from {
			out += "-" + written(to)
		}
		from = to
	}
	return out
}

// TestSetsOfHalf: every other byte, and one more.
func TestSetsOfHalf(t *testing.T) {
	var s api.Set
	for b := 0; b < 256; b += 2 {
		s = set.Any(s, set.Of(byte(b)))
	}
	if got := Set(s); size(s) != 128 || !strings.HasPrefix(got, "[\\x00\\x02") {
		t.Errorf("P6.3: a set of 128 bytes: %s", got)
	}
	s = set.Any(s, set.Of(1))
	if got := Set(s); size(s) != 129 || !strings.HasPrefix(got, "[^\\x03\\x05") {
		t.Errorf("P6.3: a set of 129 bytes: %s", got)
	}
}

func TestTextsAreReadAsThemselves(t *testing.T) {
	l := []string{"", allBytes(), strings.Repeat("\xff", 256), strings.Repeat("\"", 256), strings.Repeat("a", 256), "\\x00", "\\", "é→", "# a\n"}
	for b := range 256 {
		for c := range 256 {
			l = append(l, string([]byte{byte(b), byte(c)}))
		}
		l = append(l, allBytes()[:b], allBytes()[b:])
	}
	for _, b := range l {
		s := Text(b)
		if tok, n, e := Next(s, 0); tok != textAt(b, 0) || n != len(s) || e != api.OK {
			t.Fatalf("P6.4: %q is written as %s, and read as %#v, %d, %d", b, s, tok, n, e)
		}
	}
	wrong(t, Text(allBytes()+"a"), 0, 0, api.ErrLong)
}

func TestSetsAreReadAsThemselves(t *testing.T) {
	for _, x := range setsOf() {
		s := Set(x)
		if tok, n, e := Next(s, 0); tok != setAt(x, 0) || n != len(s) || e != api.OK {
			t.Fatalf("P6.4: %x is written as %s, and read as %#v, %d, %d", x, s, tok, n, e)
		}
	}
}

// tokensOf has a token of each kind, and some of each that are unlike.
func tokensOf() []string {
	l := []string{"a", "_", "rule", "z9_", strings.Repeat("a", 31), "0", "7", "0007", "9999", `""`, `"#"`, `"a b\x00\n"`, "[]", "[^]", "[a-c]", "[^\\]\\-]", "->"}
	for i := range len(ofSigns) {
		l = append(l, ofSigns[i:i+1])
	}
	return l
}

func TestPlaceBehind(t *testing.T) {
	for _, s := range tokensOf() {
		for _, front := range []string{"", " ", "#\n\t"} {
			tok, n, e := Next(front+s+";", 0)
			if e != api.OK || tok.At != len(front) || n <= tok.At || n != len(front+s) {
				t.Errorf("P6.4: Next(%q, 0): %#v, %d, %d", front+s+";", tok, n, e)
			}
		}
	}
}

// TestMoreWhite: more white ahead of tokens, and at the end, turns nothing but places.
func TestMoreWhite(t *testing.T) {
	for _, white := range []string{" ", "\t", "\r", "\n", "\r\n  ", "#\n", " # \"a [ %\n", "#a\n#b\n"} {
		for _, a := range tokensOf() {
			for _, b := range tokensOf() {
				few, _, _ := All(a + " " + b)
				s := white + a + white + " " + b + white
				many, n, e := All(s)
				if len(few) != 2 || len(many) != 2 || n != len(s) || e != api.OK {
					t.Fatalf("P6.4: All(%q): %#v, %d, %d, without more white %#v", s, many, n, e, few)
				}
				few[0].At += len(white)
				few[1].At += 2 * len(white)
				if !slices.Equal(few, many) {
					t.Fatalf("P6.4: All(%q): %#v, want %#v", s, many, few)
				}
			}
		}
		for _, s := range []string{"%", "-", "\"a", "[b-a]", "12345"} {
			_, n, e := Next(s, 0)
			if tok, m, d := Next(white+s, 0); tok != (api.Tok{}) || n != 0 || m != len(white) || d != e || e == api.OK {
				t.Errorf("P6.4: Next(%q, 0): %#v, %d, %d", white+s, tok, m, d)
			}
		}
	}
}

// TestSameAgain: what a call answers hangs on its arguments alone (R2).
func TestSameAgain(t *testing.T) {
	s := `rule "a" -> [b]; # c`
	first, _, _ := All(s)
	kept := slices.Clone(first)
	All("d e f")
	Next("\"x\"", 0)
	again, _, _ := All(s)
	for i := range first {
		first[i] = api.Tok{Text: "else"}
	}
	if !slices.Equal(again, kept) {
		t.Errorf("R2: %#v, want %#v", again, kept)
	}
}
