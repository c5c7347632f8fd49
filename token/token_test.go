package token_test

import (
	"fmt"
	"math/rand"
	"slices"
	"strings"
	"testing"

	"cabal/api"
	"cabal/token"
)

func name(at int, s string) api.Token { return api.Token{Kind: api.TokName, At: at, Text: s} }
func number(at, n int) api.Token      { return api.Token{Kind: api.TokNumber, At: at, N: n} }
func text(at int, s string) api.Token { return api.Token{Kind: api.TokText, At: at, Text: s} }
func sign(at int, s string) api.Token { return api.Token{Kind: api.TokSign, At: at, Text: s} }

func cuts(t *testing.T, s string, want ...api.Token) {
	t.Helper()
	if got, at, e := token.Cut(s); e != api.OK || at != 0 || !slices.Equal(got, want) {
		t.Errorf("%q: %d at %d, %v, not %v", s, e, at, got, want)
	}
}

func fails(t *testing.T, s string, at int, want api.Errno) {
	t.Helper()
	if got, where, e := token.Cut(s); e != want || where != at || len(got) != 0 {
		t.Errorf("%q: %d at %d, not %d at %d; %v", s, e, where, want, at, got)
	}
}

func TestP30_1Tokens(t *testing.T) {
	cuts(t, `do 0 say "hi";`, name(0, "do"), number(3, 0), name(5, "say"), text(9, "hi"), sign(13, ";"))
	cuts(t, "")
	cuts(t, " \t\n # only a comment \" \\ \xff")
	cuts(t, "a#b\nc # d\n#\n#\n7", name(0, "a"), name(4, "c"), number(14, 7))
	cuts(t, "a1b2 z9", name(0, "a1b2"), name(5, "z9"))
	cuts(t, "12ab", number(0, 12), name(2, "ab"))
	cuts(t, "abcdefghijkl", name(0, "abcdefghijkl"))
	cuts(t, "a12345678901", name(0, "a12345678901"))
	cuts(t, "0 1 10 999999999", number(0, 0), number(2, 1), number(4, 10), number(7, 999999999))
	for _, c := range "(){},;=<>+-*/%&|!" {
		cuts(t, string(c), sign(0, string(c)))
		cuts(t, "a"+string(c)+"1", name(0, "a"), sign(1, string(c)), number(2, 1))
	}
	cuts(t, "()--==", sign(0, "("), sign(1, ")"), sign(2, "-"), sign(3, "-"), sign(4, "="), sign(5, "="))
	cuts(t, "a\"b\"1\"\"", name(0, "a"), text(1, "b"), number(4, 1), text(5, ""))
}

func TestP30_1Texts(t *testing.T) {
	all := ""
	for c := byte(0x20); c <= 0x7e; c++ {
		if c != '"' && c != '\\' {
			all += string([]byte{c})
		}
	}
	for ; len(all) > 64; all = all[60:] {
		cuts(t, `"`+all[:60]+`"`, text(0, all[:60]))
	}
	cuts(t, `"`+all+`"`, text(0, all))
	cuts(t, `"\"\\\x00\xff\x0a\xa0"`, text(0, "\"\\\x00\xff\n\xa0"))
	for c := range 256 {
		cuts(t, fmt.Sprintf(`"\x%02x"`, c), text(0, string([]byte{byte(c)})))
	}
	cuts(t, `"# no comment"`, text(0, "# no comment"))
	cuts(t, `"`+strings.Repeat("x", 64)+`"`, text(0, strings.Repeat("x", 64)))
	cuts(t, `"`+strings.Repeat(`\xff`, 64)+`"`, text(0, strings.Repeat("\xff", 64)))
}

func TestP30_1Long(t *testing.T) {
	cuts(t, strings.Repeat(" ", 4000))
	fails(t, strings.Repeat(" ", 4001), 0, api.ErrLong)
	fails(t, "?"+strings.Repeat(" ", 4000), 0, api.ErrLong)
	cuts(t, strings.Repeat(" ", 3999)+"a", name(3999, "a"))
}

func TestP30_1Words(t *testing.T) {
	for c := range 256 {
		if s := string([]byte{byte(c)}); !strings.Contains(" \t\n#\"(){},;=<>+-*/%&|!0123456789abcdefghijklmnopqrstuvwxyz", s) {
			fails(t, "a "+s, 2, api.ErrWord)
			fails(t, s+" ?", 0, api.ErrWord)
		}
	}
	fails(t, "aB", 1, api.ErrWord)
	fails(t, "a\r\n", 1, api.ErrWord)
	fails(t, " 00", 1, api.ErrWord)
	fails(t, "a 007", 2, api.ErrWord)
	fails(t, "1 09999999999999999999999", 2, api.ErrWord)
	fails(t, " 01a", 1, api.ErrWord)
	fails(t, "(? 01", 1, api.ErrWord)
	fails(t, "abcdefghijklm ?", 0, api.ErrMany)
	fails(t, "? abcdefghijklm", 0, api.ErrWord)
}

func TestP30_1Many(t *testing.T) {
	fails(t, "a abcdefghijklm", 2, api.ErrMany)
	fails(t, "a123456789012", 0, api.ErrMany)
	fails(t, "- 1000000000", 2, api.ErrMany)
	fails(t, strings.Repeat("9", 3000), 0, api.ErrMany)
	fails(t, "18446744073709551617", 0, api.ErrMany)
	fails(t, `say "`+strings.Repeat("x", 65)+`"`, 4, api.ErrMany)
	fails(t, `"`+strings.Repeat(`\x00`, 65)+`"`, 0, api.ErrMany)
}

func TestP30_1WrongTexts(t *testing.T) {
	for _, inside := range []string{"\n", "\t", "\x00", "\x1f", "\x7f", "\x80", "\xff", `\n`, `\ `, `\X41`, `\xg0`, `\x0g`, `\x0A`, `\xF0`, `\x4`, `\x`, "\\\n"} {
		fails(t, `a "b`+inside+`" c`, 2, api.ErrWord)
	}
	fails(t, `"`+strings.Repeat("x", 70)+"\n\"", 0, api.ErrWord)
	fails(t, `"`+strings.Repeat("x", 70)+"\n", 0, api.ErrWord)
	for _, open := range []string{``, `abc`, `\`, `\"`, `abc\`, `\x`, `\x4`, `\x41`, `\\\"`, strings.Repeat("x", 100), strings.Repeat("x", 3000)} {
		fails(t, `a "`+open, 2, api.ErrOpen)
	}
	fails(t, "\"a\" \"b", 4, api.ErrOpen)
	fails(t, `"\xg`, 0, api.ErrWord)
	fails(t, `"\q`, 0, api.ErrWord)
	fails(t, "\"a\n", 0, api.ErrWord)
}

// word is a token's text.
func word(x api.Token) string {
	switch x.Kind {
	case api.TokNumber:
		return fmt.Sprint(x.N)
	case api.TokText:
		s := `"`
		for _, c := range []byte(x.Text) {
			s += fmt.Sprintf(`\x%02x`, c)
		}
		return s + `"`
	}
	return x.Text
}

func anyTokens(r *rand.Rand) []api.Token {
	var l []api.Token
	for range r.Intn(40) {
		letters := "abcdefghijklmnopqrstuvwxyz0123456789"
		s := string(letters[r.Intn(26)])
		for range r.Intn(12) {
			s += string(letters[r.Intn(36)])
		}
		b := make([]byte, r.Intn(10))
		r.Read(b)
		l = append(l, []api.Token{name(0, s), number(0, r.Intn(1000000000)>>r.Intn(30)), text(0, string(b)), sign(0, string("(){},;=<>+-*/%&|!"[r.Intn(17)]))}[r.Intn(4)])
	}
	return l
}

func sameButPlaces(a, b []api.Token) bool {
	return slices.EqualFunc(a, b, func(x, y api.Token) bool { return x.Kind == y.Kind && x.N == y.N && x.Text == y.Text })
}

func TestP30_2And3Blanks(t *testing.T) {
	r := rand.New(rand.NewSource(1))
	for range 500 {
		l := anyTokens(r)
		plain, spaced := "", ""
		var places []int
		for _, x := range l {
			plain += word(x) + " "
			spaced += []string{"", "\n", "  ", "\t \n", "# a comment \"\n", " #\n #;\n"}[r.Intn(6)]
			places = append(places, len(spaced))
			spaced += word(x) + []string{" ", "\n", "\t", "# \\ comment\n"}[r.Intn(4)]
		}
		if len(plain) > 4000 || len(spaced) > 4000 {
			continue
		}
		got, _, e := token.Cut(plain)
		if e != api.OK || !sameButPlaces(got, l) {
			t.Fatalf("%q: %d, %v", plain, e, got)
		}
		got, _, e = token.Cut(spaced)
		if e != api.OK || !sameButPlaces(got, l) {
			t.Fatalf("%q: %d, %v", spaced, e, got)
		}
		for i, x := range got {
			if x.At != places[i] {
				t.Fatalf("%q: the token %d is at %d, not %d", spaced, i, x.At, places[i])
			}
		}
	}
}
