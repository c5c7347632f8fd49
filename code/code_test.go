package code_test

import (
	"fmt"
	"math/big"
	"math/rand"
	"strings"
	"testing"

	"cabal/api"
	"cabal/code"
	"cabal/digest"
)

// codeOf is the code of any number as the document says.
func codeOf(n *big.Int) string {
	s := fmt.Sprintf("%078s", n.String())
	rest := new(big.Int).Mod(new(big.Int).Mul(n, big.NewInt(100)), big.NewInt(97)).Int64()
	return grouped(s + fmt.Sprintf("%02d", 98-rest))
}

func grouped(digits string) string {
	var groups []string
	for ; len(digits) > 5; digits = digits[5:] {
		groups = append(groups, digits[:5])
	}
	return strings.Join(append(groups, digits), " ")
}

func keys() []api.Key {
	l := []api.Key{{}, {31: 1}, {31: 96}, {31: 97}, {31: 255}, {0: 1}, {0: 0x80}, {0: 255}}
	var all api.Key
	for i := range all {
		all[i] = 255
	}
	l = append(l, all)
	r := rand.New(rand.NewSource(1))
	for i := range 200 {
		var k api.Key
		r.Read(k[i%32:])
		l = append(l, k)
	}
	return l
}

func TestP27_1Write(t *testing.T) {
	if got := code.Write(api.Key{}); got != strings.Repeat("00000 ", 15)+"00098" {
		t.Errorf("the document's example: %s", got)
	}
	for _, k := range keys() {
		if got, want := code.Write(k), codeOf(new(big.Int).SetBytes(k[:])); got != want {
			t.Errorf("%x: %s, not %s", k, got, want)
		}
	}
}

func TestP27_2Read(t *testing.T) {
	fail := func(s string, want api.Errno) {
		t.Helper()
		if k, e := code.Read(s); e != want || k != (api.Key{}) {
			t.Errorf("%q: %d, not %d", s, e, want)
		}
	}
	good := code.Write(api.Key{1, 2, 3})
	for _, s := range []string{"", "0", good[:94], good + "0", good + " ", " " + good, good[1:] + "0", strings.ReplaceAll(good, " ", ""), strings.ReplaceAll(good, " ", "  "), strings.Replace(good, " ", "\t", 1), strings.Replace(good, " ", "0", 1), strings.Replace(good, " ", "", 1) + "0", good + "\n", strings.Repeat(" ", 95), strings.Repeat("0", 95)} {
		fail(s, api.ErrForm)
	}
	for i := range good {
		for _, c := range []string{"x", "/", ":", "-", "\x00", "\xff"} {
			fail(good[:i]+c+good[i+1:], api.ErrForm)
		}
		if good[i] != ' ' {
			fail(good[:i]+" "+good[i+1:], api.ErrForm)
		}
	}
	limit := new(big.Int).Lsh(big.NewInt(1), 256)
	most := new(big.Int).Sub(limit, big.NewInt(1))
	if k, e := code.Read(codeOf(most)); e != api.OK || k[0] != 255 || k[31] != 255 {
		t.Errorf("the greatest number: %d, %x", e, k)
	}
	great := new(big.Int).Exp(big.NewInt(10), big.NewInt(78), nil)
	for _, n := range []*big.Int{limit, new(big.Int).Add(limit, big.NewInt(1)), new(big.Int).Lsh(big.NewInt(1), 257), new(big.Int).Sub(great, big.NewInt(1))} {
		fail(codeOf(n), api.ErrForm)
		s := codeOf(n)
		check := (int(s[93]-'0')*10 + int(s[94]-'0') + 1) % 100
		fail(s[:93]+fmt.Sprintf("%02d", check), api.ErrTag)
	}
	zeros := strings.Repeat("00000 ", 15) + "000"
	for check := range 100 {
		if check != 98 {
			fail(zeros+fmt.Sprintf("%02d", check), api.ErrTag)
		}
	}
}

func TestP27_3And6Both(t *testing.T) {
	l := keys()
	for i, a := range l[:40] {
		b := l[len(l)-1-i]
		first, second := string(a[:]), string(b[:])
		if first > second {
			first, second = second, first
		}
		if got := code.Both(a, b); got != code.Write(digest.Sum(first, second)) || got != code.Both(b, a) {
			t.Errorf("%x and %x: %s", a, b, got)
		}
		if code.Both(a, a) != code.Write(digest.Sum(string(a[:]), string(a[:]))) {
			t.Errorf("%x twice", a)
		}
	}
}

func TestP27_4WrittenAndRead(t *testing.T) {
	for _, k := range keys() {
		s := code.Write(k)
		if got, e := code.Read(s); e != api.OK || got != k {
			t.Errorf("%x: %d, %x", k, e, got)
		}
	}
	r := rand.New(rand.NewSource(2))
	for range 300 {
		n := new(big.Int).Rand(r, new(big.Int).Lsh(big.NewInt(1), 256))
		s := codeOf(n)
		if k, e := code.Read(s); e != api.OK || code.Write(k) != s {
			t.Errorf("%s: %d", s, e)
		}
	}
}

func TestP27_5Changed(t *testing.T) {
	for _, k := range keys()[:30] {
		s := code.Write(k)
		for i := range s {
			if s[i] == ' ' {
				continue
			}
			for c := byte('0'); c <= '9'; c++ {
				if c == s[i] {
					continue
				}
				if got, e := code.Read(s[:i] + string([]byte{c}) + s[i+1:]); e != api.ErrTag || got != (api.Key{}) {
					t.Errorf("%s, place %d, %c: %d", s, i, c, e)
				}
			}
			if i+1 < len(s) && s[i+1] != ' ' && s[i+1] != s[i] {
				if _, e := code.Read(s[:i] + string([]byte{s[i+1], s[i]}) + s[i+2:]); e != api.ErrTag {
					t.Errorf("%s, places %d and %d: %d", s, i, i+1, e)
				}
			}
		}
	}
}
