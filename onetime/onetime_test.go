package onetime_test

import (
	"encoding/hex"
	"math/big"
	"math/rand"
	"slices"
	"strings"
	"testing"

	"cabal/api"
	"cabal/onetime"
)

func bytesOf(t *testing.T, hexed string) string {
	t.Helper()
	b, err := hex.DecodeString(hexed)
	if err != nil {
		t.Fatal(err)
	}
	return string(b)
}

func noise(r *rand.Rand, n int) string {
	b := make([]byte, n)
	r.Read(b)
	return string(b)
}

func little(b []byte) *big.Int {
	b = slices.Clone(b)
	slices.Reverse(b)
	return new(big.Int).SetBytes(b)
}

// byBig is the document's definition with numbers of any size.
func byBig(key api.Key, text string) string {
	clamped := key
	for _, i := range []int{3, 7, 11, 15} {
		clamped[i] &= 15
	}
	for _, i := range []int{4, 8, 12} {
		clamped[i] &= 252
	}
	r, s, a := little(clamped[:16]), little(key[16:]), new(big.Int)
	p := new(big.Int).Sub(new(big.Int).Lsh(big.NewInt(1), 130), big.NewInt(5))
	for at := 0; at < len(text); at += 16 {
		part := append([]byte(text[at:min(at+16, len(text))]), 1)
		a.Mod(a.Mul(a.Add(a, little(part)), r), p)
	}
	out := make([]byte, 32)
	a.Add(a, s).FillBytes(out)
	slices.Reverse(out)
	return string(out[:16])
}

func TestP4_1KnownTags(t *testing.T) {
	key := api.Key([]byte(bytesOf(t, "85d6be7857556d337f4452fe42d506a80103808afb0db2fd4abff6af4149f51b")))
	want := bytesOf(t, "a8061dc1305136c6c22b8baf0c0127a9")
	if got := onetime.Tag(key, "Cryptographic Forum Research Group"); got != want {
		t.Errorf("the document's example: %x", got)
	}
	// RFC 8439, section A.3, vectors 7 to 11: sums next to 2^130 - 5.
	ff := strings.Repeat("ff", 16)
	zero := strings.Repeat("00", 16)
	for i, x := range [][4]string{
		{"02" + zero[2:], zero, ff, "03" + zero[2:]},
		{"02" + zero[2:], ff, "02" + zero[2:], "03" + zero[2:]},
		{"01" + zero[2:], zero, ff + "f0" + ff[2:] + "11" + zero[2:], "05" + zero[2:]},
		{"01" + zero[2:], zero, ff + "fb" + strings.Repeat("fe", 15) + strings.Repeat("01", 16), zero},
		{"02" + zero[2:], zero, "fd" + ff[2:], "fa" + ff[2:]},
	} {
		key := api.Key([]byte(bytesOf(t, x[0]+x[1])))
		if got := onetime.Tag(key, bytesOf(t, x[2])); got != bytesOf(t, x[3]) {
			t.Errorf("vector %d: %x", 7+i, got)
		}
	}
}

func TestP4_1AnyText(t *testing.T) {
	r := rand.New(rand.NewSource(1))
	for n := range 200 {
		key, text := api.Key([]byte(noise(r, 32))), noise(r, n)
		if n%3 == 0 {
			text = strings.Repeat("\xff", n)
		}
		if n%4 == 0 {
			key = api.Key([]byte(strings.Repeat("\xff", 32)))
		}
		if got := onetime.Tag(key, text); got != byBig(key, text) {
			t.Errorf("%d bytes: %x", n, got)
		}
	}
}

func TestP4_1ClearedBits(t *testing.T) {
	r := rand.New(rand.NewSource(2))
	for _, x := range []struct{ at, bits int }{{3, 0xf0}, {7, 0xf0}, {11, 0xf0}, {15, 0xf0}, {4, 3}, {8, 3}, {12, 3}} {
		key := api.Key([]byte(noise(r, 32)))
		other := key
		other[x.at] ^= byte(x.bits)
		if onetime.Tag(key, "some text") != onetime.Tag(other, "some text") {
			t.Errorf("byte %d: the bits %x matter", x.at, x.bits)
		}
	}
}

func TestP4_2Poly(t *testing.T) {
	r := rand.New(rand.NewSource(3))
	key := api.Key([]byte(noise(r, 32)))
	p, text := onetime.New(key), ""
	if p.Tag() != byBig(key, "") {
		t.Error("no input")
	}
	for range 60 {
		a, b := noise(r, r.Intn(20)), noise(r, r.Intn(20))
		p.Write(a, "", b)
		text += a + b
		if p.Tag() != byBig(key, text) || p.Tag() != byBig(key, text) {
			t.Fatalf("Tag is off, or changes the computation, behind %d bytes", len(text))
		}
	}
	var none *onetime.Poly
	none.Write("text")
	if none.Tag() != strings.Repeat("\x00", 16) {
		t.Error("a nil Poly")
	}
}

func TestP4_3Pieces(t *testing.T) {
	r := rand.New(rand.NewSource(4))
	key, text := api.Key([]byte(noise(r, 32))), noise(r, 333)
	for range 100 {
		var parts []string
		for rest := text; rest != ""; {
			n := min(r.Intn(40), len(rest))
			parts = append(parts, rest[:n])
			rest = rest[n:]
		}
		p := onetime.New(key)
		for _, part := range parts {
			p.Write(part)
		}
		if p.Tag() != onetime.Tag(key, text) || onetime.Tag(key, parts...) != onetime.Tag(key, text) {
			t.Fatal("the tag hangs on the pieces")
		}
	}
}

func TestP4_4LastBytes(t *testing.T) {
	r := rand.New(rand.NewSource(5))
	for n := range 60 {
		key := api.Key([]byte(noise(r, 32)))
		if onetime.Tag(key) != string(key[16:]) || onetime.Tag(key, "") != string(key[16:]) {
			t.Errorf("the empty string under %x", key)
		}
		copy(key[:16], make([]byte, 16))
		if onetime.Tag(key, noise(r, n)) != string(key[16:]) {
			t.Errorf("%d bytes under %x", n, key)
		}
	}
}
