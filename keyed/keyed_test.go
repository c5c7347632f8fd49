package keyed_test

import (
	"crypto/hkdf"
	"crypto/hmac"
	"crypto/sha256"
	"encoding/hex"
	"math/rand"
	"strings"
	"testing"

	"cabal/api"
	"cabal/digest"
	"cabal/keyed"
)

func noise(r *rand.Rand, n int) string {
	b := make([]byte, n)
	r.Read(b)
	return string(b)
}

// library is the HMAC of Go's library.
func library(key, text string) api.Key {
	m := hmac.New(sha256.New, []byte(key))
	m.Write([]byte(text))
	return api.Key(m.Sum(nil))
}

func TestP2_1Tag(t *testing.T) {
	k := keyed.Tag("key", "The quick brown fox jumps over the lazy dog")
	if hex.EncodeToString(k[:]) != "f7bc83f430538424b13298e6aa6fb143ef4d59a14946175997479dbc2d1a3cd8" {
		t.Errorf("the document's example: %x", k)
	}
	r := rand.New(rand.NewSource(1))
	for n := range 140 {
		key, text := noise(r, n), noise(r, r.Intn(200))
		if keyed.Tag(key, text) != library(key, text) {
			t.Errorf("a key of %d bytes", n)
		}
		if keyed.Tag(key, text[:len(text)/3], "", text[len(text)/3:]) != library(key, text) {
			t.Errorf("parts, a key of %d bytes", n)
		}
	}
	if keyed.Tag("") != library("", "") || keyed.Tag("k") != library("k", "") {
		t.Error("no parts")
	}
}

func TestP2_1Equal(t *testing.T) {
	r := rand.New(rand.NewSource(2))
	for n := range 70 {
		a := noise(r, n)
		if !keyed.Equal(a, strings.Clone(a)) {
			t.Errorf("%d bytes are not themselves", n)
		}
		if keyed.Equal(a, a+"\x00") || keyed.Equal(a+"\x00", a) {
			t.Errorf("%d bytes are those with one more", n)
		}
		for i := range n {
			b := []byte(a)
			b[i] ^= 1 << r.Intn(8)
			if keyed.Equal(a, string(b)) || keyed.Equal(string(b), a) {
				t.Errorf("the byte %d of %d is not looked at", i, n)
			}
		}
	}
	if keyed.Equal("", strings.Repeat("\x00", 256)) || keyed.Equal("a", "a"+strings.Repeat("\x00", 256)) {
		t.Error("lengths that differ by 256")
	}
	if keyed.Equal("ab", "ba") || keyed.Equal("\x01\x01", "\x00\x00") {
		t.Error("differences are added up")
	}
}

func TestP2_2Extract(t *testing.T) {
	r := rand.New(rand.NewSource(3))
	for range 50 {
		salt, secret := noise(r, r.Intn(100)), noise(r, 1+r.Intn(100))
		want, err := hkdf.Extract(sha256.New, []byte(secret), []byte(salt))
		if err != nil {
			t.Fatal(err)
		}
		if keyed.Extract(salt, secret) != api.Key(want) || keyed.Extract(salt, secret[:1], secret[1:]) != api.Key(want) {
			t.Errorf("salt %x, secret %x", salt, secret)
		}
	}
	if keyed.Extract("salt") != library("salt", "") {
		t.Error("no parts")
	}
}

func TestP2_2Expand(t *testing.T) {
	r := rand.New(rand.NewSource(4))
	for _, n := range []int{0, 1, 31, 32, 33, 64, 65, 1000, 8159, 8160} {
		key, info := noise(r, 32), noise(r, r.Intn(50))
		want, err := hkdf.Expand(sha256.New, []byte(key), info, n)
		if err != nil {
			t.Fatal(err)
		}
		got, e := keyed.Expand(key, info, n)
		if e != api.OK || got != string(want) {
			t.Errorf("%d bytes: %d, %x", n, e, got)
		}
	}
	for _, n := range []int{-1, 8161, -1 << 62, 1 << 62} {
		if got, e := keyed.Expand("k", "i", n); e != api.ErrArg || got != "" {
			t.Errorf("%d bytes: %d, %d bytes", n, e, len(got))
		}
	}
}

func TestP2_3Mac(t *testing.T) {
	r := rand.New(rand.NewSource(5))
	for _, n := range []int{0, 5, 64, 65, 200} {
		key := noise(r, n)
		m := keyed.New(key)
		if m.Len() != 64 || m.Tag() != library(key, "") {
			t.Errorf("a key of %d bytes: no input", n)
		}
		text := ""
		for range 20 {
			a, b := noise(r, r.Intn(40)), noise(r, r.Intn(40))
			m.Write(a, b)
			text += a + b
			if m.Tag() != library(key, text) || m.Tag() != library(key, text) || m.Len() != uint64(64+len(text)) {
				t.Fatalf("a key of %d bytes: %d bytes of input", n, len(text))
			}
		}
	}
	var none *keyed.Mac
	if none.Tag() != library("", "") {
		t.Error("a nil Mac")
	}
}

func TestP2_4SameKeys(t *testing.T) {
	r := rand.New(rand.NewSource(6))
	for n := range 65 {
		key, text := noise(r, n), noise(r, 20)
		for more := range 65 - n {
			if keyed.Tag(key+strings.Repeat("\x00", more), text) != keyed.Tag(key, text) {
				t.Fatalf("a key of %d bytes and %d zeros", n, more)
			}
		}
	}
	for _, n := range []int{65, 66, 100, 1000} {
		key := noise(r, n)
		short := digest.Sum(key)
		if keyed.Tag(key, "text") != keyed.Tag(string(short[:]), "text") {
			t.Errorf("a key of %d bytes and its digest", n)
		}
	}
}

func TestP2_5Prefix(t *testing.T) {
	whole, _ := keyed.Expand("key", "info", 8160)
	for n := 0; n <= 8160; n += 37 {
		if part, e := keyed.Expand("key", "info", n); e != api.OK || part != whole[:n] {
			t.Fatalf("%d bytes are no prefix", n)
		}
	}
}
