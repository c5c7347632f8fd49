package ladder_test

import (
	"crypto/ecdh"
	"encoding/hex"
	"math/rand"
	"testing"

	"cabal/api"
	"cabal/ladder"
)

func key(t *testing.T, hexed string) api.Key {
	t.Helper()
	b, err := hex.DecodeString(hexed)
	if err != nil || len(b) != 32 {
		t.Fatalf("a test's key is off: %s", hexed)
	}
	return api.Key(b)
}

func noise(r *rand.Rand) api.Key {
	var k api.Key
	r.Read(k[:])
	return k
}

// library is what Go's library agrees on.
func library(t *testing.T, secret, public api.Key) (api.Key, bool) {
	t.Helper()
	s, err := ecdh.X25519().NewPrivateKey(secret[:])
	if err != nil {
		t.Fatal(err)
	}
	p, err := ecdh.X25519().NewPublicKey(public[:])
	if err != nil {
		t.Fatal(err)
	}
	k, err := s.ECDH(p)
	if err != nil {
		return api.Key{}, false
	}
	return api.Key(k), true
}

// The keys of the second party in RFC 7748, section 6.1.
const (
	bobSecret   = "5dab087e624a8a4b79e17f8b83800ee66f3bb1292618b6fd1c2f8b27ff88e0eb"
	bobPublic   = "de9edb7d7b7dc1b4d35b61c2ece435373f8343c85b78674dadfc7e146f882b4f"
	alicePublic = "8520f0098930a754748b7ddcb43ef75a0dbf3a0d26381af4eba4a98eaa9b4e6a"
	shared      = "4a5d9d5ba4ce2de1728e3bf480350f25e07e21c947d19e3376f09b3c1e161742"
)

func TestP7_1KnownPublic(t *testing.T) {
	if got := ladder.Public(key(t, bobSecret)); got != key(t, bobPublic) {
		t.Errorf("%x", got)
	}
}

func TestP7_1LikeTheLibrary(t *testing.T) {
	r := rand.New(rand.NewSource(1))
	for range 60 {
		secret := noise(r)
		s, err := ecdh.X25519().NewPrivateKey(secret[:])
		if err != nil {
			t.Fatal(err)
		}
		if ladder.Public(secret) != api.Key(s.PublicKey().Bytes()) {
			t.Errorf("the public key of %x", secret)
		}
	}
}

// These are the vectors of RFC 7748, section 5.2.
func TestP7_2KnownKeys(t *testing.T) {
	for _, x := range [][3]string{
		{"a546e36bf0527c9d3b16154b82465edd62144c0ac1fc5a18506a2244ba449ac4", "e6db6867583030db3594c1a424b15f7c726624ec26b3353b10a903a6d0ab1c4c", "c3da55379de9c6908e94ea4df28d084f32eccf03491c71f754b4075577a28552"},
		{"4b66e9d4d1b4673c5ad22691957d6af5c11b6421e0ea01d42ca4169e7918ba0d", "e5210f12786811d3f4b7959d0538ae2c31dbe7106fc03c3efc4cd549c715a493", "95cbde9476e8907d7aade45cb4b873f88b595a68799fa152e6f8f7647aac7957"},
		{bobSecret, alicePublic, shared},
	} {
		if got, ok := ladder.Agree(key(t, x[0]), key(t, x[1])); !ok || got != key(t, x[2]) {
			t.Errorf("%x, %v", got, ok)
		}
	}
	k, u := api.Key{9}, api.Key{9}
	for i := range 1000 {
		next, ok := ladder.Agree(k, u)
		if !ok {
			t.Fatal("nothing was agreed on")
		}
		k, u = next, k
		if i == 0 && k != key(t, "422c8e7a6227d7bca1350b3e2bb7279f7897b87bb6854b783c60e80311ae3079") {
			t.Fatalf("once: %x", k)
		}
	}
	if k != key(t, "684cf59ba83309552800ef566f2f4d3c1c3887c49360e3875f2eb94d99532c51") {
		t.Errorf("a thousand times: %x", k)
	}
}

func TestP7_2LikeTheLibrary(t *testing.T) {
	r := rand.New(rand.NewSource(2))
	for range 60 {
		secret, public := noise(r), noise(r)
		got, ok := ladder.Agree(secret, public)
		want, known := library(t, secret, public)
		if got != want || ok != known {
			t.Errorf("%x and %x: %x, %v", secret, public, got, ok)
		}
	}
}

func TestP7_2Nothing(t *testing.T) {
	r := rand.New(rand.NewSource(3))
	for _, hexed := range []string{
		"0000000000000000000000000000000000000000000000000000000000000000",
		"0100000000000000000000000000000000000000000000000000000000000000",
		"e0eb7a7c3b41b8ae1656e3faf19fc46ada098deb9c32b1fd866205165f49b800",
		"5f9c95bca3508c24b1d0b1559c83ef5b04445cc4581c8e86d8224eddd09f1157",
		"ecffffffffffffffffffffffffffffffffffffffffffffffffffffffffffff7f",
		"edffffffffffffffffffffffffffffffffffffffffffffffffffffffffffff7f",
		"eeffffffffffffffffffffffffffffffffffffffffffffffffffffffffffff7f",
		"0000000000000000000000000000000000000000000000000000000000000080",
		"edffffffffffffffffffffffffffffffffffffffffffffffffffffffffffffff",
	} {
		if k, ok := ladder.Agree(noise(r), key(t, hexed)); ok || k != (api.Key{}) {
			t.Errorf("%s: %x, %v", hexed, k, ok)
		}
	}
}

func TestP7_3BothSides(t *testing.T) {
	r := rand.New(rand.NewSource(4))
	for range 40 {
		a, b := noise(r), noise(r)
		x, xok := ladder.Agree(a, ladder.Public(b))
		y, yok := ladder.Agree(b, ladder.Public(a))
		if !xok || !yok || x != y {
			t.Errorf("%x and %x: %x and %x", a, b, x, y)
		}
	}
}

func TestP7_4BitsWithoutInfluence(t *testing.T) {
	r := rand.New(rand.NewSource(5))
	for range 20 {
		secret, public := noise(r), noise(r)
		want, _ := ladder.Agree(secret, public)
		for _, x := range []struct{ at, bit int }{{0, 1}, {0, 2}, {0, 4}, {31, 64}, {31, 128}} {
			other := secret
			other[x.at] ^= byte(x.bit)
			if got, _ := ladder.Agree(other, public); got != want || ladder.Public(other) != ladder.Public(secret) {
				t.Errorf("the bit %d of the byte %d of a scalar", x.bit, x.at)
			}
		}
		public[31] ^= 128
		if got, _ := ladder.Agree(secret, public); got != want {
			t.Error("the first bit of a public key")
		}
		public[31] ^= 64
		if got, _ := ladder.Agree(secret, public); got == want {
			t.Error("the second bit of a public key has no influence")
		}
	}
}
