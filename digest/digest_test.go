package digest_test

import (
	"crypto/sha256"
	"encoding/hex"
	"math/rand"
	"strings"
	"testing"

	"cabal/api"
	"cabal/digest"
)

func known(t *testing.T, hexed string) api.Key {
	t.Helper()
	b, err := hex.DecodeString(hexed)
	if err != nil || len(b) != 32 {
		t.Fatalf("a test's digest is off: %s", hexed)
	}
	return api.Key(b)
}

// noise is bytes that are the same in each run.
func noise(seed int64, n int) string {
	b := make([]byte, n)
	rand.New(rand.NewSource(seed)).Read(b)
	return string(b)
}

func TestP1_1KnownDigests(t *testing.T) {
	for _, x := range [][2]string{
		{"", "e3b0c44298fc1c149afbf4c8996fb92427ae41e4649b934ca495991b7852b855"},
		{"abc", "ba7816bf8f01cfea414140de5dae2223b00361a396177a9cb410ff61f20015ad"},
		{"abcdbcdecdefdefgefghfghighijhijkijkljklmklmnlmnomnopnopq", "248d6a61d20638b8e5c026930c3e6039a33ce45964ff2167f6ecedd419db06c1"},
		{strings.Repeat("a", 1000000), "cdc76e5c9914fb9281a1c7e284d73e67f1809a48a497200e046d39ccc7112cd0"},
	} {
		if digest.Sum(x[0]) != known(t, x[1]) {
			t.Errorf("Sum(%.20q..) = %x", x[0], digest.Sum(x[0]))
		}
	}
}

func TestP1_1EveryLength(t *testing.T) {
	text := noise(1, 300)
	for n := range len(text) + 1 {
		if got, want := digest.Sum(text[:n]), sha256.Sum256([]byte(text[:n])); got != want {
			t.Errorf("%d bytes: %x, not %x", n, got, want)
		}
	}
}

func TestP1_1Concatenation(t *testing.T) {
	if digest.Sum("a", "", "bc") != digest.Sum("abc") || digest.Sum("", "") != digest.Sum() {
		t.Error("parts are not just put together")
	}
	if digest.Sum("ab", "c") == digest.Sum("ac", "b") {
		t.Error("the order of parts is lost")
	}
	if digest.Sum([]string(nil)...) != digest.Sum("") {
		t.Error("nil parts")
	}
}

func TestP1_2HashUnderWay(t *testing.T) {
	var h digest.Hash
	if h.Len() != 0 || h.Sum() != digest.Sum() {
		t.Error("the zero value is not a hash without input")
	}
	text := noise(2, 500)
	for at := 0; at < len(text); at += 7 {
		end := min(at+7, len(text))
		h.Write(text[at:end])
		if h.Len() != uint64(end) {
			t.Fatalf("Len %d behind %d bytes", h.Len(), end)
		}
		if h.Sum() != digest.Sum(text[:end]) || h.Sum() != digest.Sum(text[:end]) {
			t.Fatalf("Sum is off, or changes the hash, behind %d bytes", end)
		}
	}
	h.Write()
	h.Write("", "")
	if h.Len() != 500 || h.Sum() != digest.Sum(text) {
		t.Error("nothing written changes the hash")
	}
}

func TestP1_2NilHash(t *testing.T) {
	var h *digest.Hash
	h.Write("abc")
	if h.Len() != 0 || h.Sum() != digest.Sum("") {
		t.Error("a nil hash takes input")
	}
}

func TestP1_3Pieces(t *testing.T) {
	text := noise(3, 700)
	r := rand.New(rand.NewSource(4))
	for range 200 {
		var h digest.Hash
		var parts []string
		for rest := text; rest != ""; {
			n := min(r.Intn(150), len(rest))
			parts = append(parts, rest[:n])
			rest = rest[n:]
		}
		cut := r.Intn(len(parts) + 1)
		h.Write(parts[:cut]...)
		h.Write(parts[cut:]...)
		if h.Sum() != digest.Sum(text) || digest.Sum(parts...) != digest.Sum(text) {
			t.Fatal("the digest hangs on the pieces")
		}
	}
}

func TestP1_4Copy(t *testing.T) {
	for _, n := range []int{0, 1, 63, 64, 65, 130} {
		text := noise(5, n)
		var h digest.Hash
		h.Write(text)
		c := h
		h.Write("left", noise(6, 100))
		c.Write("right")
		if c.Sum() != digest.Sum(text, "right") || c.Len() != uint64(n+5) {
			t.Errorf("%d bytes: the copy is off", n)
		}
		if h.Sum() != digest.Sum(text, "left", noise(6, 100)) || h.Len() != uint64(n+104) {
			t.Errorf("%d bytes: the original is off", n)
		}
	}
}
