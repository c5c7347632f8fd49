package stream_test

import (
	"encoding/hex"
	"math"
	"math/rand"
	"strings"
	"testing"

	"cabal/api"
	"cabal/stream"
)

func bytesOf(t *testing.T, hexed string) string {
	t.Helper()
	b, err := hex.DecodeString(strings.ReplaceAll(hexed, " ", ""))
	if err != nil {
		t.Fatal(err)
	}
	return string(b)
}

func risingKey() api.Key {
	var k api.Key
	for i := range k {
		k[i] = byte(i)
	}
	return k
}

func noise(r *rand.Rand, n int) string {
	b := make([]byte, n)
	r.Read(b)
	return string(b)
}

func mustMask(t *testing.T, key api.Key, nonce string, counter uint32, text string) string {
	t.Helper()
	s, e := stream.Mask(key, nonce, counter, text)
	if e != api.OK {
		t.Fatalf("Mask of %d bytes from %d on: %d", len(text), counter, e)
	}
	return s
}

// These are the vectors of RFC 8439, sections 2.3.2, A.1.
func TestP3_1Block(t *testing.T) {
	var last api.Key
	last[31] = 1
	var second api.Key
	second[1] = 0xff
	zeros := strings.Repeat("\x00", 12)
	for _, x := range []struct {
		key     api.Key
		nonce   string
		counter uint32
		block   string
	}{
		{risingKey(), bytesOf(t, "000000090000004a00000000"), 1, "10f1e7e4d13b5915500fdd1fa32071c4c7d1f4c733c068030422aa9ac3d46c4ed2826446079faa0914c2d705d98b02a2b5129cd1de164eb9cbd083e8a2503c4e"},
		{api.Key{}, zeros, 0, "76b8e0ada0f13d90405d6ae55386bd28bdd219b8a08ded1aa836efcc8b770dc7da41597c5157488d7724e03fb8d84a376a43b8f41518a11cc387b669b2ee6586"},
		{api.Key{}, zeros, 1, "9f07e7be5551387a98ba977c732d080dcb0f29a048e3656912c6533e32ee7aed29b721769ce64e43d57133b074d839d531ed1f28510afb45ace10a1f4b794d6f"},
		{last, zeros, 1, "3aeb5224ecf849929b9d828db1ced4dd832025e8018b8160b82284f3c949aa5a8eca00bbb4a73bdad192b5c42f73f2fd4e273644c8b36125a64addeb006c13a0"},
		{second, zeros, 2, "72d54dfbf12ec44b362692df94137f328fea8da73990265ec1bbbea1ae9af0ca13b25aa26cb4a648cb9b9d1be65b2c0924a66c54d545ec1b7374f4872e99f096"},
		{api.Key{}, bytesOf(t, "000000000000000000000002"), 0, "c2c64d378cd536374ae204b9ef933fcd1a8b2288b3dfa49672ab765b54ee27c78a970e0e955c14f3a88e741b97c286f75f8fc299e8148362fa198a39531bed6d"},
	} {
		if got, e := stream.Block(x.key, x.nonce, x.counter); e != api.OK || got != bytesOf(t, x.block) {
			t.Errorf("counter %d: %d, %x", x.counter, e, got)
		}
	}
}

func TestP3_1Nonce(t *testing.T) {
	for n := range 40 {
		nonce := strings.Repeat("n", n)
		b, e := stream.Block(risingKey(), nonce, 0)
		m, f := stream.Mask(risingKey(), nonce, 0, "text")
		if n == 12 && (e != api.OK || f != api.OK || len(b) != 64 || len(m) != 4) {
			t.Errorf("12 bytes: %d, %d", e, f)
		}
		if n != 12 && (e != api.ErrArg || f != api.ErrArg || b != "" || m != "") {
			t.Errorf("%d bytes: %d, %d", n, e, f)
		}
	}
	if _, e := stream.Mask(risingKey(), "short", 0, ""); e != api.ErrArg {
		t.Errorf("an empty text with a short nonce: %d", e)
	}
}

// This is the vector of RFC 8439, section 2.4.2.
func TestP3_1Mask(t *testing.T) {
	text := "Ladies and Gentlemen of the class of '99: If I could offer you only one tip for the future, sunscreen would be it."
	want := bytesOf(t, "6e2e359a2568f98041ba0728dd0d6981e97e7aec1d4360c20a27afccfd9fae0bf91b65c5524733ab8f593dabcd62b3571639d624e65152ab8f530c359f0861d807ca0dbf500d6a6156a38e088a22b65e52bc514d16ccf806818ce91ab77937365af90bbf74a35be6b40b8eedf2785e42874d")
	if got := mustMask(t, risingKey(), bytesOf(t, "000000000000004a00000000"), 1, text); got != want {
		t.Errorf("%x", got)
	}
	for n := range 200 {
		zeros := strings.Repeat("\x00", n)
		keystream := ""
		for c := range uint32(4) {
			b, _ := stream.Block(risingKey(), "nonce nonce ", 7+c)
			keystream += b
		}
		if mustMask(t, risingKey(), "nonce nonce ", 7, zeros) != keystream[:n] {
			t.Errorf("%d bytes are not masked by the blocks", n)
		}
	}
}

func TestP3_1LastBlock(t *testing.T) {
	last := uint32(math.MaxUint32)
	for _, x := range []struct {
		counter uint32
		n       int
		e       api.Errno
	}{
		{last, 0, api.OK}, {last, 1, api.OK}, {last, 64, api.OK}, {last, 65, api.ErrArg},
		{last - 1, 128, api.OK}, {last - 1, 129, api.ErrArg}, {last - 3, 256, api.OK}, {last - 3, 257, api.ErrArg},
	} {
		got, e := stream.Mask(risingKey(), "nonce nonce ", x.counter, strings.Repeat("x", x.n))
		if e != x.e || e == api.OK && len(got) != x.n || e != api.OK && got != "" {
			t.Errorf("%d bytes from %d on: %d, %d bytes", x.n, x.counter, e, len(got))
		}
	}
}

func TestP3_2Twice(t *testing.T) {
	r := rand.New(rand.NewSource(1))
	for range 100 {
		key, nonce, text, counter := api.Key([]byte(noise(r, 32))), noise(r, 12), noise(r, r.Intn(300)), r.Uint32()>>1
		if mustMask(t, key, nonce, counter, mustMask(t, key, nonce, counter, text)) != text {
			t.Fatal("masking twice does not restore the text")
		}
	}
}

func TestP3_3PrefixAndRest(t *testing.T) {
	r := rand.New(rand.NewSource(2))
	key, nonce, text := api.Key([]byte(noise(r, 32))), noise(r, 12), noise(r, 400)
	whole := mustMask(t, key, nonce, 5, text)
	for n := range len(text) + 1 {
		if mustMask(t, key, nonce, 5, text[:n]) != whole[:n] {
			t.Errorf("a prefix of %d bytes", n)
		}
	}
	for b := range 7 {
		if mustMask(t, key, nonce, 5+uint32(b), text[64*b:]) != whole[64*b:] {
			t.Errorf("the part behind %d blocks", b)
		}
	}
}
