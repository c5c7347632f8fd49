package aead_test

import (
	"encoding/hex"
	"math/rand"
	"strings"
	"testing"

	"cabal/aead"
	"cabal/api"
	"cabal/onetime"
	"cabal/stream"
)

const nonce = "nonce nonce!"

func bytesOf(t *testing.T, hexed string) string {
	t.Helper()
	b, err := hex.DecodeString(hexed)
	if err != nil {
		t.Fatal(err)
	}
	return string(b)
}

func noise(r *rand.Rand, n int) string {
	b := make([]byte, n)
	r.Read(b)
	return string(b)
}

func mustSeal(t *testing.T, key api.Key, nonce, text string, by ...string) string {
	t.Helper()
	box, e := aead.Seal(key, nonce, text, by...)
	if e != api.OK {
		t.Fatalf("Seal: %d", e)
	}
	return box
}

// This is the vector of RFC 8439, section 2.8.2.
func TestP5_1KnownBox(t *testing.T) {
	var key api.Key
	for i := range key {
		key[i] = byte(0x80 + i)
	}
	text := "Ladies and Gentlemen of the class of '99: If I could offer you only one tip for the future, sunscreen would be it."
	n, by := bytesOf(t, "070000004041424344454647"), bytesOf(t, "50515253c0c1c2c3c4c5c6c7")
	want := bytesOf(t, "d31a8d34648e60db7b86afbc53ef7ec2a4aded51296e08fea9e2b5a736ee62d63dbea45e8ca9671282fafb69da92728b1a71de0a9e060b2905d6a5b67ecd3b3692ddbd7f2d778b8c9803aee328091b58fab324e4fad675945585808b4831d7bc3ff4def08e4b7a9de576d26586cec64b6116"+"1ae10b594f09e26a7e902ecbd0600691")
	if got := mustSeal(t, key, n, text, by); got != want {
		t.Errorf("%x", got)
	}
	if got, e := aead.Open(key, n, want, by); e != api.OK || got != text {
		t.Errorf("%d, %q", e, got)
	}
}

// These are the vector of RFC 8439, section A.5.
func TestP5_2KnownBox(t *testing.T) {
	key := api.Key([]byte(bytesOf(t, "1c9240a5eb55d38af333888604f6b5f0473917c1402b80099dca5cbc207075c0")))
	box := bytesOf(t, "64a0861575861af460f062c79be643bd5e805cfd345cf389f108670ac76c8cb24c6cfc18755d43eea09ee94e382d26b0bdb7b73c321b0100d4f03b7f355894cf332f830e710b97ce98c8a84abd0b948114ad176e008d33bd60f982b1ff37c8559797a06ef4f0ef61c186324e2b3506383606907b6a7c02b0f9f6157b53c867e4b9166c767b804d46a59b5216cde7a4e99040c5a40433225ee282a1b0a06c523eaf4534d7f83fa1155b0047718cbc546a0d072b04b3564eea1b422273f548271a0bb2316053fa76991955ebd63159434ecebb4e466dae5a1073a6727627097a1049e617d91d361094fa68f0ff77987130305beaba2eda04df997b714d6c6f2c29a6ad5cb4022b02709beead9d67890cbb22392336fea1851f38")
	text, e := aead.Open(key, bytesOf(t, "000000000102030405060708"), box, bytesOf(t, "f33388860000000000004e91"))
	if e != api.OK || !strings.HasPrefix(text, "Internet-Drafts are draft documents valid for a maximum of six months") || len(text) != 265 {
		t.Errorf("%d, %q", e, text)
	}
}

func TestP5_1Definition(t *testing.T) {
	r := rand.New(rand.NewSource(1))
	for n := range 70 {
		key, text, by := api.Key([]byte(noise(r, 32))), noise(r, n), noise(r, r.Intn(50))
		cipher, _ := stream.Mask(key, nonce, 1, text)
		first, _ := stream.Block(key, nonce, 0)
		input := by + strings.Repeat("\x00", -len(by)&15) + cipher + strings.Repeat("\x00", -n&15)
		input += string([]byte{byte(len(by)), 0, 0, 0, 0, 0, 0, 0, byte(n), 0, 0, 0, 0, 0, 0, 0})
		want := cipher + onetime.Tag(api.Key([]byte(first[:32])), input)
		if mustSeal(t, key, nonce, text, by) != want {
			t.Fatalf("%d bytes by %d", n, len(by))
		}
		if mustSeal(t, key, nonce, text, by[:len(by)/2], "", by[len(by)/2:]) != want {
			t.Fatalf("%d bytes by %d, in parts", n, len(by))
		}
	}
	if mustSeal(t, api.Key{}, nonce, "text") != mustSeal(t, api.Key{}, nonce, "text", "", "") {
		t.Error("no associated data")
	}
	long := strings.Repeat("b", 70000)
	if box := mustSeal(t, api.Key{}, nonce, long, long); len(box) != len(long)+16 {
		t.Error("long texts")
	} else if text, e := aead.Open(api.Key{}, nonce, box, long); e != api.OK || text != long {
		t.Error("long boxes")
	}
}

func TestP5_1And2Nonce(t *testing.T) {
	box := mustSeal(t, api.Key{}, nonce, "text")
	for n := range 30 {
		if n == len(nonce) {
			continue
		}
		other := strings.Repeat("n", n)
		if got, e := aead.Seal(api.Key{}, other, "text"); e != api.ErrArg || got != "" {
			t.Errorf("Seal, %d bytes: %d", n, e)
		}
		for _, b := range []string{box, "", "short"} {
			if got, e := aead.Open(api.Key{}, other, b); e != api.ErrArg || got != "" {
				t.Errorf("Open, %d bytes: %d", n, e)
			}
		}
	}
}

func TestP5_2ShortBox(t *testing.T) {
	for n := range 16 {
		for _, box := range []string{strings.Repeat("\x00", n), mustSeal(t, api.Key{}, nonce, "")[:n]} {
			if got, e := aead.Open(api.Key{}, nonce, box); e != api.ErrTag || got != "" {
				t.Errorf("%d bytes: %d", n, e)
			}
		}
	}
	if got, e := aead.Open(api.Key{}, nonce, mustSeal(t, api.Key{}, nonce, "")); e != api.OK || got != "" {
		t.Errorf("the box of the empty text: %d", e)
	}
}

func TestP5_3And4OpenAndSealAgain(t *testing.T) {
	r := rand.New(rand.NewSource(2))
	for n := range 150 {
		key, nonce, text, a, b := api.Key([]byte(noise(r, 32))), noise(r, 12), noise(r, n), noise(r, r.Intn(20)), noise(r, r.Intn(20))
		box := mustSeal(t, key, nonce, text, a, b)
		if len(box) != n+16 {
			t.Errorf("the box of %d bytes has %d", n, len(box))
		}
		opened, e := aead.Open(key, nonce, box, a+b)
		if e != api.OK || opened != text {
			t.Fatalf("%d bytes: %d", n, e)
		}
		if mustSeal(t, key, nonce, opened, a, b) != box {
			t.Errorf("%d bytes: sealed again it is another box", n)
		}
	}
}

func TestP5_5Changed(t *testing.T) {
	key := api.Key{1, 2, 3}
	box := mustSeal(t, key, nonce, "a text of some bytes", "by")
	for i := range box {
		for bit := range 8 {
			b := []byte(box)
			b[i] ^= 1 << bit
			if got, e := aead.Open(key, nonce, string(b), "by"); e != api.ErrTag || got != "" {
				t.Errorf("the bit %d of the byte %d: %d", bit, i, e)
			}
		}
	}
	for _, f := range []func() (string, api.Errno){
		func() (string, api.Errno) { return aead.Open(api.Key{1, 2, 4}, nonce, box, "by") },
		func() (string, api.Errno) { return aead.Open(key, "nonce nonce?", box, "by") },
		func() (string, api.Errno) { return aead.Open(key, nonce, box, "bx") },
		func() (string, api.Errno) { return aead.Open(key, nonce, box) },
		func() (string, api.Errno) { return aead.Open(key, nonce, box, "by", "\x00") },
		func() (string, api.Errno) { return aead.Open(key, nonce, box+"\x00", "by") },
		func() (string, api.Errno) { return aead.Open(key, nonce, box[1:], "by") },
	} {
		if got, e := f(); e != api.ErrTag || got != "" {
			t.Errorf("%d, %q", e, got)
		}
	}
}
