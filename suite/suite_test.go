package suite_test

import (
	"math/rand"
	"slices"
	"strings"
	"testing"

	"cabal/aead"
	"cabal/api"
	"cabal/digest"
	"cabal/ladder"
	"cabal/suite"
	"cabal/term"
)

var _ = []suite.Kit{suite.Real{}, suite.Free{}}

const noNonce = "\x00\x00\x00\x00\x00\x00\x00\x00\x00\x00\x00\x00"

func noise(r *rand.Rand) api.Key {
	var k api.Key
	r.Read(k[:])
	return k
}

// number is four bytes, the most significant first.
func number(n int) string { return string([]byte{byte(n >> 24), byte(n >> 16), byte(n >> 8), byte(n)}) }

func kits() map[string]suite.Kit {
	return map[string]suite.Kit{"real": suite.Real{}, "free": suite.NewFree()}
}

func TestP9_1Hash(t *testing.T) {
	r := rand.New(rand.NewSource(1))
	a, b := noise(r), noise(r)
	real := suite.Real{}
	for _, n := range []int{0, 1, 5, 255, 256, 70000} {
		text := strings.Repeat("t", n)
		if real.Hash(text) != digest.Sum(number(n), text) {
			t.Errorf("%d bytes", n)
		}
		if real.Hash(text, a, b) != digest.Sum(number(n), text, string(a[:]), string(b[:])) {
			t.Errorf("%d bytes and keys", n)
		}
	}
	for _, text := range []string{"", "a", "seed 0 1"} {
		if real.Draw(text) != digest.Sum(number(4+len(text)), "draw", text) {
			t.Errorf("Draw(%q)", text)
		}
		if real.Mark(text) != digest.Sum(number(3+len(text)), "box", text) {
			t.Errorf("Mark(%q)", text)
		}
	}
	if k := real.Mark(string(a[:])); k == a {
		t.Error("the mark of 32 bytes is no hash")
	}
}

func TestP9_1PubAndAgree(t *testing.T) {
	r := rand.New(rand.NewSource(2))
	real := suite.Real{}
	for range 5 {
		a, b := noise(r), noise(r)
		if real.Pub(a) != ladder.Public(a) {
			t.Error("Pub")
		}
		got, ok := real.Agree(a, b)
		want, wantOk := ladder.Agree(a, b)
		if got != want || ok != wantOk {
			t.Error("Agree")
		}
	}
	if k, ok := real.Agree(noise(r), api.Key{1}); ok || k != (api.Key{}) {
		t.Error("Agree, nothing")
	}
}

func TestP9_1Seal(t *testing.T) {
	r := rand.New(rand.NewSource(3))
	key, by, x, y := noise(r), noise(r), noise(r), noise(r)
	real := suite.Real{}
	for _, text := range []string{"", "t", strings.Repeat("t", 300)} {
		want, _ := aead.Seal(key, noNonce, number(len(text))+text+string(x[:])+string(y[:]), string(by[:]))
		if real.Seal(key, by, text, x, y) != want {
			t.Errorf("%d bytes and keys", len(text))
		}
		want, _ = aead.Seal(key, noNonce, number(len(text))+text, string(by[:]))
		if real.Seal(key, by, text) != want {
			t.Errorf("%d bytes", len(text))
		}
	}
}

func TestP9_1OpenOddBoxes(t *testing.T) {
	r := rand.New(rand.NewSource(4))
	key, by := noise(r), noise(r)
	keys := strings.Repeat("k", 64)
	for _, x := range []struct {
		inside string
		text   string
		keys   int
		ok     bool
	}{
		{number(0), "", 0, true},
		{number(2) + "ab", "ab", 0, true},
		{number(2) + "ab" + keys, "ab", 2, true},
		{number(34) + "ab" + keys, "ab" + keys[:32], 1, true},
		{"", "", 0, false},
		{"\x00\x00\x00", "", 0, false},
		{number(1), "", 0, false},
		{number(3) + "ab", "", 0, false},
		{number(1) + "ab", "", 0, false},
		{number(2) + "ab" + keys[:31], "", 0, false},
		{number(2) + "ab" + keys[:33], "", 0, false},
		{"\xff\xff\xff\xffab", "", 0, false},
		{"\x80\x00\x00\x02ab", "", 0, false},
		{"\x00\x01\x00\x02ab", "", 0, false},
		{"\x00\x00\x01\x02ab", "", 0, false},
		{number(258) + strings.Repeat("t", 258) + keys, strings.Repeat("t", 258), 2, true},
		{number(66000) + strings.Repeat("t", 66000), strings.Repeat("t", 66000), 0, true},
	} {
		box, _ := aead.Seal(key, noNonce, x.inside, string(by[:]))
		text, got, ok := suite.Real{}.Open(key, by, box)
		if text != x.text || len(got) != x.keys || ok != x.ok {
			t.Errorf("%.50q: %.50q, %x, %v", x.inside, text, got, ok)
		}
	}
}

func TestP9_1OpenWrong(t *testing.T) {
	for name, k := range kits() {
		key, by, x := k.Draw("key"), k.Draw("by"), k.Draw("x")
		box := k.Seal(key, by, "text", x)
		for i, f := range []func() (string, []api.Key, bool){
			func() (string, []api.Key, bool) { return k.Open(x, by, box) },
			func() (string, []api.Key, bool) { return k.Open(key, x, box) },
			func() (string, []api.Key, bool) { return k.Open(by, key, box) },
			func() (string, []api.Key, bool) { return k.Open(key, by, box+"\x00") },
			func() (string, []api.Key, bool) { return k.Open(key, by, box[1:]) },
			func() (string, []api.Key, bool) { return k.Open(key, by, "") },
		} {
			if text, keys, ok := f(); ok || text != "" || len(keys) != 0 {
				t.Errorf("%s, case %d: %q, %x, %v", name, i, text, keys, ok)
			}
		}
	}
}

func TestP9_2Free(t *testing.T) {
	k := suite.NewFree()
	if k.Len() != 0 {
		t.Error("a new free kit has terms")
	}
	table := term.New()
	a, b := table.Draw("a"), table.Draw("b")
	if k.Draw("a") != a || k.Draw("b") != b || k.Hash("h", a, b) != table.Hash("h", a, b) || k.Pub(a) != table.Pub(a) {
		t.Error("the methods are not the table's")
	}
	x, _ := k.Agree(b, k.Pub(a))
	y, _ := table.Agree(b, table.Pub(a))
	if x != y || k.Seal(a, b, "t", x) != table.Seal(a, b, "t", x) || k.Mark("m") != table.Mark("m") || k.Len() != table.Len() {
		t.Error("the methods are not the table's")
	}
	if l := k.Look(k.Pub(a)); l.Kind != api.Pub || l.Keys[0] != a || k.Follow()(a) || !k.Follow(a)(k.Pub(a)) {
		t.Error("Look and Follow are not the table's")
	}
	other := suite.NewFree()
	if other.Len() != 0 || other.Draw("z") != a {
		t.Error("two free kits share a table")
	}
}

func TestP9_3Two(t *testing.T) {
	for name, k := range kits() {
		a, b := k.Draw("a"), k.Draw("b")
		x, y := suite.Two(k, "text", a, b)
		if x != k.Hash("text/1", a, b) || y != k.Hash("text/2", a, b) {
			t.Errorf("%s: Two with keys", name)
		}
		x, y = suite.Two(k, "")
		if x != k.Hash("/1") || y != k.Hash("/2") {
			t.Errorf("%s: Two without keys", name)
		}
	}
}

func TestP9_4Open(t *testing.T) {
	for name, k := range kits() {
		key, by := k.Draw("key"), k.Draw("by")
		for n := range 4 {
			var keys []api.Key
			for i := range n {
				keys = append(keys, k.Hash("x", key, k.Draw(strings.Repeat("i", i))))
			}
			for _, text := range []string{"", "t", strings.Repeat("text", 50)} {
				box := k.Seal(key, by, text, keys...)
				gotText, gotKeys, ok := k.Open(key, by, box)
				if !ok || gotText != text || !slices.Equal(gotKeys, keys) {
					t.Errorf("%s: %q and %d keys: %q, %x, %v", name, text, n, gotText, gotKeys, ok)
				}
				if k.Seal(key, by, gotText, gotKeys...) != box {
					t.Errorf("%s: sealed again it is another box", name)
				}
			}
		}
	}
}

// maker makes the same keys in a kit for the same steps.
func maker(r *rand.Rand, k suite.Kit, steps int) []api.Key {
	l := []api.Key{k.Draw("first")}
	pick := func() api.Key { return l[r.Intn(len(l))] }
	for range steps {
		switch r.Intn(6) {
		case 0:
			l = append(l, k.Draw(string(rune('a'+r.Intn(3)))))
		case 1:
			l = append(l, k.Hash(string(rune('a'+r.Intn(2))), pick()))
		case 2, 3:
			l = append(l, k.Pub(pick()))
		case 4:
			a, _ := k.Agree(pick(), k.Pub(pick()))
			l = append(l, a)
		default:
			l = append(l, k.Mark(k.Seal(pick(), pick(), "t", pick())))
		}
	}
	return l
}

func TestP9_5EqualInBoth(t *testing.T) {
	for seed := range int64(6) {
		free := maker(rand.New(rand.NewSource(seed)), suite.NewFree(), 40)
		real := maker(rand.New(rand.NewSource(seed)), suite.Real{}, 40)
		for i := range free {
			for j := range free {
				if free[i] == free[j] && real[i] != real[j] {
					t.Errorf("seed %d: the keys %d and %d", seed, i, j)
				}
			}
		}
	}
}
