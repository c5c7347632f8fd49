package term_test

import (
	"bytes"
	"math/rand"
	"reflect"
	"slices"
	"strings"
	"testing"

	"cabal/api"
	"cabal/term"
)

func nameOf(n uint32) api.Key {
	return api.Key{'t', 'e', 'r', 'm', byte(n >> 24), byte(n >> 16), byte(n >> 8), byte(n)}
}

func rawKey(s string) api.Key {
	var k api.Key
	copy(k[:], s)
	return k
}

// looks checks what a key is made of.
func looks(t *testing.T, x *term.Table, k api.Key, kind int, text string, keys ...api.Key) {
	t.Helper()
	got := x.Look(k)
	if got.Kind != kind || got.Text != text || !slices.Equal(got.Keys, keys) {
		t.Errorf("%x: %d %q %x, not %d %q %x", k, got.Kind, got.Text, got.Keys, kind, text, keys)
	}
}

func TestP8_1TableAndLook(t *testing.T) {
	x := term.New()
	if x.Len() != 0 {
		t.Error("a new table has terms")
	}
	raw := rawKey("raw")
	looks(t, x, raw, api.Raw, "", raw)
	looks(t, x, nameOf(0), api.Raw, "", nameOf(0))
	a := x.Draw("a")
	b := x.Hash("h", a, raw)
	if a != nameOf(0) || b != nameOf(1) || x.Len() != 2 {
		t.Errorf("%x, %x, %d", a, b, x.Len())
	}
	looks(t, x, a, api.Atom, "a")
	looks(t, x, b, api.Hash, "h", a, raw)
	looks(t, x, nameOf(2), api.Raw, "", nameOf(2))
	for i := 8; i < 32; i++ { // nearly a name
		k := a
		k[i] = 1
		looks(t, x, k, api.Raw, "", k)
	}
	for range 300 {
		x.Hash("more", nameOf(uint32(x.Len()-1)))
	}
	looks(t, x, nameOf(300), api.Hash, "more", nameOf(299))
	if x.Len() != 302 {
		t.Errorf("Len %d", x.Len())
	}
}

func TestP8_1Copies(t *testing.T) {
	x := term.New()
	keys := []api.Key{rawKey("1"), rawKey("2"), rawKey("3")}
	h := x.Hash("h", keys[:2]...)
	box := x.Seal(keys[0], keys[1], "", keys[:2]...)
	if keys[2] != rawKey("3") {
		t.Error("a list's spare room is written to")
	}
	keys[0] = rawKey("other")
	looks(t, x, h, api.Hash, "h", rawKey("1"), rawKey("2"))
	x.Look(h).Keys[0] = rawKey("other")
	looks(t, x, h, api.Hash, "h", rawKey("1"), rawKey("2"))
	_, got, _ := x.Open(rawKey("1"), rawKey("2"), box)
	got[0] = rawKey("other")
	if _, again, _ := x.Open(rawKey("1"), rawKey("2"), box); again[0] != rawKey("1") {
		t.Error("what a box has is not copied")
	}
}

func TestP8_2SameTermsOnce(t *testing.T) {
	x := term.New()
	a, b := x.Draw("a"), x.Draw("b")
	makers := []func() api.Key{
		func() api.Key { return x.Draw("") },
		func() api.Key { return x.Draw("a b") },
		func() api.Key { return x.Hash("a") },
		func() api.Key { return x.Hash("") },
		func() api.Key { return x.Hash("", a) },
		func() api.Key { return x.Hash("", a, b) },
		func() api.Key { return x.Hash("", b, a) },
		func() api.Key { return x.Hash("h", a, b) },
		func() api.Key { return x.Hash(string(a[:]), b) },
		func() api.Key { return x.Pub(a) },
		func() api.Key { return x.Pub(x.Pub(a)) },
		func() api.Key { return x.Pub(rawKey("raw")) },
		func() api.Key { k, _ := x.Agree(a, x.Pub(b)); return k },
		func() api.Key { k, _ := x.Agree(a, x.Pub(a)); return k },
		func() api.Key { k, _ := x.Agree(a, b); return k },
		func() api.Key { k, _ := x.Agree(b, a); return k },
		func() api.Key { return x.Mark(x.Seal(a, b, "")) },
		func() api.Key { return x.Mark(x.Seal(b, a, "")) },
		func() api.Key { return x.Mark(x.Seal(a, b, "", a)) },
		func() api.Key { return x.Mark(x.Seal(a, b, "t", a)) },
	}
	names := map[api.Key]int{}
	for i, f := range makers {
		k := f()
		if at, ok := names[k]; ok {
			t.Errorf("the terms %d and %d are one", at, i)
		}
		names[k] = i
	}
	n := x.Len()
	for i, f := range makers {
		if names[f()] != i || x.Len() != n {
			t.Errorf("the term %d is made twice", i)
		}
	}
}

func TestP8_2DrawHashPub(t *testing.T) {
	x := term.New()
	a := x.Draw("name")
	looks(t, x, a, api.Atom, "name")
	looks(t, x, x.Hash("text", a, a), api.Hash, "text", a, a)
	looks(t, x, x.Hash(""), api.Hash, "")
	looks(t, x, x.Pub(a), api.Pub, "", a)
	looks(t, x, x.Pub(rawKey("r")), api.Pub, "", rawKey("r"))
}

func TestP8_2Agree(t *testing.T) {
	x := term.New()
	a, b := x.Draw("a"), x.Draw("b")
	agree := func(secret, public api.Key) api.Key {
		t.Helper()
		k, ok := x.Agree(secret, public)
		if !ok {
			t.Errorf("%x and %x: nothing", secret, public)
		}
		return k
	}
	looks(t, x, agree(a, x.Pub(b)), api.Agree, "", a, b)
	looks(t, x, agree(b, x.Pub(a)), api.Agree, "", a, b)
	looks(t, x, agree(a, x.Pub(a)), api.Agree, "", a, a)
	looks(t, x, agree(a, b), api.Odd, "", a, b)
	looks(t, x, agree(b, a), api.Odd, "", b, a)
	looks(t, x, agree(a, rawKey("r")), api.Odd, "", a, rawKey("r"))
	looks(t, x, agree(a, nameOf(1000)), api.Odd, "", a, nameOf(1000))
	for _, r := range []string{"a", "tern", "teq", "z", "\xff"} { // smaller and greater than names
		k := rawKey(r)
		want := []api.Key{a, k}
		slices.SortFunc(want, func(a, b api.Key) int { return bytes.Compare(a[:], b[:]) })
		looks(t, x, agree(k, x.Pub(a)), api.Agree, "", want...)
		looks(t, x, agree(a, x.Pub(k)), api.Agree, "", want...)
	}
	n := x.Len()
	for _, secret := range []api.Key{a, {}, rawKey("r")} {
		if k, ok := x.Agree(secret, api.Key{}); ok || k != (api.Key{}) {
			t.Errorf("%x and zeros: %x, %v", secret, k, ok)
		}
	}
	if x.Len() != n {
		t.Error("what does not exist is a term")
	}
}

func TestP8_3SealAndOpen(t *testing.T) {
	x := term.New()
	a, b, r := x.Draw("a"), x.Draw("b"), rawKey("r")
	box := x.Seal(a, b, "text", r, a)
	looks(t, x, x.Mark(box), api.Seal, "text", a, b, r, a)
	if len(box) != 32 {
		t.Errorf("a box of %d bytes", len(box))
	}
	if text, keys, ok := x.Open(a, b, box); !ok || text != "text" || !slices.Equal(keys, []api.Key{r, a}) {
		t.Errorf("%q, %x, %v", text, keys, ok)
	}
	if text, keys, ok := x.Open(a, b, x.Seal(a, b, "")); !ok || text != "" || len(keys) != 0 {
		t.Errorf("an empty box: %q, %x, %v", text, keys, ok)
	}
	hash, atom, raw, later := x.Hash("text", a, b), a, rawKey("raw"), nameOf(500)
	for i, f := range []func() (string, []api.Key, bool){
		func() (string, []api.Key, bool) { return x.Open(b, a, box) },
		func() (string, []api.Key, bool) { return x.Open(a, a, box) },
		func() (string, []api.Key, bool) { return x.Open(b, b, box) },
		func() (string, []api.Key, bool) { return x.Open(a, b, box[:31]) },
		func() (string, []api.Key, bool) { return x.Open(a, b, box+"\x00") },
		func() (string, []api.Key, bool) { return x.Open(a, b, "") },
		func() (string, []api.Key, bool) { return x.Open(a, b, string(hash[:])) },
		func() (string, []api.Key, bool) { return x.Open(a, b, string(atom[:])) },
		func() (string, []api.Key, bool) { return x.Open(a, b, string(raw[:])) },
		func() (string, []api.Key, bool) { return x.Open(a, b, string(later[:])) },
	} {
		if text, keys, ok := f(); ok || text != "" || len(keys) != 0 {
			t.Errorf("%d: %q, %x, %v", i, text, keys, ok)
		}
	}
}

func TestP8_3Mark(t *testing.T) {
	x := term.New()
	box := x.Seal(rawKey("k"), rawKey("b"), "")
	if k := x.Mark(box); string(k[:]) != box {
		t.Error("the mark of a box")
	}
	s := strings.Repeat("s", 32)
	n := x.Len()
	if k := x.Mark(s); string(k[:]) != s || x.Len() != n {
		t.Error("the mark of 32 bytes")
	}
	for _, s := range []string{"", "s", s[:31], s + "s"} {
		looks(t, x, x.Mark(s), api.Hash, "box"+s)
	}
}

// reachable is the document's definition of what can be derived, applied till nothing is added.
func reachable(x *term.Table, seen ...api.Key) func(api.Key) bool {
	n := x.Len()
	found := map[api.Key]int{}
	isName := func(k api.Key) bool { return x.Look(k).Kind != api.Raw }
	reserved := func(k api.Key) bool {
		return !isName(k) && string(k[:4]) == "term" && [24]byte(k[8:]) == [24]byte{}
	}
	has := func(k api.Key) bool {
		if isName(k) {
			return found[k] == 1
		}
		return !reserved(k)
	}
	for _, k := range seen {
		if isName(k) {
			found[k] = 1
		}
	}
	pubOf := map[api.Key]api.Key{}
	for i := range n {
		if l := x.Look(nameOf(uint32(i))); l.Kind == api.Pub {
			pubOf[l.Keys[0]] = nameOf(uint32(i))
		}
	}
	half := func(k api.Key) bool {
		p, ok := pubOf[k]
		return has(k) || ok && has(p)
	}
	for before := -1; before != len(found); {
		before = len(found)
		for i := range n {
			name := nameOf(uint32(i))
			l := x.Look(name)
			all := !slices.ContainsFunc(l.Keys, func(k api.Key) bool { return !has(k) })
			switch l.Kind {
			case api.Hash, api.Odd, api.Pub:
				if all {
					found[name] = 1
				}
			case api.Agree:
				if has(l.Keys[0]) && half(l.Keys[1]) || has(l.Keys[1]) && half(l.Keys[0]) {
					found[name] = 1
				}
			case api.Seal:
				if all {
					found[name] = 1
				}
				if has(name) && has(l.Keys[0]) {
					for _, k := range l.Keys[2:] {
						if isName(k) {
							found[k] = 1
						}
					}
				}
			}
		}
	}
	return has
}

// grow adds a term of some kind, made of the table's names, raw keys and names of later terms.
func grow(r *rand.Rand, x *term.Table) {
	pick := func() api.Key {
		switch n := r.Intn(12); {
		case n == 0:
			return rawKey("raw")
		case n == 1:
			return nameOf(uint32(x.Len() + r.Intn(3)))
		case n == 2:
			return nameOf(1 << 20)
		default:
			return nameOf(uint32(r.Intn(x.Len() + 1)))
		}
	}
	text := string(rune('a' + r.Intn(3)))
	switch r.Intn(8) {
	case 0, 1:
		x.Draw(text)
	case 2:
		x.Hash(text, pick(), pick())
	case 3:
		x.Pub(pick())
	case 4:
		x.Agree(pick(), x.Pub(pick()))
	case 5:
		x.Agree(pick(), pick())
	default:
		x.Seal(pick(), pick(), text, pick(), pick())
	}
}

func TestP8_4LikeTheDefinition(t *testing.T) {
	r := rand.New(rand.NewSource(1))
	for range 400 {
		x := term.New()
		for range 5 + r.Intn(40) {
			grow(r, x)
		}
		var seen []api.Key
		for range r.Intn(6) {
			seen = append(seen, nameOf(uint32(r.Intn(x.Len()+2))))
		}
		got, want := x.Follow(seen...), reachable(x, seen...)
		for i := range x.Len() + 3 {
			if k := nameOf(uint32(i)); got(k) != want(k) {
				t.Fatalf("the term %d, %v, of %x: %v", i, x.Look(k), seen, got(k))
			}
		}
	}
}

func TestP8_4RawAndLaterKeys(t *testing.T) {
	x := term.New()
	a := x.Draw("a")
	follows := x.Follow(nameOf(1), nameOf(77))
	b := x.Draw("b") // has the name that was seen ahead of it
	open := x.Hash("open")
	for _, k := range []api.Key{{}, rawKey("raw"), rawKey("term"), rawKey("ter\x00")} {
		if k != rawKey("term") && !follows(k) {
			t.Errorf("the raw key %x does not follow", k)
		}
	}
	for i := 8; i < 32; i++ {
		k := a
		k[i] = 1
		if !follows(k) {
			t.Errorf("%x does not follow", k)
		}
	}
	for _, k := range []api.Key{a, b, open, nameOf(3), nameOf(77), nameOf(1<<32 - 1)} {
		if follows(k) {
			t.Errorf("%x follows", k)
		}
	}
	if now := x.Follow(nameOf(1)); !now(b) || !now(open) || now(a) {
		t.Error("terms that exist now")
	}
	if never := term.New().Follow(); never(nameOf(0)) || !never(rawKey("r")) {
		t.Error("an empty table")
	}
}

func TestP8_4ReservedInBoxes(t *testing.T) {
	x := term.New()
	box := x.Mark(x.Seal(rawKey("k"), rawKey("b"), "", nameOf(1), nameOf(9)))
	if f := x.Follow(box); f(nameOf(1)) || f(nameOf(9)) {
		t.Error("a box gives away names of later terms")
	}
	x.Draw("later")
	if f := x.Follow(box); !f(nameOf(1)) || f(nameOf(9)) {
		t.Error("a box whose contents are a term by now")
	}
}

func TestP8_4Agreements(t *testing.T) {
	x := term.New()
	a, b := x.Draw("a"), x.Draw("b")
	k, _ := x.Agree(a, x.Pub(b))
	pa, pb := nameOf(uint32(x.Len())), x.Pub(b)
	if x.Follow(b, pa)(k) {
		t.Error("a public key that is no term yet")
	}
	x.Pub(a)
	for i, c := range []struct {
		seen []api.Key
		want bool
	}{
		{[]api.Key{a, pb}, true}, {[]api.Key{pb, a}, true}, {[]api.Key{b, pa}, true}, {[]api.Key{a, b}, true}, {[]api.Key{k}, true},
		{[]api.Key{a}, false}, {[]api.Key{b}, false}, {[]api.Key{pa, pb}, false}, {[]api.Key{a, pa}, false}, {nil, false},
	} {
		if x.Follow(c.seen...)(k) != c.want {
			t.Errorf("case %d", i)
		}
	}
	odd, _ := x.Agree(a, b)
	if x.Follow(a, pb)(odd) || x.Follow(b, pa)(odd) || !x.Follow(a, b)(odd) {
		t.Error("an Odd term needs both keys themselves")
	}
}

func TestP8_5MoreFollowsFromMore(t *testing.T) {
	r := rand.New(rand.NewSource(2))
	for range 200 {
		x := term.New()
		for range 40 {
			grow(r, x)
		}
		var seen []api.Key
		follows := x.Follow()
		for range 5 {
			seen = append(seen, nameOf(uint32(r.Intn(x.Len()))))
			more := x.Follow(seen...)
			var all []api.Key
			for i := range x.Len() {
				k := nameOf(uint32(i))
				if follows(k) && !more(k) {
					t.Fatal("less follows from more")
				}
				if more(k) {
					all = append(all, k)
				}
			}
			again := x.Follow(all...)
			for i := range x.Len() {
				if k := nameOf(uint32(i)); again(k) != more(k) {
					t.Fatal("what follows of all that follows does not follow itself")
				}
			}
			follows = more
		}
	}
}

func TestP8_6HashesAndBoxes(t *testing.T) {
	x := term.New()
	a, b, k := x.Draw("a"), x.Draw("b"), x.Draw("k")
	h, box := x.Hash("h", a, b), x.Mark(x.Seal(k, a, "text", a, b))
	if f := x.Follow(h); !f(h) || f(a) || f(b) {
		t.Error("a hash gives away its keys")
	}
	if f := x.Follow(box); !f(box) || f(a) || f(b) || f(k) {
		t.Error("a box gives away its contents")
	}
	if f := x.Follow(box, a); f(b) || f(k) {
		t.Error("what a box is bound to opens it")
	}
	if f := x.Follow(box, k); !f(a) || !f(b) {
		t.Error("a box's key does not open it")
	}
	bound := x.Mark(x.Seal(k, a, "", b))
	if f := x.Follow(bound, k); f(a) || !f(b) {
		t.Error("a box gives away what it is bound to")
	}
	if f := x.Follow(a, b, k); !f(box) || !f(h) {
		t.Error("boxes and hashes are not made")
	}
}

func TestP8_7BothSides(t *testing.T) {
	x := term.New()
	for _, a := range []api.Key{x.Draw("a"), rawKey("raw"), {}} {
		for _, b := range []api.Key{x.Draw("b"), rawKey("\xff"), a} {
			k, kok := x.Agree(a, x.Pub(b))
			l, lok := x.Agree(b, x.Pub(a))
			if !kok || !lok || k != l {
				t.Errorf("%x and %x", a, b)
			}
		}
	}
	if !reflect.DeepEqual(x.Look(nameOf(0)), x.Look(nameOf(0))) {
		t.Error("one key looks like two")
	}
}
