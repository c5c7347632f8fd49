package foe_test

import (
	"math"
	"math/rand"
	"slices"
	"strings"
	"testing"

	"cabal/api"
	"cabal/foe"
	"cabal/suite"
)

func rawKey(s string) api.Key {
	var k api.Key
	copy(k[:], s)
	return k
}

func TestP24_1Make(t *testing.T) {
	k := suite.NewFree()
	a, b := k.Draw("a"), k.Draw("b")
	seen := []api.Key{a, b}
	made := foe.Make(k, seen,
		api.Cook{Kind: api.CookSeen, N: 1},
		api.Cook{Kind: api.CookDraw, Text: "n"},
		api.Cook{Kind: api.CookHash, Text: "t", Keys: []int{0, 1, 0}},
		api.Cook{Kind: api.CookHash, Text: "alone"},
		api.Cook{Kind: api.CookPub, Keys: []int{1, 0}},
		api.Cook{Kind: api.CookAgree, Keys: []int{0, 4, 1}},
		api.Cook{Kind: api.CookSeal, Text: "s", Keys: []int{0, 1, 2, 3}},
		api.Cook{Kind: api.CookOpen, Keys: []int{0, 1, 6}},
		api.Cook{Kind: api.CookRaw, Raw: rawKey("raw")},
		api.Cook{Kind: api.CookSeal, Keys: []int{9, 9}},
		api.Cook{Kind: api.CookOpen, Keys: []int{9, 9, 10, 0}},
		api.Cook{Kind: api.CookSeen},
		api.Cook{Kind: api.CookDraw},
		api.Cook{Kind: api.CookPub, Keys: []int{3}},
		api.Cook{Kind: api.CookAgree, Keys: []int{1, 4}},
		api.Cook{Kind: api.CookOpen, Keys: []int{0, 1, 6}},
	)
	n := k.Draw("foe n")
	hash, alone := k.Hash("t", b, n, b), k.Hash("alone")
	pub := k.Pub(n)
	agreed, _ := k.Agree(b, pub)
	first, second := k.Mark(k.Seal(b, n, "s", hash, alone)), k.Mark(k.Seal(rawKey("raw"), rawKey("raw"), ""))
	own, _ := k.Agree(n, pub)
	want := []api.Key{b, n, hash, alone, pub, agreed, first, hash, alone, rawKey("raw"), second, a, k.Draw("foe "), k.Pub(alone), own, hash, alone}
	if !slices.Equal(made, want) {
		t.Errorf("%x, not %x", made, want)
	}
	if got := foe.Make(k, seen); len(got) != 0 {
		t.Errorf("no steps: %x", got)
	}
	if got := foe.Make(k, []api.Key{a}, api.Cook{Kind: api.CookSeen}, api.Cook{Kind: api.CookDraw, Text: "n"}, api.Cook{Kind: api.CookHash, Text: "t", Keys: []int{0, 1}}); !slices.Equal(got, []api.Key{a, n, k.Hash("t", a, n)}) {
		t.Errorf("the document's example: %x", got)
	}
}

func TestP24_1NoEffect(t *testing.T) {
	k := suite.NewFree()
	a, zero := k.Draw("a"), api.Key{}
	seen, made := []api.Key{a, a}, []api.Key{a, zero, k.Pub(a)}
	box := k.Mark(k.Seal(a, a, "text", a))
	full := append(slices.Clone(made), box)
	for i, c := range []api.Cook{
		{}, {Kind: -1}, {Kind: 9}, {Kind: math.MaxInt}, {Kind: api.CookSeen, N: 2}, {Kind: api.CookSeen, N: -1}, {Kind: api.CookSeen, N: math.MaxInt},
		{Kind: api.CookHash, Keys: []int{4}}, {Kind: api.CookHash, Keys: []int{0, -1}}, {Kind: api.CookHash, Keys: []int{math.MinInt}}, {Kind: api.CookDraw, Keys: []int{9}}, {Kind: api.CookRaw, Raw: rawKey("r"), Keys: []int{9}}, {Kind: api.CookSeen, Keys: []int{9}},
		{Kind: api.CookPub}, {Kind: api.CookPub, Keys: []int{0, 9}}, {Kind: api.CookAgree}, {Kind: api.CookAgree, Keys: []int{0}}, {Kind: api.CookAgree, Keys: []int{0, 1}}, {Kind: api.CookSeal, Keys: []int{0}}, {Kind: api.CookSeal, Keys: []int{0, 0, 4}},
		{Kind: api.CookOpen, Keys: []int{0, 0}}, {Kind: api.CookOpen, Keys: []int{1, 0, 3}}, {Kind: api.CookOpen, Keys: []int{0, 1, 3}}, {Kind: api.CookOpen, Keys: []int{0, 0, 2}}, {Kind: api.CookOpen, Keys: []int{0, 0, 1}},
		{Kind: api.CookRaw, Raw: a}, {Kind: api.CookRaw, Raw: rawKey("term")}, {Kind: api.CookRaw, Raw: rawKey("term\xff\xff\xff\xff")}, {Kind: api.CookRaw, Raw: rawKey("term1234")},
	} {
		if got := foe.More(k, seen, full, c); !slices.Equal(got, full) {
			t.Errorf("step %d: %x", i, got)
		}
	}
	for _, raw := range []api.Key{zero, rawKey("ter"), rawKey("term0000x"), {'t', 'e', 'r', 'm', 31: 1}} {
		if got := foe.More(k, seen, full, api.Cook{Kind: api.CookRaw, Raw: raw}); len(got) != 5 || got[4] != raw {
			t.Errorf("raw %x: %x", raw, got)
		}
	}
	if got := foe.More(k, seen, full, api.Cook{Kind: api.CookOpen, Keys: []int{0, 0, 3}}); len(got) != 5 || got[4] != a {
		t.Errorf("an open box: %x", got)
	}
}

func TestP24_1Copies(t *testing.T) {
	k := suite.NewFree()
	a := k.Draw("a")
	made := append(make([]api.Key, 0, 9), a)
	for _, c := range []api.Cook{{}, {Kind: api.CookDraw}} {
		got := foe.More(k, nil, made, c)
		got[0] = api.Key{9}
		if made[0] != a || made[:2][1] != (api.Key{}) {
			t.Error("a result shares an argument's memory")
		}
	}
}

// sample is a frame with a bit of everything.
func sample(k suite.Free, kind int) api.Frame {
	o := api.Op{Kind: kind, Parents: []api.Key{k.Draw("p1"), k.Draw("p2")}, Of: k.Draw("of"), Check: k.Draw("check"), Text: "some text",
		Boxes: []api.Box{{Head: api.Head{Pub: k.Draw("pub1")}, Body: k.Seal(k.Draw("x"), k.Draw("y"), "")}, {Head: api.Head{Pub: k.Draw("pub2")}, Body: "short"}}}
	return api.Frame{Kind: api.FrameOp, Op: o, Ids: []api.Key{k.Draw("i1"), k.Draw("i2")}}
}

func TestP24_2Keys(t *testing.T) {
	k := suite.NewFree()
	for _, kind := range []int{api.OpSay, api.OpUpdate} {
		want := []api.Key{k.Draw("p1"), k.Draw("p2"), k.Draw("of"), k.Draw("check")}
		if kind == api.OpSay {
			want = append(want, k.Mark("some text"))
		}
		want = append(want, k.Draw("pub1"), k.Mark(k.Seal(k.Draw("x"), k.Draw("y"), "")), k.Draw("pub2"), k.Mark("short"), k.Draw("i1"), k.Draw("i2"))
		if got := foe.Keys(k, sample(k, kind)); !slices.Equal(got, want) {
			t.Errorf("kind %d: %x, not %x", kind, got, want)
		}
	}
	if got := foe.Keys(k, api.Frame{Kind: api.FrameHave, Ids: []api.Key{{5}, {4}}}); !slices.Equal(got[max(len(got)-2, 0):], []api.Key{{5}, {4}}) {
		t.Errorf("Ids: %x", got)
	}
}

func TestP24_2Fair(t *testing.T) {
	k := suite.NewFree()
	f := sample(k, api.OpSay)
	keys := foe.Keys(k, f)
	asked := map[api.Key]int{}
	if !foe.Fair(k, func(key api.Key) bool { asked[key]++; return true }, f) {
		t.Error("all follows, and it is not fair")
	}
	for _, key := range keys {
		if asked[key] == 0 {
			t.Errorf("%x is not asked for", key)
		}
		if foe.Fair(k, func(other api.Key) bool { return other != key }, f) {
			t.Errorf("%x does not follow, and it is fair", key)
		}
	}
	if len(asked) != len(keys) {
		t.Errorf("%d keys are asked for, of %d", len(asked), len(keys))
	}
}

// cooking is any steps of a stranger.
func cooking(r *rand.Rand, n int) []api.Cook {
	var l []api.Cook
	for i := range n {
		c := api.Cook{Kind: 1 + r.Intn(8), N: r.Intn(6), Text: strings.Repeat("x", r.Intn(3)), Raw: api.Key{byte(r.Intn(3))}}
		for range r.Intn(5) {
			c.Keys = append(c.Keys, r.Intn(i/2+2))
		}
		l = append(l, c)
	}
	return l
}

func TestP24_3AllFollows(t *testing.T) {
	r := rand.New(rand.NewSource(1))
	for range 150 {
		k := suite.NewFree()
		a, b := k.Draw("a"), k.Draw("b")
		seen := []api.Key{k.Pub(a), k.Hash("h", a), k.Mark(k.Seal(a, b, "t", b)), b, k.Mark(k.Seal(b, b, "t", k.Draw("c")))}
		steps := cooking(r, 40)
		made := foe.Make(k, seen, steps...)
		sources := slices.Clone(seen)
		for _, c := range steps {
			if c.Kind == api.CookDraw {
				sources = append(sources, k.Draw("foe "+c.Text))
			}
		}
		follows := k.Follow(sources...)
		for _, key := range made {
			if !follows(key) {
				t.Fatalf("%v is made, and does not follow", k.Look(key))
			}
		}
		var again []api.Key
		for _, c := range steps {
			again = foe.More(k, seen, again, c)
		}
		if !slices.Equal(again, made) {
			t.Fatal("step by step it is something else")
		}
	}
}

func TestP24_4SeenFrames(t *testing.T) {
	k := suite.NewFree()
	for _, kind := range []int{api.OpSay, api.OpAck} {
		f := sample(k, kind)
		keys := foe.Keys(k, f)
		if !foe.Fair(k, k.Follow(keys...), f) {
			t.Errorf("kind %d: all was seen, and it is not fair", kind)
		}
		for i := range keys {
			less := slices.Delete(slices.Clone(keys), i, i+1)
			if text := k.Look(keys[i]); text.Kind == api.Hash {
				continue // a text that is no box is known to all
			}
			if foe.Fair(k, k.Follow(less...), f) {
				t.Errorf("kind %d: the key %d was not seen, and it is fair", kind, i)
			}
		}
		f.Ids[0] = rawKey("term\xff")
		if foe.Fair(k, k.Follow(foe.Keys(k, f)...), f) {
			t.Errorf("kind %d: a later term's name, and it is fair", kind)
		}
		f.Ids[0] = rawKey("raw")
		if !foe.Fair(k, k.Follow(keys...), f) {
			t.Errorf("kind %d: a raw key, and it is not fair", kind)
		}
	}
}
