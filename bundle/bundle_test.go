package bundle_test

import (
	"fmt"
	"slices"
	"testing"

	"cabal/api"
	"cabal/bundle"
	"cabal/suite"
)

func kits() []suite.Kit { return []suite.Kit{suite.Real{}, suite.NewFree()} }

// store is one with so many secrets that are used once.
func store(k suite.Kit, n int) api.Store {
	s := api.Store{Id: k.Draw("store id"), Pre: k.Draw("store pre")}
	for i := range n {
		s.Ones = append(s.Ones, k.Draw(fmt.Sprint("one ", i)))
	}
	return s
}

func sameStore(a, b api.Store) bool {
	return a.Id == b.Id && a.Pre == b.Pre && slices.Equal(a.Ones, b.Ones)
}

func sameBundle(a, b api.Bundle) bool {
	return a.Id == b.Id && a.Pre == b.Pre && slices.Equal(a.Ones, b.Ones)
}

func must(t *testing.T, k suite.Kit, secret, public api.Key) api.Key {
	t.Helper()
	key, ok := k.Agree(secret, public)
	if !ok {
		t.Fatal("nothing was agreed on")
	}
	return key
}

func TestP28_1Show(t *testing.T) {
	for _, k := range kits() {
		for n := range 4 {
			s := store(k, n)
			want := api.Bundle{Id: k.Pub(s.Id), Pre: k.Pub(s.Pre)}
			for _, one := range s.Ones {
				want.Ones = append(want.Ones, k.Pub(one))
			}
			if got := bundle.Show(k, s); !sameBundle(got, want) {
				t.Errorf("%d: %v", n, got)
			}
		}
	}
}

func TestP28_2Begin(t *testing.T) {
	for _, k := range kits() {
		id, eph := k.Draw("id"), k.Draw("eph")
		for n := range 3 {
			b := bundle.Show(k, store(k, n))
			keys := []api.Key{must(t, k, id, b.Pre), must(t, k, eph, b.Id), must(t, k, eph, b.Pre)}
			wantHello := api.Hello{Id: k.Pub(id), Eph: k.Pub(eph)}
			wantRest := b
			if n > 0 {
				keys = append(keys, must(t, k, eph, b.Ones[0]))
				wantHello.One, wantRest.Ones = b.Ones[0], b.Ones[1:]
			}
			h, secret, rest, e := bundle.Begin(k, id, eph, b)
			if e != api.OK || h != wantHello || secret != k.Hash("hello", keys...) || !sameBundle(rest, wantRest) {
				t.Errorf("%d: %d, %v, %x, %v", n, e, h, secret, rest)
			}
		}
	}
}

func TestP28_2BeginErrors(t *testing.T) {
	for _, k := range kits() {
		good := bundle.Show(k, store(k, 2))
		noId, noPre, noOne, later := good, good, good, good
		noId.Id, noPre.Pre = api.Key{}, api.Key{}
		noOne.Ones = []api.Key{{}, good.Ones[1]}
		later.Ones = []api.Key{good.Ones[0], {}}
		for i, b := range []api.Bundle{noId, noPre, noOne} {
			h, secret, rest, e := bundle.Begin(k, k.Draw("id"), k.Draw("eph"), b)
			if e != api.ErrPub || h != (api.Hello{}) || secret != (api.Key{}) || !sameBundle(rest, api.Bundle{}) {
				t.Errorf("case %d: %d", i, e)
			}
		}
		if _, _, rest, e := bundle.Begin(k, k.Draw("id"), k.Draw("eph"), later); e != api.OK || len(rest.Ones) != 1 {
			t.Errorf("one that is not used: %d", e)
		}
	}
	low := bundle.Show(suite.Real{}, store(suite.Real{}, 1))
	low.Ones[0] = api.Key{1} // agrees with nobody
	if _, _, _, e := bundle.Begin(suite.Real{}, api.Key{1}, api.Key{2}, low); e != api.ErrPub {
		t.Errorf("one that agrees with nobody: %d", e)
	}
}

func TestP28_3Answer(t *testing.T) {
	for _, k := range kits() {
		s := store(k, 3)
		s.Ones = append(s.Ones, s.Ones[1]) // there twice
		id, eph := k.Draw("id"), k.Draw("eph")
		for used := -1; used < 3; used++ {
			h := api.Hello{Id: k.Pub(id), Eph: k.Pub(eph)}
			keys := []api.Key{must(t, k, s.Pre, h.Id), must(t, k, s.Id, h.Eph), must(t, k, s.Pre, h.Eph)}
			want := s
			if used >= 0 {
				h.One = k.Pub(s.Ones[used])
				keys = append(keys, must(t, k, s.Ones[used], h.Eph))
				want.Ones = slices.Delete(slices.Clone(s.Ones), used, used+1)
			}
			rest, secret, e := bundle.Answer(k, s, h)
			if e != api.OK || secret != k.Hash("hello", keys...) || !sameStore(rest, want) {
				t.Errorf("%d: %d, %x, %v", used, e, secret, rest)
			}
		}
	}
}

func TestP28_3AnswerErrors(t *testing.T) {
	for _, k := range kits() {
		s := store(k, 2)
		good := api.Hello{Id: k.Pub(k.Draw("id")), Eph: k.Pub(k.Draw("eph")), One: k.Pub(s.Ones[1])}
		for i, x := range []struct {
			h api.Hello
			e api.Errno
		}{
			{api.Hello{Id: good.Id, Eph: good.Eph, One: k.Pub(k.Draw("other"))}, api.ErrNone}, {api.Hello{Id: good.Id, Eph: good.Eph, One: s.Ones[0]}, api.ErrNone}, {api.Hello{One: k.Pub(k.Draw("other"))}, api.ErrNone},
			{api.Hello{Eph: good.Eph, One: good.One}, api.ErrPub}, {api.Hello{Id: good.Id, One: good.One}, api.ErrPub}, {api.Hello{}, api.ErrPub}, {api.Hello{Id: good.Id}, api.ErrPub}, {api.Hello{Eph: good.Eph}, api.ErrPub},
		} {
			if rest, secret, e := bundle.Answer(k, s, x.h); e != x.e || secret != (api.Key{}) || !sameStore(rest, api.Store{}) {
				t.Errorf("case %d: %d, not %d", i, e, x.e)
			}
		}
	}
}

func TestP28_2And3Copies(t *testing.T) {
	k := suite.NewFree()
	s := store(k, 3)
	b := bundle.Show(k, s)
	h, _, rest, _ := bundle.Begin(k, k.Draw("id"), k.Draw("eph"), b)
	left, _, _ := bundle.Answer(k, s, h)
	h.One = api.Key{}
	all, _, _ := bundle.Answer(k, s, h)
	rest.Ones[0], left.Ones[0], all.Ones[0] = api.Key{9}, api.Key{9}, api.Key{9}
	if !sameStore(s, store(k, 3)) || !sameBundle(b, bundle.Show(k, s)) {
		t.Error("a result shares an argument's memory")
	}
}

func TestP28_4BothSides(t *testing.T) {
	for _, k := range kits() {
		s := store(k, 2)
		b := bundle.Show(k, s)
		for i := range 4 { // two with one of Ones, two without
			h, secret, rest, e := bundle.Begin(k, k.Draw("id"), k.Draw(fmt.Sprint("eph ", i)), b)
			left, same, f := bundle.Answer(k, s, h)
			if e != api.OK || f != api.OK || secret != same || !sameBundle(bundle.Show(k, left), rest) {
				t.Fatalf("%d: %d, %d, %x and %x", i, e, f, secret, same)
			}
			if _, _, e := bundle.Answer(k, left, h); (h.One != api.Key{}) != (e == api.ErrNone) {
				t.Errorf("%d: a greeting is answered again: %d", i, e)
			}
			b, s = rest, left
		}
	}
}

func TestP28_5Secrecy(t *testing.T) {
	for n := range 3 {
		k := suite.NewFree()
		s := store(k, n)
		b := bundle.Show(k, s)
		h, secret, _, _ := bundle.Begin(k, k.Draw("id"), k.Draw("eph"), b)
		left, _, _ := bundle.Answer(k, s, h)
		seen := append([]api.Key{h.Id, h.Eph, h.One, b.Id, b.Pre}, b.Ones...)
		if k.Follow(seen...)(secret) {
			t.Errorf("%d: the secret follows from what is seen", n)
		}
		kept := append(append(seen, left.Id, left.Pre), left.Ones...)
		if k.Follow(kept...)(secret) != (n == 0) {
			t.Errorf("%d: the secret follows from what the store still has: %v", n, n > 0)
		}
		if !k.Follow(append(seen, k.Draw("id"), k.Draw("eph"))...)(secret) {
			t.Errorf("%d: the secret does not follow from the initiator's secrets", n)
		}
	}
}
