package chain_test

import (
	"fmt"
	"slices"
	"strings"
	"testing"

	"cabal/api"
	"cabal/chain"
	"cabal/frame"
	"cabal/suite"
)

func kits() []suite.Kit { return []suite.Kit{suite.Real{}, suite.NewFree()} }

func say(author int, text string) api.Op {
	return api.Op{Kind: api.OpSay, Author: author, Seq: 3, Parents: []api.Key{{5}, {6}}, Text: text, Boxes: []api.Box{{To: 7}}}
}

func known(k suite.Kit) api.Keys {
	var s api.Keys
	for i := range 3 {
		s.Ratchets[i] = api.Ratchet{Known: true, Key: k.Draw(fmt.Sprint("key ", i)), Chain: k.Draw(fmt.Sprint("chain ", i))}
	}
	s.Ratchets[3] = api.Ratchet{Lost: true}
	s.Waits = []api.Wait{{Who: 2, Key: k.Draw("wait")}}
	return s
}

func same(a, b api.Keys) bool {
	return a.Ratchets == b.Ratchets && slices.Equal(a.Waits, b.Waits)
}

func TestP18_1Seal(t *testing.T) {
	for _, k := range kits() {
		for _, text := range []string{"", "hello", strings.Repeat("x", 64)} {
			for author := range 3 {
				s := known(k)
				want := s
				key, next := suite.Two(k, "say", s.Ratchets[author].Chain)
				want.Ratchets[author].Chain = next
				for _, in := range []string{"", "other", strings.Repeat("z", 400)} { // its own Text does not matter
					got, message, e := chain.Seal(k, s, say(author, in), text)
					if e != api.OK || !same(got, want) || message != k.Seal(key, frame.By(k, say(author, "x")), text) {
						t.Errorf("%q by %d: %d", text, author, e)
					}
				}
			}
		}
	}
}

func TestP18_1SealErrors(t *testing.T) {
	k := suite.NewFree()
	long := strings.Repeat("x", 65)
	update := say(0, "")
	update.Kind, update.Check = api.OpUpdate, api.Key{1}
	noSeq := say(0, "t")
	noSeq.Seq = 0
	checked := say(0, "t")
	checked.Check = api.Key{1}
	for i, x := range []struct {
		o    api.Op
		text string
		e    api.Errno
	}{
		{say(0, "t"), long, api.ErrArg}, {say(3, "t"), long, api.ErrArg}, {update, "t", api.ErrArg}, {noSeq, "t", api.ErrArg}, {checked, "t", api.ErrArg}, {api.Op{}, "t", api.ErrArg},
		{say(8, "t"), "t", api.ErrArg}, {say(-1, "t"), "t", api.ErrArg}, {say(3, "t"), "t", api.ErrKeys}, {say(4, "t"), "t", api.ErrKeys},
	} {
		if s, message, e := chain.Seal(k, known(k), x.o, x.text); e != x.e || message != "" || !same(s, api.Keys{}) {
			t.Errorf("case %d: %d, not %d", i, e, x.e)
		}
	}
}

func TestP18_2Open(t *testing.T) {
	for _, k := range kits() {
		s := known(k)
		next, message, _ := chain.Seal(k, s, say(1, ""), "hello")
		good := say(1, message)
		if got, text, e := chain.Open(k, s, good); e != api.OK || text != "hello" || !same(got, next) {
			t.Errorf("Open: %d, %q", e, text)
		}
		key, _ := suite.Two(k, "say", s.Ratchets[1].Chain)
		by := frame.By(k, good)
		update, noSeq, other, later, parents := good, good, good, good, good
		update.Kind, update.Check, update.Text = api.OpUpdate, api.Key{1}, ""
		noSeq.Seq = 0
		other.Author, later.Seq, parents.Parents = 2, 4, []api.Key{{5}}
		boxes := good
		boxes.Boxes = nil
		for i, x := range []struct {
			o api.Op
			e api.Errno
		}{
			{update, api.ErrArg}, {noSeq, api.ErrArg}, {say(1, ""), api.ErrArg}, {say(1, strings.Repeat("t", 257)), api.ErrArg}, {api.Op{}, api.ErrArg},
			{say(3, message), api.ErrKeys}, {say(5, message), api.ErrKeys}, {other, api.ErrTag}, {later, api.ErrTag}, {parents, api.ErrTag}, {say(1, "t"), api.ErrTag}, {say(1, message+"t"), api.ErrTag},
			{say(1, k.Seal(key, by, "hello", api.Key{1})), api.ErrTag}, {say(1, k.Seal(key, by, strings.Repeat("x", 65))), api.ErrTag}, {say(1, k.Seal(s.Ratchets[1].Chain, by, "hello")), api.ErrTag},
			{say(1, k.Seal(key, by, strings.Repeat("x", 64))), api.OK}, {say(1, k.Seal(key, by, "")), api.OK}, {boxes, api.OK},
		} {
			got, text, e := chain.Open(k, s, x.o)
			if e != x.e || e != api.OK && (text != "" || !same(got, api.Keys{})) {
				t.Errorf("case %d: %d, not %d", i, e, x.e)
			}
		}
	}
}

func TestP18_1And2Copies(t *testing.T) {
	k := suite.NewFree()
	s := known(k)
	next, message, _ := chain.Seal(k, s, say(1, ""), "hello")
	opened, _, _ := chain.Open(k, s, say(1, message))
	next.Waits[0].Who, opened.Waits[0].Who = 70, 71
	if s.Waits[0].Who != 2 || next.Waits[0].Who != 70 {
		t.Error("a result shares an argument's memory")
	}
}

func TestP18_3OneAfterTheOther(t *testing.T) {
	for _, k := range kits() {
		sender, receiver := known(k), known(k)
		receiver.Ratchets[0] = api.Ratchet{Lost: true}
		for i := range 30 {
			o := say(1, "")
			o.Seq = uint32(i + 1)
			text := fmt.Sprint("message ", i)
			var e api.Errno
			if sender, o.Text, e = chain.Seal(k, sender, o, text); e != api.OK {
				t.Fatalf("Seal: %d", e)
			}
			var got string
			if receiver, got, e = chain.Open(k, receiver, o); e != api.OK || got != text {
				t.Fatalf("Open: %d, %q", e, got)
			}
			if receiver.Ratchets[1] != sender.Ratchets[1] {
				t.Fatal("other chains")
			}
		}
	}
}

func TestP18_4NothingOfThePast(t *testing.T) {
	k := suite.NewFree()
	s := known(k)
	var messages []api.Op
	for i := range 10 {
		before := s
		o := say(1, "")
		o.Seq = uint32(i + 1)
		next, message, e := chain.Seal(k, s, o, "text")
		if e != api.OK {
			t.Fatal(e)
		}
		o.Text = message
		messages = append(messages, o)
		s = next
		seen := []api.Key{s.Waits[0].Key}
		for _, r := range s.Ratchets {
			seen = append(seen, r.Chain)
		}
		for _, m := range messages {
			seen = append(seen, k.Mark(m.Text))
		}
		follows := k.Follow(seen...)
		if follows(before.Ratchets[1].Chain) || follows(k.Look(k.Mark(message)).Keys[0]) {
			t.Fatalf("message %d: its key, or the chain of before, follows", i)
		}
		for _, m := range messages {
			if _, _, e := chain.Open(k, s, m); e != api.ErrTag {
				t.Fatalf("a message is opened twice: %d", e)
			}
		}
	}
}
