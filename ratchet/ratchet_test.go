package ratchet_test

import (
	"fmt"
	"math"
	"math/rand"
	"slices"
	"testing"

	"cabal/api"
	"cabal/ratchet"
	"cabal/suite"
)

func kits() []suite.Kit { return []suite.Kit{suite.Real{}, suite.NewFree()} }

func same(a, b api.Session) bool {
	return slices.Equal(a.Skips, b.Skips) && a.Mine == b.Mine && a.Theirs == b.Theirs && a.Root == b.Root && a.Send == b.Send &&
		a.Recv == b.Recv && a.Ns == b.Ns && a.Nr == b.Nr && a.Pn == b.Pn && a.Turn == b.Turn
}

// pair are the two sides' sessions.
func pair(t *testing.T, k suite.Kit) (up, down api.Session) {
	t.Helper()
	id, pre, id2, pre2 := k.Draw("id 0"), k.Draw("pre 0"), k.Draw("id 1"), k.Draw("pre 1")
	up, ok := ratchet.Start(k, true, id, pre, k.Pub(id2), k.Pub(pre2))
	down, ok2 := ratchet.Start(k, false, id2, pre2, k.Pub(id), k.Pub(pre))
	if !ok || !ok2 {
		t.Fatal("Start")
	}
	return up, down
}

// letter is a message under way.
type letter struct {
	head api.Head
	by   api.Key
	body string
	keys []api.Key
}

// send sends what must be sent.
func send(t *testing.T, k suite.Kit, s *api.Session, draw string, keys ...api.Key) letter {
	t.Helper()
	by := k.Hash("by " + draw)
	next, h, body, e := ratchet.Send(k, *s, draw, by, keys...)
	if e != api.OK {
		t.Fatalf("Send: %d", e)
	}
	*s = next
	return letter{h, by, body, keys}
}

// receive receives what must be received.
func receive(t *testing.T, k suite.Kit, s *api.Session, l letter) {
	t.Helper()
	next, keys, e := ratchet.Receive(k, *s, l.head, l.by, l.body)
	if e != api.OK || !slices.Equal(keys, l.keys) {
		t.Fatalf("Receive: %d, %x, not %x", e, keys, l.keys)
	}
	*s = next
}

// refuse checks that a message is not received, for this reason.
func refuse(t *testing.T, k suite.Kit, s api.Session, l letter, want api.Errno) {
	t.Helper()
	next, keys, e := ratchet.Receive(k, s, l.head, l.by, l.body)
	if e != want || len(keys) != 0 || !same(next, s) {
		t.Errorf("Receive: %d, not %d, %x", e, want, keys)
	}
}

func TestP14_1Start(t *testing.T) {
	for _, k := range kits() {
		id, pre, id2, pre2 := k.Draw("id 0"), k.Draw("pre 0"), k.Draw("id 1"), k.Draw("pre 1")
		a, _ := k.Agree(id, k.Pub(id2))
		b, _ := k.Agree(id, k.Pub(pre2))
		c, _ := k.Agree(pre, k.Pub(id2))
		d, _ := k.Agree(pre, k.Pub(pre2))
		base := k.Hash("base", a, b, c, d)
		up, down := pair(t, k)
		if !same(up, api.Session{Mine: pre, Theirs: k.Pub(pre2), Root: k.Hash("root", base), Send: k.Hash("up", base), Recv: k.Hash("down", base), Turn: true}) {
			t.Errorf("up: %v", up)
		}
		if !same(down, api.Session{Mine: pre2, Theirs: k.Pub(pre), Root: k.Hash("root", base), Send: k.Hash("down", base), Recv: k.Hash("up", base)}) {
			t.Errorf("down: %v", down)
		}
		for _, isUp := range []bool{true, false} {
			for _, theirs := range [][2]api.Key{{{}, k.Pub(pre2)}, {k.Pub(id2), {}}, {{}, {}}} {
				if s, ok := ratchet.Start(k, isUp, id, pre, theirs[0], theirs[1]); ok || !same(s, api.Session{}) {
					t.Errorf("a key that does not exist: %v", s)
				}
			}
		}
	}
}

// message is what a body must be.
func message(k suite.Kit, key api.Key, h api.Head, by api.Key, keys ...api.Key) string {
	return k.Seal(key, k.Hash(fmt.Sprintf("head %d %d", h.N, h.Prev), by, h.Pub), "", keys...)
}

func TestP14_2Send(t *testing.T) {
	for _, k := range kits() {
		s, _ := pair(t, k)
		s.Ns, s.Pn, s.Nr = 70, 3, 5
		s.Skips = []api.Skip{{Pub: k.Draw("p"), N: 1, Key: k.Draw("s")}}
		by, x, y := k.Draw("by"), k.Draw("x"), k.Draw("y")
		mine := k.Draw("name")
		agreed, _ := k.Agree(mine, s.Theirs)
		root, chain := suite.Two(k, "turn", s.Root, agreed)
		key, next := suite.Two(k, "step", chain)
		want := s
		want.Mine, want.Root, want.Send, want.Pn, want.Ns, want.Turn = mine, root, next, 70, 1, false
		h := api.Head{Pub: k.Pub(mine), N: 0, Prev: 70}
		got, head, body, e := ratchet.Send(k, s, "name", by, x, y)
		if e != api.OK || !same(got, want) || head != h || body != message(k, key, h, by, x, y) {
			t.Errorf("a session that turns: %d, %v, %v", e, got, head)
		}
		key, next = suite.Two(k, "step", want.Send)
		want.Send, want.Ns = next, 2
		h.N = 1
		got, head, body, e = ratchet.Send(k, got, "other", by)
		if e != api.OK || !same(got, want) || head != h || body != message(k, key, h, by) {
			t.Errorf("a session that does not turn: %d, %v, %v", e, got, head)
		}
	}
}

func TestP14_2SendErrors(t *testing.T) {
	for _, k := range kits() {
		up, down := pair(t, k)
		up.Theirs = api.Key{}
		if s, h, body, e := ratchet.Send(k, up, "d", up.Root, up.Mine); e != api.ErrPub || !same(s, up) || h != (api.Head{}) || body != "" {
			t.Errorf("no agreement: %d", e)
		}
		down.Ns = math.MaxUint32
		if s, h, body, e := ratchet.Send(k, down, "d", up.Root, up.Mine); e != api.ErrMany || !same(s, down) || h != (api.Head{}) || body != "" {
			t.Errorf("too many: %d", e)
		}
		down.Theirs = api.Key{}
		down.Ns--
		if s, h, _, e := ratchet.Send(k, down, "d", up.Root, up.Mine); e != api.OK || h.N != math.MaxUint32-1 || s.Ns != math.MaxUint32 {
			t.Errorf("the last one: %d", e)
		}
		full, _ := pair(t, k)
		full.Ns = math.MaxUint32
		if s, h, _, e := ratchet.Send(k, full, "d", up.Root); e != api.OK || h.Prev != math.MaxUint32 || s.Ns != 1 {
			t.Errorf("a turn behind too many: %d", e)
		}
	}
}

func TestP14_3ReceiveInOrder(t *testing.T) {
	for _, k := range kits() {
		up, down := pair(t, k)
		x, y := k.Draw("x"), k.Draw("y")
		agreed, _ := k.Agree(down.Mine, k.Pub(k.Draw("first")))
		root, chain := suite.Two(k, "turn", down.Root, agreed)
		_, next := suite.Two(k, "step", chain)
		want := down
		want.Root, want.Recv, want.Theirs, want.Nr, want.Turn = root, next, k.Pub(k.Draw("first")), 1, true
		receive(t, k, &down, send(t, k, &up, "first", x, y))
		if !same(down, want) {
			t.Errorf("a new public key: %v, not %v", down, want)
		}
		_, want.Recv = suite.Two(k, "step", want.Recv)
		want.Nr = 2
		receive(t, k, &down, send(t, k, &up, "second"))
		if !same(down, want) {
			t.Errorf("a known public key: %v, not %v", down, want)
		}
		for i := range 10 {
			receive(t, k, &up, send(t, k, &down, fmt.Sprint("back ", i), x))
			receive(t, k, &down, send(t, k, &up, fmt.Sprint("forth ", i), y))
		}
	}
}

func TestP14_3DownFirst(t *testing.T) {
	for _, k := range kits() {
		up, down := pair(t, k)
		a, b := send(t, k, &down, "a"), send(t, k, &down, "b")
		if a.head.Pub != up.Theirs || down.Turn {
			t.Error("the side without a turn turns")
		}
		receive(t, k, &up, b)
		if len(up.Skips) != 1 || !up.Turn || up.Nr != 2 || up.Skips[0].N != 0 || up.Skips[0].Pub != up.Theirs {
			t.Errorf("%v", up)
		}
		receive(t, k, &up, a)
		if len(up.Skips) != 0 || up.Nr != 2 {
			t.Errorf("%v", up)
		}
	}
}

func TestP14_3Skips(t *testing.T) {
	for _, k := range kits() {
		up, down := pair(t, k)
		var l []letter
		for i := range 4 {
			l = append(l, send(t, k, &up, fmt.Sprint(i), k.Draw(fmt.Sprint("x", i))))
		}
		receive(t, k, &down, l[1]) // 0 is skipped
		back := send(t, k, &down, "back")
		receive(t, k, &up, back)
		for i := range 3 {
			l = append(l, send(t, k, &up, fmt.Sprint("later", i)))
		}
		receive(t, k, &down, l[6]) // 2 and 3 of the first secret, 0 and 1 of the second one
		first, second := l[0].head.Pub, l[6].head.Pub
		var got []string
		for _, x := range down.Skips {
			got = append(got, fmt.Sprint(x.Pub == first, x.Pub == second, x.N))
		}
		if !slices.Equal(got, []string{"true false 0", "true false 2", "true false 3", "false true 0", "false true 1"}) {
			t.Errorf("%v", got)
		}
		if down.Nr != 3 || !down.Turn || down.Theirs != second {
			t.Errorf("%v", down)
		}
		before := down
		receive(t, k, &down, l[3])
		if len(down.Skips) != 4 || down.Skips[1].N != 2 || down.Skips[2].Pub != second || down.Nr != before.Nr || down.Recv != before.Recv {
			t.Errorf("a skip is not just removed: %v", down)
		}
		for _, i := range []int{4, 0, 5, 2} {
			receive(t, k, &down, l[i])
		}
		for i, x := range l {
			want := api.ErrOld
			if i < 4 {
				want = api.ErrPub // of a public key that is not known any more
			}
			refuse(t, k, down, x, want)
		}
	}
}

func TestP14_3ReceiveErrors(t *testing.T) {
	for _, k := range kits() {
		up, down := pair(t, k)
		x := k.Draw("x")
		a, b := send(t, k, &up, "a", x), send(t, k, &up, "b", x)
		changed := func(l letter, change func(*letter)) letter {
			change(&l)
			return l
		}
		refuse(t, k, down, changed(a, func(l *letter) { l.by = x }), api.ErrTag)
		refuse(t, k, down, changed(a, func(l *letter) { l.body = b.body }), api.ErrTag)
		refuse(t, k, down, changed(a, func(l *letter) { l.body = "" }), api.ErrTag)
		refuse(t, k, down, changed(a, func(l *letter) { l.head.N = 1 }), api.ErrTag)
		refuse(t, k, down, changed(a, func(l *letter) { l.head.Prev = 1 }), api.ErrTag)
		refuse(t, k, down, changed(a, func(l *letter) { l.head.Pub = k.Pub(x) }), api.ErrTag)
		refuse(t, k, down, changed(a, func(l *letter) { l.head.Pub = api.Key{} }), api.ErrPub)
		refuse(t, k, down, changed(a, func(l *letter) { l.head.Prev = math.MaxUint32 }), api.ErrFar)
		refuse(t, k, down, changed(a, func(l *letter) { l.head.N = math.MaxUint32 }), api.ErrFar)
		refuse(t, k, down, changed(a, func(l *letter) { l.head.N, l.head.Prev = math.MaxUint32-1, math.MaxUint32-1 }), api.ErrFar)
		refuse(t, k, down, changed(a, func(l *letter) { l.head.N, l.head.Prev = 8, 9 }), api.ErrFar)
		refuse(t, k, down, changed(a, func(l *letter) { l.head.N, l.head.Prev = 8, 8 }), api.ErrTag)
		refuse(t, k, up, changed(a, func(l *letter) {}), api.ErrTag) // one's own message, if one may not turn
		receive(t, k, &down, b)
		refuse(t, k, down, b, api.ErrOld)
		refuse(t, k, down, changed(a, func(l *letter) { l.by = x }), api.ErrTag) // a skip
		refuse(t, k, down, changed(b, func(l *letter) { l.head.N = 2 }), api.ErrTag)
		refuse(t, k, down, changed(b, func(l *letter) { l.head.N = math.MaxUint32 }), api.ErrFar)
		refuse(t, k, down, changed(b, func(l *letter) { l.head.N = 17 }), api.ErrTag)
		refuse(t, k, down, changed(b, func(l *letter) { l.head.N = 18 }), api.ErrFar)
		refuse(t, k, down, changed(b, func(l *letter) { l.head.Pub = k.Pub(x) }), api.ErrPub) // it may turn
		send(t, k, &down, "turn")
		low := changed(b, func(l *letter) { l.head.Pub, l.head.Prev = k.Pub(x), 1 })
		refuse(t, k, down, low, api.ErrPub)
		refuse(t, k, down, changed(low, func(l *letter) { l.head.Prev = 2 }), api.ErrTag)
	}
}

func TestP14_3LastNumbers(t *testing.T) {
	const last = math.MaxUint32
	k := suite.NewFree()
	up, down := pair(t, k)
	receive(t, k, &down, send(t, k, &up, "a"))
	at := func(s api.Session, nr uint32) api.Session {
		s.Nr = nr
		return s
	}
	known := api.Head{Pub: down.Theirs, N: last}
	refuse(t, k, at(down, last-1), letter{head: known}, api.ErrFar)
	refuse(t, k, at(down, last), letter{head: known}, api.ErrFar)
	known.N--
	refuse(t, k, at(down, last-1), letter{head: known}, api.ErrTag)
	refuse(t, k, at(down, last-2), letter{head: known}, api.ErrTag)
	other := api.Head{Pub: k.Pub(k.Draw("x")), Prev: last}
	refuse(t, k, at(down, last), letter{head: other}, api.ErrPub) // it may turn
	send(t, k, &down, "turn")
	refuse(t, k, at(down, last), letter{head: other}, api.ErrFar)
	refuse(t, k, at(down, last-1), letter{head: other}, api.ErrFar)
	other.Prev--
	refuse(t, k, at(down, last-1), letter{head: other}, api.ErrTag)
	refuse(t, k, at(down, last), letter{head: other}, api.ErrPub)
	other.N = last
	refuse(t, k, at(down, last-1), letter{head: other}, api.ErrFar)
}

// manySkips has keys of messages that never come.
func manySkips(k suite.Kit, n int) []api.Skip {
	var l []api.Skip
	for i := range n {
		l = append(l, api.Skip{Pub: k.Draw("p"), N: uint32(i), Key: k.Draw("s")})
	}
	return l
}

func TestP14_3FullOfSkips(t *testing.T) {
	k := suite.NewFree()
	for _, n := range []int{15, 16} {
		up, down := pair(t, k)
		a, b := send(t, k, &up, "a"), send(t, k, &up, "b")
		down.Skips = manySkips(k, n)
		receive(t, k, &down, a) // nothing is skipped
		receive(t, k, &down, b)
		c, d := send(t, k, &up, "c"), send(t, k, &up, "d")
		if n < 16 {
			receive(t, k, &down, d)
		} else {
			refuse(t, k, down, d, api.ErrFar)
			receive(t, k, &down, c)
			receive(t, k, &down, d)
		}
	}
	up, down := pair(t, k)
	receive(t, k, &down, send(t, k, &up, "a"))
	down.Skips = manySkips(k, 20)
	receive(t, k, &down, send(t, k, &up, "b")) // the next message of a known public key needs none
	if len(down.Skips) != 20 {
		t.Errorf("%d skips", len(down.Skips))
	}
}

func TestP14_3FirstSkip(t *testing.T) {
	k := suite.NewFree()
	_, down := pair(t, k)
	p, one, two, x := k.Pub(k.Draw("p")), k.Draw("one"), k.Draw("two"), k.Draw("x")
	down.Skips = []api.Skip{{Pub: p, N: 5, Key: one}, {Pub: p, N: 5, Key: two}}
	h, by := api.Head{Pub: p, N: 5, Prev: 9}, k.Draw("by")
	refuse(t, k, down, letter{h, by, message(k, two, h, by, x), nil}, api.ErrTag)
	receive(t, k, &down, letter{h, by, message(k, one, h, by, x), []api.Key{x}})
	if len(down.Skips) != 1 || down.Skips[0].Key != two {
		t.Errorf("%v", down.Skips)
	}
}

func TestP14_3Copies(t *testing.T) {
	k := suite.NewFree()
	up, down := pair(t, k)
	down.Skips = append(make([]api.Skip, 0, 20), manySkips(k, 2)...)
	spare := down.Skips[:3]
	send(t, k, &up, "a")
	l := send(t, k, &up, "b")
	got, _, e := ratchet.Receive(k, down, l.head, l.by, l.body)
	if e != api.OK || spare[2] != (api.Skip{}) {
		t.Errorf("an argument's spare room is written to, or %d", e)
	}
	got.Skips[0].N = 77
	sent, _, _, _ := ratchet.Send(k, got, "c", l.by)
	sent.Skips[1].N = 78
	if down.Skips[0].N != 0 || got.Skips[1].N != 1 {
		t.Error("a result shares an argument's skips")
	}
}

// talk lets two sides send and receive in any order, with no more than late messages under way, and calls check behind each step.
func talk(t *testing.T, r *rand.Rand, k suite.Kit, late, steps int, check func(sides [2]api.Session, seen []letter, by [2][]int)) {
	var sides [2]api.Session
	sides[0], sides[1] = pair(t, k)
	var all []letter
	var way [2][]int // letters under way to a side
	var had [2][]int // letters that a side sent or received
	for i := range steps {
		to := r.Intn(2)
		if len(way[to]) < late && r.Intn(2) == 0 {
			l := send(t, k, &sides[1-to], fmt.Sprint("draw ", i), k.Draw(fmt.Sprint("content ", i)))
			way[to] = append(way[to], len(all))
			had[1-to] = append(had[1-to], len(all))
			all = append(all, l)
		} else if len(way[to]) > 0 {
			at := r.Intn(len(way[to]))
			l := all[way[to][at]]
			receive(t, k, &sides[to], l)
			if _, _, e := ratchet.Receive(k, sides[to], l.head, l.by, l.body); e == api.OK {
				t.Fatal("a message is received twice")
			}
			had[to] = append(had[to], way[to][at])
			way[to] = slices.Delete(way[to], at, at+1)
		}
		check(sides, all, had)
	}
}

func TestP14_4AnyOrder(t *testing.T) {
	r := rand.New(rand.NewSource(1))
	none := func([2]api.Session, []letter, [2][]int) {}
	for range 60 {
		talk(t, r, suite.NewFree(), 16, 200, none)
	}
	talk(t, r, suite.Real{}, 8, 120, none)
}

func TestP14_5NothingOfThePast(t *testing.T) {
	r := rand.New(rand.NewSource(2))
	for range 12 {
		k := suite.NewFree()
		talk(t, r, k, 6, 40, func(sides [2]api.Session, all []letter, had [2][]int) {
			for i, s := range sides {
				seen := []api.Key{s.Mine, s.Theirs, s.Root, s.Send, s.Recv}
				for _, x := range s.Skips {
					seen = append(seen, x.Key)
				}
				for _, l := range all {
					seen = append(seen, l.head.Pub, k.Mark(l.body))
				}
				follows := k.Follow(seen...)
				for _, at := range had[i] {
					if l := all[at]; follows(k.Look(k.Mark(l.body)).Keys[0]) || follows(l.keys[0]) {
						t.Fatalf("a key or a content of message %d follows from the session of side %d", at, i)
					}
				}
			}
		})
	}
}
